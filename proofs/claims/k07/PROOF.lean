import PyProof.Rows.All
import Wide.All
import OpenK.AllK
import Wide.FinOn
import HandS.ForMost
import HandS.ExcInit
import HandS.IsInst
import HandS.Wide
import HandS.EndBits
import HandS.ExcField
import KE.KExcIs
import HandS.ExcIs
import HandS.ExcOwn
import HandS.ExcValue
import HandS.Evl
import HandS.Zip
import HandS.ForExc
import HandS.Gcd
import HandS.Style
import HandS.TryMany
import HandS.Lambda
import HandS.EndTab
import HandS.CallLocal
import HandS.Dict
import KE.KDictKeyed
import PySem.Challenge.RW_allbids_k07_lists_refused
set_option Elab.async false
set_option linter.all false
set_option maxRecDepth 100000
set_option maxHeartbeats 4000000
/-! ## GG: calls around which no repr is under way -/
namespace GG
open PySem PySem.Spec PyProof.Rows L2
section
variable {P : Program} {w : World} {K : PySem.W.Frag} {mg : Str → Option Value} {base : Heap}

/-- the def at f keeps sp wherever nothing guarded is under way -/
structure FnG (P : Program) (w : World) (K : PySem.W.Frag) (mg : Str → Option Value) (base : Heap) (k : Nat) (f : Addr) (fd : FuncData) (ps : List Str) (sp : Sp) : Prop where
  cnt : ∀ vs H Q E, sp vs H Q E → vs.length = ps.length
  go : ∀ (A : Around) (out : List Env) (s : Shared) (H : Hp) (args : Args) (us : List Value) (vs : List V) (Q : VK) (E : XK), A.guards = some [] → Room k A →
    Env0 P w K mg base A out s H → BindsTo s fd args (ps.zip us) → Vals vs us → sp vs H Q E → codeAny (model P w) A (.call (.ref f) args) (CR CX0 out P w H s Q E) s

theorem FnG.of {k : Nat} {f : Addr} {fd : FuncData} {ps : List Str} {sp : Sp} (F : FnOk P w K mg base CX0 k f fd ps sp) : FnG P w K mg base k f fd ps sp :=
  ⟨F.len, fun A out s H args us vs Q E _ room => F.run A out s H args us vs Q E room⟩

theorem fnG {x qual : Str} {st : Stmt} {f : Addr} {fd : FuncData} {N ps : List Str} {k : Nat} {sp : Sp} (F : Fun K x qual st f fd) (S : FnScope N ps (defScope st)) (cnt : ∀ vs H Q E, sp vs H Q E → vs.length = ps.length)
    (body : ∀ (cdv : Value) (A : Around) (out : List Env) (s : Shared) (H : Hp) (vs : List V) (Q : VK) (E : XK), A.guards = some [] → Room k (A.deeper (envOfC qual (defScope st) s.heap.objs.size f cdv)) → sp vs H Q E →
      ∃ t, PSs (cxOf CX0 P w K mg base N qual (defScope st) f cdv A out s H E).nox (defBody st) t ∧ t { nx := fun _ H' => Q .non H', rt := Q } (start N vs) H) :
    FnG P w K mg base (k + 1) f fd ps sp := by
  obtain ⟨oc, od, kV, doc, pm, an, cdv, ct, osl, rfl, look, code⟩ := F.ex
  refine ⟨cnt, ?_⟩
  intro A out s H args us vs Q E noG room env bnd rel prom
  have many := cnt _ _ _ _ prom
  have inK : K.In s.heap := env.mod.kin.keeps fun b o q => (env.bs b o q).1
  have free : s.heap.NoLimit := env.mod.nolimit.keeps fun b o q => (env.bs b o q).1
  have kinds : ∀ y ∈ ps.zip us, (defScope st).names.lookup y.1 = some .local ∨ ((defScope st).names.lookup y.1 = some .cell ∧ ((cellsFrom (s.heap.objs.size + 1) (defScope st).names []).lookup y.1).isSome = true) := by
    rintro ⟨n, v⟩ my
    cases S.par n (List.of_mem_zip my).1 with
    | inl q => exact .inl q
    | inr q => exact .inr ⟨q, PySem.W.cellsFrom_some _ _ _ (.inl q)⟩
  refine codeAny_call_function room.depth (inK _ _ look) rfl S.co S.gen rfl (PySem.W.codeRec_of inK code) (bnd _ _ _ _ ?_)
  refine wpAny_newFunctionEnv_cells S.kind kinds fun env' he s1 inC => ?_
  subst he
  refine ⟨free.keeps inC.toInCall.keep, codeAny_func ?_⟩
  obtain ⟨t, ht, start0⟩ := body cdv A out s H vs Q E noG (room.deeper _) prom
  have J := inv_start (E := E) (CX := CX0) S room.hd env many rel inC
  refine wpAny_mono (ht.nox.run [] s1 (start N vs) H _ J start0) (fun fl s' res => ?_) (fun _ _ q => q)
  cases fl with
  | ret u =>
    obtain ⟨v, σ', H', J', rv, q⟩ := res
    exact ⟨v, H', J'.os, J'.bare, J'.base, J'.hok, rv, q⟩
  | next =>
    obtain ⟨σ', H', J', q⟩ := res
    exact ⟨.non, H', J'.os, J'.bare, J'.base, J'.hok, rfl, q⟩
  | brk => exact (res.choose_spec.choose_spec.2 : False).elim
  | cont => exact (res.choose_spec.choose_spec.2 : False).elim
end
end GG

namespace GG
open PySem PySem.Spec PyProof.Rows L2
section
variable {P : Program} {w : World} {K : PySem.W.Frag} {mg mb : Str → Option Value} {k : Nat} {fa a : Addr} {fd : FuncData} {x : Str} {sp : Sp} {s1 : Shared} {vs : List Value} {ns : List Int}

/-- what is tracked at the law's start: the script, unless the module owns it -/
noncomputable def startH (K : PySem.W.Frag) (a : Addr) (vs : List Value) (ns : List Int) : Hp := fun b =>
  if b = a ∧ K.lookup a = none then some (.frz { cls := .type "list", data := .seq vs.toArray } (.lst (ns.map V.int))) else none
theorem startH_some {b : Addr} {u : HO} (e : startH K a vs ns b = some u) : b = a ∧ K.lookup a = none ∧ u = .frz { cls := .type "list", data := .seq vs.toArray } (.lst (ns.map V.int)) := by
  unfold startH at e
  split at e
  · rename_i q
    exact ⟨q.1, q.2, (Option.some.inj e).symm⟩
  · cases e
theorem startH_none {b : Addr} (n : b ≠ a) : startH K a vs ns b = none := if_neg fun q => n q.1

theorem lawG (KX : K.In s1.heap) (hns : s1.heap.Ns mainGlobals mg) (hb : s1.heap.Ns builtinsNs mb) (hbb : ∀ x : Str, x ≠ "__name__" → mb x = bootBuiltins x) (hlim : s1.heap.NoLimit) (hg : s1.gens = #[])
    (ha : s1.heap.get? a = some { cls := .type "list", data := .seq vs.toArray }) (hi : IntsAre vs ns) (hl : ns.length ≤ sizeLine) (hr : Room k callerA)
    (F : ∀ base : Heap, K.In base → base.Ns mainGlobals mg → FnG P w K mg base k fa fd [x] sp) (hbind : ∀ (s : Shared) (u : Value), BindsTo s fd ⟨[u], []⟩ [(x, u)])
    (hsp : ∀ H : Hp, Only H → SqL K H a (ns.map V.int) → sp [.ref a] H (fun v _ => v = .bl true) fun _ _ _ => False) :
    codeAny (model P w) callerA (.call (.ref fa) ⟨[.ref a], []⟩) (fun r s' => r = .ok (.ret (.bool true)) ∧ OldK s1.heap s'.heap ∧ s'.os = s1.os ∧ AllBare s'.gens) s1 := by
  have rv := vals_ints hi
  let H : Hp := startH K a vs ns
  have only : Only H := fun b => by
    cases e : H b with
    | none => exact .inl rfl
    | some u =>
      obtain ⟨_, _, q⟩ := startH_some e
      exact .inr ⟨_, _, by rw [q]⟩
  have held : HOk P w H s1.heap := fun b u e => by
    obtain ⟨q1, _, q2⟩ := startH_some e
    subst q1 q2
    exact ⟨ha, by rw [List.length_map]; exact hl, vs, _, rv, ha⟩
  have dictFree : ∀ {b : Addr} {o : Obj} {es : Array DictEntry} {ep : Nat}, s1.heap.get? b = some o → o.data = .dict es ep → H b = none := fun {b o es ep} e d => startH_none fun z => by
    subst z
    cases e.symm.trans ha
    cases d
  have stays : ∀ {b : Addr} {m : Str → Option Value}, s1.heap.Ns b m → (hidT s1.heap H).Ns b m := fun {b m} ⟨o, es, ep, e, d, r⟩ => ⟨o, es, ep, hidT_get e (dictFree e d), d, r⟩
  have KB : K.In (hidT s1.heap H) := fun b o e => hidT_get (KX b o e) (by
    cases q : H b with
    | none => rfl
    | some u =>
      obtain ⟨q1, q2, _⟩ := startH_some q
      subst q1
      cases e.symm.trans q2)
  have M : L2.Mod K mg (hidT s1.heap H) := ⟨KB, stays hns, ⟨mb, stays hb, hbb⟩, hlim.elim fun mc q => ⟨mc, stays q.1, q.2⟩⟩
  have env : Env0 P w K mg (hidT s1.heap H) callerA [] s1 H := ⟨rfl, M, fun b o e => of_hidT e, Nat.le_of_eq (hidT_size _ _), trivial, (fun b z => absurd (show b ∈ ([] : List Addr) from z) List.not_mem_nil), held, .of_eq hg⟩
  have script : SqL K H a (ns.map V.int) := by
    cases q : K.lookup a with
    | none => exact .inl (.inr ⟨_, if_pos ⟨rfl, q⟩⟩)
    | some o =>
      cases (KX a o q).symm.trans ha
      exact .inr ⟨_, vs.toArray, _, q, rfl, rfl, rfl, by rw [List.size_toArray, hi.length]; exact hl, by simpa using rv⟩
  refine codeAny_mono ((F _ KB (stays hns)).go callerA [] s1 H ⟨[.ref a], []⟩ [.ref a] [.ref a] _ _ rfl hr env (hbind s1 (.ref a)) (.cons rfl .nil) (hsp H only script)) fun r s' res => ?_
  cases r with
  | error e => exact (show False from res).elim
  | ok fl =>
    cases fl with
    | next => exact (show False from res).elim
    | brk => exact (show False from res).elim
    | cont => exact (show False from res).elim
    | ret u =>
      obtain ⟨v, H', os, bare, un, ok', rr, q⟩ := res
      obtain rfl : v = .bl true := q
      cases (show u = Value.bool true from rr)
      refine ⟨rfl, OldK.of_keep fun b o e => ?_, os, bare⟩
      cases z : H b with
      | none => exact un.keep b o e z (fun m => absurd (show b ∈ ([] : List Addr) from m) List.not_mem_nil) (fun m => absurd (show b ∈ ([] : List Addr) from m) List.not_mem_nil)
      | some t =>
        obtain ⟨q1, _, q2⟩ := startH_some z
        subst q2
        have z2 := un.frzs b _ _ z
        have e1 := (held b _ z).1
        rw [e] at e1
        cases e1
        exact (ok' b _ z2).1
end
theorem walkG {l : PySem.W.OpenLaw} {n k : Nat} {q : Program} {loose : List Str} {XP : (Str → Option Value) → Heap → Prop} {YP : World → Heap → Prop} {d : DefRec} {K : Params → PySem.W.Frag} {sp : World → Sp} {x : Str}
    (hn : l.most = some n) (small : n ≤ sizeLine) (dflt : d.params.defaults = []) (room : Room k callerA) (inY : ∀ (w : World) (h : Heap), YP w h → (K w.params).In h)
    (F : ∀ (w : World) (mg : Str → Option Value) (fa : Addr) (h : Heap), (K w.params).In h → h.Ns mainGlobals mg → mg d.name = some (.ref fa) →
      ∃ fd : FuncData, (∀ (s : Shared) (u : Value), BindsTo s fd ⟨[u], []⟩ [(x, u)]) ∧ ∀ base : Heap, (K w.params).In base → base.Ns mainGlobals mg → FnG l.prog w (K w.params) mg base k fa fd [x] (sp w))
    (start : ∀ (w : World) (H : Hp) (a : Addr) (ns : List Int), ns.length ≤ n → (∀ z ∈ ns, Builtin.Int.intBits z ≤ 1048576) → Only H → SqL (K w.params) H a (ns.map V.int) → sp w [.ref a] H (fun v _ => v = .bl true) fun _ _ _ => False) :
    PySem.W.WalkO q loose XP YP l.row.toRowW d [] (fun f vs => PySem.call f vs) := by
  refine Att.attach_callB hn dflt ?_
  intro w s0 s1 mg mb fa o pm cd doc a vs ns G Y _ _ _ named obj hi len bits gens
  obtain ⟨fd, bound, fns⟩ := F w mg fa _ (inY w _ Y) G.T.g named
  exact lawG (inY w _ Y) G.T.g G.T.b G.T.builtins G.T.nolimit gens obj hi (Nat.le_trans len small) room fns bound fun H o' q' => start w H a ns len bits o' q'
end GG

namespace GG
open PySem PySem.Spec PyProof.Rows L2

/-! ### data and their repr -/
/-- where nothing guarded is under way, v is the datum d in each state that H describes -/
def Dt (X : Cx) (H : Hp) (v : V) (d : PyData) : Prop := ∀ (pins : List (Addr × Obj)) (σ : L2.St) (s : Shared) (u : Value), Inv X pins σ H s → RelV v u → ∃ as, Reads s.heap u d as ∧ sysModules ∉ as
def DtAll (X : Cx) (H : Hp) (vs : List V) (ds : List PyData) : Prop := ∀ (pins : List (Addr × Obj)) (σ : L2.St) (s : Shared) (us : List Value), Inv X pins σ H s → Vals vs us → ∃ as, ReadsAll s.heap us ds as ∧ sysModules ∉ as
section
variable {X : Cx} {H : Hp}
theorem Dt.non : Dt X H .non .none := fun _ _ _ _ _ r => by
  cases r
  exact ⟨_, .none, List.not_mem_nil⟩
theorem Dt.bl (b : Bool) : Dt X H (.bl b) (.bool b) := fun _ _ _ _ _ r => by
  cases r
  exact ⟨_, .bool b, List.not_mem_nil⟩
theorem Dt.int (i : Int) : Dt X H (.int i) (.int i) := fun _ _ _ _ _ r => by
  obtain ⟨t, rfl⟩ := r
  exact ⟨_, .int i t, List.not_mem_nil⟩
theorem Dt.str (x : Str) : Dt X H (.str x) (.str x) := fun _ _ _ _ _ r => by
  obtain ⟨t, rfl⟩ := r
  exact ⟨_, .str x t, List.not_mem_nil⟩
theorem DtAll.nil : DtAll X H [] [] := fun _ _ _ _ _ r => by
  cases r
  exact ⟨_, .nil, List.not_mem_nil⟩
theorem DtAll.cons {v : V} {vs : List V} {d : PyData} {ds : List PyData} (h : Dt X H v d) (t : DtAll X H vs ds) : DtAll X H (v :: vs) (d :: ds) := fun p σ s us I r => by
  cases r with
  | cons r1 r2 =>
    obtain ⟨as, q1, n1⟩ := h p σ s _ I r1
    obtain ⟨bs, q2, n2⟩ := t p σ s _ I r2
    exact ⟨_, .cons q1 q2, fun m => (List.mem_append.mp m).elim n1 n2⟩
theorem Dt.lst {a : Addr} {xs : List V} {ds : List PyData} (e : H a = some (.lst xs)) (ne : a ≠ sysModules) (t : DtAll X H xs ds) : Dt X H (.ref a) (.list ds) := fun p σ s u I r => by
  cases r
  obtain ⟨_, its, n, rv, ho⟩ := (show ObjOk X.prog X.w H s.heap a (.lst xs) from I.hok a _ e)
  obtain ⟨as, q, nm⟩ := t p σ s its I rv
  exact ⟨_, .list ho rfl rfl (by rw [List.toList_toArray]; exact q), fun m => (List.mem_cons.mp m).elim (fun z => ne z.symm) nm⟩
theorem Dt.tup {a : Addr} {xs : List V} {ds : List PyData} (e : H a = some (.tup xs)) (t : DtAll X H xs ds) : Dt X H (.ref a) (.tuple ds) := fun p σ s u I r => by
  cases r
  obtain ⟨_, its, rv, o, ho, hc, n, hd⟩ := (show ObjOk X.prog X.w H s.heap a (.tup xs) from I.hok a _ e)
  obtain ⟨as, q, nm⟩ := t p σ s its I rv
  exact ⟨_, .tuple ho hc hd (by rw [List.toList_toArray]; exact q), nm⟩
theorem Dt.dict1 {a : Addr} {k : Str} {v : V} {d : PyData} (e : H a = some (.dK [(.inr k, v)])) (t : Dt X H v d) : Dt X H (.ref a) (.dict [(.str k, d)]) := fun p σ s u I r => by
  cases r
  obtain ⟨_, ne, vs, kv, o, es, ep, ho, hx, hd, _, hp, _⟩ := (show ObjOk X.prog X.w H s.heap a (.dK [(.inr k, v)]) from I.hok a _ e)
  have na : a ≠ sysModules := by
    intro z
    rw [z] at ne
    simp at ne
  obtain ⟨⟨kq, vq⟩, rfl, ek, rv⟩ : ∃ b : Key × Value, vs = [b] ∧ Sum.inr k = b.1 ∧ RelV v b.2 := by
    cases kv with
    | cons k1 k2 =>
      cases k2
      exact ⟨_, rfl, k1.1, k1.2⟩
  simp only at ek rv
  subst ek
  obtain ⟨as, q, nm⟩ := t p σ s vq I rv
  generalize hl : es.toList = l at hp
  cases hp with
  | cons h1 h2 h3 =>
    cases h3
    rename_i en
    simp only at h1 h2
    have hk : ∃ tk, en.key = Value.str k tk := by
      rcases keyIs_shape (show keyIs (Sum.inr k) en.key = true from h1) with ⟨i, tk, z, _⟩ | ⟨y, tk, z, z2⟩
      · cases z
      · cases z
        exact ⟨tk, z2⟩
    obtain ⟨tk, hk⟩ := hk
    have r1 : ReadsAll s.heap (es.toList.map (·.key)) [PyData.str k] ([] ++ []) := by
      rw [hl, List.map_cons, List.map_nil, hk]
      exact .cons (.str k tk) .nil
    have r2 : ReadsAll s.heap (es.toList.map (·.val)) [d] (as ++ []) := by
      rw [hl, List.map_cons, List.map_nil, h2]
      exact .cons q .nil
    refine ⟨_, Reads.dict (kvs := [(.str k, d)]) ho hx.1 hd r1 r2, fun m => ?_⟩
    rcases List.mem_append.mp m with m | m
    · rcases List.mem_cons.mp m with m | m
      · exact na m.symm
      · exact absurd m (by simp)
    · rw [List.append_nil] at m
      exact nm m

/-! sizes -/
structure Sh (X : Cx) (H : Hp) (v : V) (n : Nat) (d : PyData) : Prop where
  dt : Dt X H v d
  sh : d.showable = true
  dp : d.depth ≤ 8
  ln : d.shown.length ≤ n
theorem Sh.mono {v : V} {n m : Nat} {d : PyData} (h : Sh X H v n d) (k : n ≤ m) : Sh X H v m d := ⟨h.dt, h.sh, h.dp, Nat.le_trans h.ln k⟩
theorem list_len (ds : List PyData) (n : Nat) (h : ∀ d ∈ ds, d.shown.length ≤ n) : (PyData.list ds).shown.length ≤ (n + 2) * ds.length + 4 := by
  rw [PyData.shown_list, strLen_append, strLen_append]
  have e1 : (("[" : Str)).length = 1 := rfl
  have e2 : (("]" : Str)).length = 1 := rfl
  have e3 : piled (PyData.shownAll ds) ≤ (n + 2) * ds.length := by
    clear e1 e2
    induction ds with
    | nil => simp [PyData.shownAll, piled]
    | cons d ds ih =>
      rw [PyData.shownAll_cons, piled_cons, List.length_cons, Nat.mul_add]
      have h1 := h d List.mem_cons_self
      have h2 := ih fun x hx => h x (List.mem_cons_of_mem _ hx)
      omega
  by_cases z : PyData.shownAll ds = []
  · rw [z]
    have e4 : (Str.join ", " []).length = 0 := rfl
    omega
  · have := join_length_add _ z
    omega
theorem tuple_len (ds : List PyData) (n : Nat) (h : ∀ d ∈ ds, d.shown.length ≤ n) : (PyData.tuple ds).shown.length ≤ (n + 2) * ds.length + 4 := by
  rw [PyData.shown_tuple, strLen_append, strLen_append]
  have e1 : (("(" : Str)).length = 1 := rfl
  have e2 : (((if ds.length == 1 then ",)" else ")" : String) : Str)).length ≤ 2 := by split <;> decide +kernel
  have e3 : piled (PyData.shownAll ds) ≤ (n + 2) * ds.length := by
    clear e1 e2
    induction ds with
    | nil => simp [PyData.shownAll, piled]
    | cons d ds ih =>
      rw [PyData.shownAll_cons, piled_cons, List.length_cons, Nat.mul_add]
      have h1 := h d List.mem_cons_self
      have h2 := ih fun x hx => h x (List.mem_cons_of_mem _ hx)
      omega
  by_cases z : PyData.shownAll ds = []
  · rw [z]
    have e4 : (Str.join ", " []).length = 0 := rfl
    omega
  · have := join_length_add _ z
    omega
theorem call_repr (hg : X.A.guards = some []) (hu : X.A.units + 80 < cLine) : CallR X (.builtin "repr") (fun xs H Q => ∃ a d, xs = [.ref a] ∧ Dt X H (.ref a) d ∧ d.showable = true ∧ d.depth ≤ 60 ∧ d.shown.length ≤ sizeLine ∧ Q (.str d.shown) H) := by
  intro pins s σ H xs us Q I r h
  obtain ⟨a, d, rfl, dt, hs, hd, hz, q⟩ := h
  cases r with
  | cons r1 r2 =>
    cases r2
    obtain rfl : _ = Value.ref a := r1
    obtain ⟨as, rd, nm⟩ := dt pins σ s _ I rfl
    exact repr_of_reads' (h₀ := s.heap) rd hs (fun _ => nm) hg (by omega) (fun _ _ e => e) (fun h' u tk k => ⟨.str d.shown, H, I.kept k, ⟨u, rfl⟩, q⟩) hz
end
end GG

namespace GG
open PySem PySem.Spec PyProof.Rows L2

/-! ### exceptions of the program's own classes as values -/
/-- what is known of an own error class -/
structure ExT (K : PySem.W.Frag) (C : Addr) : Prop where
  ox : OexC K C
  ga : PySem.W.findIn K (.ref C) "__getattribute__" = some (some (.builtin "BaseException.__getattribute__"))
  gg : PySem.W.findIn K (.ref C) "__getattr__" = some none
  hd : PySem.W.hasDictIn K C = true
  cl : PySem.W.findIn K (.ref C) "__class__" = some (some (.builtin "object.__class__"))
  mo : PySem.W.mroIn K C (.type "object") = some true
  oc : PySem.W.specialIn K (.builtin "object.__class__") "__get__" = some (some (.builtin "getset_descriptor.__get__"))
  ot : PySem.W.takesIn K (.builtin "object.__class__") = some true
/-- an error of the class C with these fields -/
def ExAt (H : Hp) (a C : Addr) (fs : List (Str × V)) : Prop := (fs = [] ∧ H a = some (exo a C none)) ∨ ∃ dx, H a = some (exo a C (some dx)) ∧ H dx = some (exd dx fs)
theorem ExT.some {K : PySem.W.Frag} {C : Addr} (T : ExT K C) : (PySem.W.clsIn K C).isSome = true := by
  obtain ⟨nm, q, N, bs, bm, sn, sub, ab, col, dd, k0, k1, k2, k3, k5, hC, hbm⟩ := T.ox.cls
  unfold PySem.W.clsIn
  rw [hC] <;> rfl
section
variable {X : Cx} {pins : List (Addr × Obj)} {σ : L2.St} {H : Hp} {s : Shared} {a C : Addr} {fs : List (Str × V)}
theorem ExAt.inst (I : Inv X pins σ H s) (e : ExAt H a C fs) : ∃ (ox : Obj) (od : Option Obj), PySem.W.InstAt s.heap a ox C od ∧
    ∀ (f : Str) (v : V), fs.lookup f = some v → ∃ (o : Obj) (u : Value), od = some o ∧ PySem.W.lookIn f o = some (some u) ∧ RelV v u := by
  rcases e with ⟨rfl, e⟩ | ⟨dx, e, ed⟩
  · obtain ⟨t, h⟩ := exo_at I.hok e
    exact ⟨_, none, ⟨h, rfl, rfl, trivial⟩, fun f v q => by cases q⟩
  · obtain ⟨t, h⟩ := exo_at I.hok e
    obtain ⟨mA, hns, rel⟩ := exd_at I.hok ed
    obtain ⟨od, ho, hl⟩ := lookIn_ns hns
    refine ⟨_, some od, ⟨h, rfl, rfl, ho⟩, fun f v q => ?_⟩
    obtain ⟨u, hu, ru⟩ := RelO.some_of (v := v) (o := mA f) (by rw [← q]; exact rel f)
    exact ⟨od, u, rfl, by rw [hl, hu], ru⟩
/-- isinstance(e, c) -/
def rIsX (K : PySem.W.Frag) : List V → Hp → VK → Prop := fun xs H Q => ∃ (a C : Addr) (fs : List (Str × V)) (c : V) (u : Value) (b : Bool), xs = [.ref a, c] ∧ ExT K C ∧ ExAt H a C fs ∧ ClsV c u ∧ PySem.W.kitOne K (.ref C) u = some b ∧ Q (.bl b) H
theorem call_isx : CallR X (.builtin "isinstance") (rIsX X.K) := by
  intro pins s σ H xs us Q I r h
  obtain ⟨a, C, fs, c, u, b, rfl, T, e, cv, k, q⟩ := h
  obtain ⟨u1, u2, rfl, r1, r2⟩ := vals2 r
  cases (show u1 = Value.ref a from r1)
  obtain rfl := cv.eq r2
  obtain ⟨ox, od, J, _⟩ := e.inst I
  exact PySem.W.kia_one (PySem.W.kitx_exc T.some T.ga T.gg T.ox.exC T.cl T.oc T.ot T.mo) I.kIn J k (fun z => nomatch z) fun tk => ⟨.bl b, H, I.tok tk, rfl, q⟩
/-- e.f -/
def tXfd (K : PySem.W.Frag) (f : Str) (te : TE) : TE := fun σ H Q => te σ H fun x H1 => ∃ (a C : Addr) (fs : List (Str × V)) (v : V), x = .ref a ∧ ExT K C ∧ ExAt H1 a C fs ∧ PySem.W.findIn K (.ref C) f = some none ∧ fs.lookup f = some v ∧ Q v H1
theorem pe_xfd {e : Expr} {te : TE} {pos : Pos} {f : Str} (he : PE X e te) (hb : attributeBase e f X.env (eval e X.env) = eval e X.env := by rfl) : PE X (.Attribute e f pos) (tXfd X.K f te) := by
  refine ⟨fun pins s σ H Q I h => ?_⟩
  refine attr_of hb (thn (he.run pins s σ H _ I h) fun u s1 hh => ?_)
  obtain ⟨x, H1, I1, rx, a, C, fs, v, ex, T, ea, no, l, q⟩ := hh
  subst ex
  obtain rfl : u = Value.ref a := rx
  obtain ⟨ox, od, J, look⟩ := ea.inst I1
  obtain ⟨o, u, rfl, lk, ru⟩ := look f v l
  exact HandSPX.exc_get I1.kIn J T.ga T.gg T.ox.exC (PySem.W.findObj_own T.hd no rfl lk) (handed_of ru) ⟨v, H1, I1.tok _, ru, q⟩
/-- C(e, ..) as a value, C's own __init__ keeping sp -/
def tVal (C : Addr) (sp : Sp) (ta : TA) : TE := fun σ H Q => ta σ H fun vs H1 => vs.length ≤ 1000 ∧ ∀ a, H1 a = none → sp (.ref a :: vs) (upd H1 a (exo a C none)) (fun v H2 => v = .non ∧ Q (.ref a) H2) (fun _ _ _ => False)
theorem pe_val {x : Str} {C fI : Addr} {k : Nat} {fd : FuncData} {ps : List Str} {sp : Sp} {e : Expr} {es : List Expr} {ta : TA} {p pos : Pos} (T : OexC X.K C) (iC : PySem.W.findIn X.K (.ref C) "__init__" = some (some (.ref fI))) (tI : PySem.W.typeIn X.K (.ref fI) = some (.type "function"))
    (F1 : FnOk X.prog X.w X.K X.mg X.base CX0 k fI fd ps sp) (hr : Room (k + 1) X.A) (hb : Binds X.K fd ps []) (hm : X.mg x = some (.ref C)) (ha : PA X (e :: es) ta) (hg : Gl X x := by rfl)
    (hdb : (x == ("__debug__" : Str)) = false := by decide) (he : starEach (e :: es) X.env = (false, eval e X.env) :: starEach es X.env := by rfl) (hpl : (backTo pos (starEach es X.env)).any (·.1) = false := by rfl) :
    PE X (.Call (.Name x p) (e :: es) [] pos) (tVal C sp ta) := by
  refine ⟨fun pins s σ H Q I h => ?_⟩
  obtain ⟨nm, q, N, bs, bm, sn, sub, ab, col, dd, k0, k1, k2, k3, k5, hC, tail⟩ := T.cls
  refine wpAny_Call_Name_kw (ld_glob I hg hm ?_ hdb)
  refine PySem.W.callWith_K (h₀ := X.base) I.ok.mod.kin T.kC (thn (ha.run pos pins s σ H _ I h) fun us s1 got => ?_) he hpl
  obtain ⟨vs, H1, I1, r1, small, q1⟩ := got
  refine ⟨I1.kIn, ?_⟩
  show wpAny _ _ (call (.ref C) us) _ _ _
  obtain ⟨hp, g, dr, tk, os⟩ := s1
  have big : hp.objs.size ≤ hp.objs.size + 1 := Nat.le_succ _
  have want := q1 (hp.objs.size + 1) (I1.hok.fresh big)
  have grow : ∀ b o, hp.get? b = some o → ((hp.push (PySem.W.kdv_tup us)).push (PySem.HandSPX.excO C hp.objs.size)).get? b = some o := fun b o z => Heap.get?_push_of_some _ (Heap.get?_push_of_some _ z)
  have new : ((hp.push (PySem.W.kdv_tup us)).push (PySem.HandSPX.excO C hp.objs.size)).get? (hp.objs.size + 1) = some (PySem.HandSPX.excO C hp.objs.size) := by heap_get
  have J : Inv X pins σ (upd H1 (hp.objs.size + 1) (exo (hp.objs.size + 1) C none)) ⟨(hp.push (PySem.W.kdv_tup us)).push (PySem.HandSPX.excO C hp.objs.size), g, dr, tk, os⟩ :=
    I1.laid (t' := tk) (a := hp.objs.size + 1) (h' := (hp.push (PySem.W.kdv_tup us)).push (PySem.HandSPX.excO C hp.objs.size)) grow big (exo_ok new)
  have r2 : Vals (V.ref (hp.objs.size + 1) :: vs) (Value.ref (hp.objs.size + 1) :: us ++ []) := by
    rw [List.append_nil]
    exact .cons rfl r1
  have cnt : (Value.ref (hp.objs.size + 1) :: us ++ []).length = ps.length := by
    rw [← r2.length]
    exact F1.len _ _ _ _ want
  have fits : us.length ≤ sizeLine := by
    rw [← Paired.length r1, sizeLine_eq]
    omega
  refine wpAny_call (PySem.HandSPX.call_own F.excBase_ValueError (fun Y => PySem.HandSPX.refsVE_contains Y bm tail) (I1.kIn _ _ hC) (PySem.W.looks_findIn I1.kIn iC) (fun self => PySem.W.bind_fn I1.kIn self tI) fits
    (codeAny_mono (F1.run _ X.stack _ _ ⟨Value.ref (hp.objs.size + 1) :: us, []⟩ (Value.ref (hp.objs.size + 1) :: us ++ []) _ _ (fun _ _ _ => False) (hr.make C us []) (J.env0.make C us []) (hb _ (Value.ref (hp.objs.size + 1) :: us) J.kIn cnt) r2 want) fun r s' res => ?_))
  cases r with
  | error er => exact (show False from res).elim
  | ok fl =>
    cases fl with
    | ret u =>
      obtain ⟨v, H2, J2, rv, rfl, q2⟩ := J.after res
      exact ⟨rv, .ref (hp.objs.size + 1), H2, J2, rfl, q2⟩
    | next => exact False.elim res
    | brk => exact False.elim res
    | cont => exact False.elim res
/-- C() as a value, no own __init__ -/
theorem pe_val0 {C : Addr} {x : Str} {p pos : Pos} (q : PySem.W.excIn X.K C [.type "ValueError", .type "Exception", .type "BaseException", .type "object"] "ValueError.__new__" = true) (gC : X.mg x = some (.ref C)) (kC : PySem.W.keepIn X.K (.ref C) = true) (hg : Gl X x := by rfl) (hdb : (x == ("__debug__" : Str)) = false := by decide) :
    PE X (.Call (.Name x p) [] [] pos) (fun σ H Q => ∀ a, H a = none → Q (.ref a) (upd H a (exo a C none))) := by
  refine ⟨fun pins s σ H Q I h => ?_⟩
  refine wpAny_Call_Name_kw (ld_glob I hg gC ?_ hdb)
  refine PySem.W.callWith_K0 I.kIn kC ?_
  obtain ⟨bm, N, nm, qn, bs, hdct, sn, sub, ab, col, dd, k0, k1, k2, k3, k5, mN, hC, hN, hni, T⟩ := exc_obj I.kIn q
  refine wpAny_call_exc_subT F.excBase_ValueError T hC hN hni (fun h' a made => ?_) (by show 0 ≤ sizeLine; exact Nat.zero_le _)
  have free : H a = none := I.hok.gone made.new
  obtain ⟨t, ht, _, _⟩ := made.there
  exact ⟨.ref a, upd H a (exo a C none), I.laidN made.keeps made.new free (exo_ok ht), rfl, h a free⟩
end
end GG

namespace GG
open PySem PySem.Spec PyProof.Rows L2
/-! ### the text by places -/
def topS (i : Nat) : Stmt := PySem.Challenge.pw_allbids_k07_lists_refused.main.body.getD i (.Pass ⟨0, 0, 0, 0⟩)
abbrev sPen : Stmt := topS 45
abbrev sDraw : Stmt := topS 46
abbrev sPick : Stmt := topS 47

/-! ### a pen -/
def penD (l : Addr) (at' dg c fo : Int) : List (Key × V) := [(.inr "cells", .ref l), (.inr "at", .int at'), (.inr "digits", .int dg), (.inr "count", .int c), (.inr "fold", .int fo)]
section
variable (l : Addr) (a d c f x : Int)
theorem penD_cells : valV (penD l a d c f) (.inr "cells") = some (.ref l) := by kernel_rfl
theorem penD_at : valV (penD l a d c f) (.inr "at") = some (.int a) := by kernel_rfl
theorem penD_digits : valV (penD l a d c f) (.inr "digits") = some (.int d) := by kernel_rfl
theorem penD_count : valV (penD l a d c f) (.inr "count") = some (.int c) := by kernel_rfl
theorem penD_fold : valV (penD l a d c f) (.inr "fold") = some (.int f) := by kernel_rfl
theorem penP_at : putK (penD l a d c f) (.inr "at") (.int x) = penD l x d c f := by kernel_rfl
theorem penP_digits : putK (penD l a d c f) (.inr "digits") (.int x) = penD l a x c f := by kernel_rfl
theorem penP_count : putK (penD l a d c f) (.inr "count") (.int x) = penD l a d x f := by kernel_rfl
theorem penP_fold : putK (penD l a d c f) (.inr "fold") (.int x) = penD l a d c x := by kernel_rfl
end
/-- a pen at p, that was asked c times -/
structure PenIs (H : Hp) (p l : Addr) (ns : List Int) (at' dg c fo : Int) : Prop where
  obj : H p = some (.dK (penD l at' dg c fo))
  cel : H l = some (.lst (ns.map V.int))
  len : ns.length ≤ 63
  a0 : 0 ≤ at'
  d0 : 0 ≤ dg
  c0 : 0 ≤ c
  f0 : 0 ≤ fo
  f1 : fo < 2147483587
def PenAt (H : Hp) (p l : Addr) (c : Int) : Prop := ∃ ns at' dg fo, PenIs H p l ns at' dg c fo
/-- all but p stays -/
def Keep (p : Addr) (H H' : Hp) : Prop := ∀ b o, b ≠ p → H b = some o → H' b = some o
theorem Keep.refl {p : Addr} {H : Hp} : Keep p H H := fun _ _ _ e => e
theorem Keep.trans {p : Addr} {H H1 H2 : Hp} (a : Keep p H H1) (b : Keep p H1 H2) : Keep p H H2 := fun c o n e => b c o n (a c o n e)
theorem Keep.upd {p : Addr} {H H1 : Hp} {o : HO} (a : Keep p H H1) : Keep p H (upd H1 p o) := fun c u n e => by
  rw [upd_ne n]
  exact a c u n e
theorem Keep.new {p q : Addr} {H H1 : Hp} {o : HO} (a : Keep p H H1) (n : H1 q = none) : Keep p H (L2.upd H1 q o) := fun c u nc e => by
  have z := a c u nc e
  rw [upd_ne (ne_of_none z n)]
  exact z
theorem PenIs.put {H : Hp} {p l : Addr} {ns : List Int} {a d c f a' d' c' f' : Int} (P : PenIs H p l ns a d c f) (h1 : 0 ≤ a') (h2 : 0 ≤ d') (h3 : 0 ≤ c') (h4 : 0 ≤ f') (h5 : f' < 2147483587) : PenIs (upd H p (.dK (penD l a' d' c' f'))) p l ns a' d' c' f' :=
  ⟨upd_same, by rw [upd_ne (ne_of P.cel P.obj (by intro z; cases z))]; exact P.cel, P.len, h1, h2, h3, h4, h5⟩
structure PTxt (K : PySem.W.Frag) (mg : Str → Option Value) : Prop where
  int : mg "int" = none
  list : mg "list" = none
  len : mg "len" = none
theorem bInt : bootBuiltins "int" = some (.type "int") := by decide +kernel
theorem bList : bootBuiltins "list" = some (.type "list") := by decide +kernel
theorem small5 {l : Addr} {a d c f : Int} : (penD l a d c f).length < sizeLine := by
  rw [sizeLine_eq]
  show 5 < 16777216
  decide
section
variable {H : Hp} {p l : Addr} {ns : List Int} {a d c f : Int} (I : PenIs H p l ns a d c f)
include I
theorem PenIs.gCells : DGet H p (.str "cells") (some (.ref l)) := penD_cells l a d c f ▸ DGet.k (k := Sum.inr "cells") I.obj
theorem PenIs.gAt : DGet H p (.str "at") (some (.int a)) := penD_at l a d c f ▸ DGet.k (k := Sum.inr "at") I.obj
theorem PenIs.gDigits : DGet H p (.str "digits") (some (.int d)) := penD_digits l a d c f ▸ DGet.k (k := Sum.inr "digits") I.obj
theorem PenIs.gCount : DGet H p (.str "count") (some (.int c)) := penD_count l a d c f ▸ DGet.k (k := Sum.inr "count") I.obj
theorem PenIs.gFold : DGet H p (.str "fold") (some (.int f)) := penD_fold l a d c f ▸ DGet.k (k := Sum.inr "fold") I.obj
theorem PenIs.pAt (x : Int) : DPut H p (.str "at") (.int x) (upd H p (.dK (penD l x d c f))) := penP_at l a d c f x ▸ DPut.k (k := Sum.inr "at") I.obj small5
theorem PenIs.pDigits (x : Int) : DPut H p (.str "digits") (.int x) (upd H p (.dK (penD l a x c f))) := penP_digits l a d c f x ▸ DPut.k (k := Sum.inr "digits") I.obj small5
theorem PenIs.pCount (x : Int) : DPut H p (.str "count") (.int x) (upd H p (.dK (penD l a d x f))) := penP_count l a d c f x ▸ DPut.k (k := Sum.inr "count") I.obj small5
theorem PenIs.pFold (x : Int) : DPut H p (.str "fold") (.int x) (upd H p (.dK (penD l a d c x))) := penP_fold l a d c f x ▸ DPut.k (k := Sum.inr "fold") I.obj small5
end
/-- many is a number of cases -/
def spDraw : Sp := fun vs H Q _ => ∃ (p l : Addr) (c many : Int), vs = [.ref p, .int many] ∧ PenAt H p l c ∧ 0 < many ∧ many < 1000000 ∧ c < 1000000000 ∧
  ∀ (r : Int) (H' : Hp), 0 ≤ r → r < many → PenAt H' p l (c + 1) → Keep p H H' → Q (.int r) H'
section
variable {P : Program} {w : World} {K : PySem.W.Frag} {mg : Str → Option Value} {base : Heap}
theorem scDraw : FnScope ["_law_pen_here", "_law_many", "_law_cell", "_law_digit", "_law_mixed"] ["_law_pen_here", "_law_many"] (defScope sDraw) := ⟨rfl, rfl, rfl, by decide +kernel, rfl, by decide +kernel, by decide +kernel⟩
theorem ok_draw {f : Addr} {fd : FuncData} (F : Fun K "_law_draw" "_law_draw" sDraw f fd) (T : PTxt K mg) : FnOk P w K mg base CX0 1 f fd ["_law_pen_here", "_law_many"] spDraw := by
  refine F.ok scDraw (fun vs H Q E h => ?_) (fun cdv A outer s H vs Q E hr h => ?_)
  · obtain ⟨p, l, c, many, rfl, _⟩ := h
    rfl
  · obtain ⟨p, l, c, many, rfl, ⟨ns, a, d, fo, I0⟩, m0, m1, c1, k⟩ := h
    have hu := hu_of hr
    refine ⟨_, pss_cons (ps_dput hu (pv 0) pe_str (pe_op op_add (pe_dget hu (pv 0) pe_str (fun _ _ => rfl)) pe_int) rfl)
      (Evl.pss_cut (ps_if (PW.pt (pw_and (pt_cmpR op_eq (pe_dget hu (pv 0) pe_str (fun _ _ => rfl)) pe_int (nomark _)) (pw_and1 (pt_cmpR op_lt (pe_dget hu (pv 0) pe_str (fun _ _ => rfl)) (pe_callB call_len_seq (by rfl) T.len PySem.boot_len (pa_cons (pe_dget hu (pv 0) pe_str (fun _ _ => rfl)) pa_nil)) (nomark _)))))
        (pss_cons (ps_set (i := 2) scDraw.nd rfl (.inl rfl) (pe_ix ix_list (pe_dget hu (pv 0) pe_str (fun _ _ => rfl)) (pe_dget hu (pv 0) pe_str (fun _ _ => rfl)) (fun _ _ => rfl)))
          (pss_cons (ps_dput hu (pv 0) pe_str (pe_op op_add (pe_dget hu (pv 0) pe_str (fun _ _ => rfl)) pe_int) rfl)
          (pss_one (ps_if (pt_cmpR op_ge (pv 2) (pe_op op_pow pe_int pe_int) (nomark _))
            (pss_one (ps_dput hu (pv 0) pe_str (pe_op op_sub (pv 2) (pe_op op_pow pe_int pe_int)) rfl))
            (pss_one (ps_dput hu (pv 0) pe_str (pe_op op_mod (pe_callTy call_int1 (by rfl) T.int bInt (pa_cons (pe_op op_add (pe_op op_mul (pe_dget hu (pv 0) pe_str (fun _ _ => rfl)) pe_int) (pv 2)) pa_nil)) pe_int) rfl))))))
        pss_nil)
      (pss_cons (ps_if (pt_cmpR op_gt (pe_dget hu (pv 0) pe_str (fun _ _ => rfl)) pe_int (nomark _))
        (pss_cons (ps_set (i := 3) scDraw.nd rfl (.inl rfl) (pe_op op_mod (pe_callTy call_int1 (by rfl) T.int bInt (pa_cons (pe_dget hu (pv 0) pe_str (fun _ _ => rfl)) pa_nil)) (pv 1)))
          (pss_cons (ps_dput hu (pv 0) pe_str (pe_op op_fdivW (pe_dget hu (pv 0) pe_str (fun _ _ => rfl)) (pv 1)) rfl)
          (pss_one (ps_ret (pv 3)))))
        pss_nil)
      (pss_cons (ps_set (i := 4) scDraw.nd rfl (.inl rfl) (pe_op op_add (pe_op op_add (pe_dget hu (pv 0) pe_str (fun _ _ => rfl)) (pe_op op_mul (pe_dget hu (pv 0) pe_str (fun _ _ => rfl)) pe_int)) pe_int))
      (pss_one (ps_ret (pe_op op_mod (pe_op op_fdiv (pe_callTy call_int1 (by rfl) T.int bInt (pa_cons (pe_op op_mod (pe_op op_pow (pv 4) pe_int) pe_int) pa_nil)) pe_int) (pv 1))))))), ?_⟩
    refine ⟨_, rfl, p, _, rfl, I0.gCount, _, _, rfl, rfl, _, rfl, p, _, rfl, I0.pCount _, ?_⟩
    have I1 := I0.put (a' := a) (d' := d) (c' := c + 1) (f' := fo) I0.a0 I0.d0 (by have := I0.c0; omega) I0.f0 I0.f1
    have K1 : Keep p H (upd H p (.dK (penD l a d (c + 1) fo))) := Keep.refl.upd
    have dc := I1.c0
    refine ⟨fun σ' H' => ∃ (a' d' f' : Int) (v : Option V), σ' = [some (.ref p), some (.int many), v, none, none] ∧ PenIs H' p l ns a' d' (c + 1) f' ∧ Keep p H H', ?_, ?_⟩
    · refine ⟨_, rfl, p, _, rfl, I1.gDigits, rfl, _, rfl, ?_⟩
      refine ite2 (fun _ => ?_) (fun _ => ?_)
      · refine ⟨_, rfl, p, _, rfl, I1.gAt, _, rfl, p, _, rfl, I1.gCells, l, _, rfl, .inl (SqL.of I1.cel), _, _, rfl, rfl, _, rfl, ?_⟩
        refine ite2 (fun e => ?_) (fun _ => ?_)
        · rw [List.length_map] at e
          have ha : a < (ns.length : Int) := of_decide_eq_true e
          have ha0 := I1.a0
          obtain ⟨n, rfl⟩ : ∃ n : Nat, a = (n : Int) := ⟨a.toNat, (Int.toNat_of_nonneg ha0).symm⟩
          have hn : n < ns.length := by omega
          refine ⟨_, rfl, p, _, rfl, I1.gCells, _, rfl, p, _, rfl, I1.gAt, l, _, _, V.int ns[n], rfl, rfl, SqL.of I1.cel, atI_nat (by simp [hn]), ?_⟩
          refine ⟨_, rfl, p, _, rfl, I1.gAt, _, _, rfl, rfl, _, rfl, p, _, rfl, I1.pAt _, ?_⟩
          have I2 := I1.put (a' := (n : Int) + 1) (d' := d) (c' := c + 1) (f' := fo) (by omega) I1.d0 I1.c0 I1.f0 I1.f1
          have K2 := K1.upd (o := .dK (penD l ((n : Int) + 1) d (c + 1) fo))
          refine ⟨_, rfl, _, _, rfl, rfl, ⟨by decide, by decide, by decide⟩, _, _, rfl, rfl, _, rfl, ?_⟩
          refine ite2 (fun e => ?_) (fun _ => ?_)
          · have hb := of_decide_eq_true e
            refine ⟨_, rfl, _, _, rfl, rfl, ⟨by decide, by decide, by decide⟩, _, _, rfl, rfl, _, rfl, p, _, rfl, I2.pDigits _, ?_⟩
            exact ⟨_, _, _, _, rfl, I2.put (by omega) (by omega) I2.c0 I2.f0 I2.f1, K2.upd⟩
          · refine ⟨_, rfl, p, _, rfl, I2.gFold, _, _, rfl, rfl, .inl ⟨by have := I2.f0; omega, by have := I2.f1; omega⟩, _, rfl, _, _, rfl, rfl, .inl ⟨_, rfl, ?_⟩⟩
            refine ⟨_, _, rfl, rfl, (show (0 : Int) < 2147483587 by decide), _, rfl, p, _, rfl, I2.pFold _, ?_⟩
            exact ⟨_, _, _, _, rfl, I2.put I2.a0 I2.d0 I2.c0 (Int.emod_nonneg _ (by decide)) (Int.emod_lt_of_pos _ (by decide)), K2.upd⟩
        · exact ⟨_, _, _, _, rfl, I1, K1⟩
      · exact ⟨_, _, _, _, rfl, I1, K1⟩
    · rintro σ' H' ⟨a', d', f', v, rfl, I2, K2⟩
      refine ⟨_, rfl, p, _, rfl, I2.gDigits, _, _, rfl, rfl, _, rfl, ?_⟩
      refine ite2 (fun e => ?_) (fun _ => ?_)
      · refine ⟨_, rfl, p, _, rfl, I2.gDigits, .inl ⟨_, rfl, _, rfl, _, _, rfl, rfl, m0, ?_⟩⟩
        refine ⟨_, rfl, p, _, rfl, I2.gDigits, _, rfl, _, _, rfl, rfl, wide_div (b := 20) m0 (by omega) (by decide) (by decide), _, rfl, p, _, rfl, I2.pDigits _, ?_⟩
        refine ⟨_, rfl, k _ _ (Int.emod_nonneg _ (by omega)) (Int.emod_lt_of_pos _ m0) ⟨ns, _, _, _, I2.put I2.a0 (Int.ediv_nonneg I2.d0 (by omega)) I2.c0 I2.f0 I2.f1⟩ K2.upd⟩
      · have f0 := I2.f0
        have f1 := I2.f1
        refine ⟨_, rfl, p, _, rfl, I2.gFold, _, rfl, p, _, rfl, I2.gCount, _, _, rfl, rfl, .inl ⟨by omega, by omega⟩, _, _, rfl, rfl, _, _, rfl, rfl, ?_⟩
        refine ⟨_, rfl, _, _, rfl, rfl, ⟨by decide, by decide, by omega⟩, _, _, rfl, rfl, (show (0 : Int) < 2305843009213693951 by decide), .inl ⟨_, rfl, _, _, rfl, rfl, ⟨by decide, by decide⟩, _, rfl, _, _, rfl, rfl, m0, ?_⟩⟩
        exact k _ _ (Int.emod_nonneg _ (by omega)) (Int.emod_lt_of_pos _ m0) ⟨ns, _, _, _, I2⟩ K2
end
end GG


namespace GG
open PySem PySem.Spec PyProof.Rows L2
/-- a def of the text, where its name leads to -/
structure DefIs (K : PySem.W.Frag) (mg : Str → Option Value) (x : Str) (st : Stmt) : Prop where
  ex : ∃ f fd, Fun K x x st f fd ∧ mg x = some (.ref f)
/-- what a name of the module keeps -/
structure Kn (P : Program) (w : World) (K : PySem.W.Frag) (mg : Str → Option Value) (base : Heap) (x : Str) (k : Nat) (ps : List Str) (sp : Sp) : Prop where
  ex : ∃ f fd, mg x = some (.ref f) ∧ PySem.W.keepIn K (.ref f) = true ∧ Binds K fd ps [] ∧ FnOk P w K mg base CX0 k f fd ps sp
theorem Kn.of {P : Program} {w : World} {K : PySem.W.Frag} {mg : Str → Option Value} {base : Heap} {x : Str} {st : Stmt} {k : Nat} {ps : List Str} {sp : Sp} (D : DefIs K mg x st)
    (hb : ∀ (kV doc pm : Value) (an : Option Addr) (cdv ct : Value) (us : List Value), us.length = ps.length → bindArgs (PySem.W.fnOf x x (defArgs st) (defBody st) (defScope st) .none kV doc pm an cdv ct) ⟨us, []⟩ = pure (ps.zip us))
    (ok : ∀ f fd, Fun K x x st f fd → FnOk P w K mg base CX0 k f fd ps sp) : Kn P w K mg base x k ps sp := by
  obtain ⟨f, fd, F, m⟩ := D.ex
  exact ⟨f, fd, m, F.kp, F.binds hb, ok f fd F⟩
theorem pe_kn {X : Cx} {x : Str} {k : Nat} {ps : List Str} {sp : Sp} {e : Expr} {es : List Expr} {t : TA} {p pos : Pos} (F : Kn X.prog X.w X.K X.mg X.base x k ps sp) (hr : Room k X.A) (ha : PA X (e :: es) t) (hg : Gl X x := by rfl)
    (hdb : (x == ("__debug__" : Str)) = false := by decide) (he : starEach (e :: es) X.env = (false, eval e X.env) :: starEach es X.env := by rfl) (hpl : (backTo pos (starEach es X.env)).any (·.1) = false := by rfl) :
    PE X (.Call (.Name x p) (e :: es) [] pos) (tCall sp [] (fun _ _ _ => False) t) := by
  obtain ⟨f, fd, hm, hk, hb, G⟩ := F.ex
  exact pe_call G hr hg hm hk hb .nil (fun _ _ _ _ _ _ _ z => z.elim) ha hdb he hpl
theorem SqL.keep {K : PySem.W.Frag} {H H' : Hp} {p a : Addr} {kvs : List (Key × V)} {xs : List V} (k : Keep p H H') (hp : H p = some (.dK kvs)) (s : SqL K H a xs) : SqL K H' a xs := by
  rcases s with s | s
  · have n : a ≠ p := by
      rcases s with s | ⟨o, s⟩
      · exact ne_of s hp (by intro z; cases z)
      · exact ne_of s hp (by intro z; cases z)
    rcases s with s | ⟨o, s⟩
    · exact .inl (.inl (k a _ n s))
    · exact .inl (.inr ⟨o, k a _ n s⟩)
  · exact .inr s
def spPen (K : PySem.W.Frag) : Sp := fun vs H Q _ => ∃ (a : Addr) (ns : List Int), vs = [.ref a] ∧ SqL K H a (ns.map V.int) ∧ ns.length ≤ 63 ∧ ∀ (p l : Addr) (H' : Hp), PenAt H' p l 0 → H p = none → H l = none → Same H H' → Q (.ref p) H'
def spPick (K : PySem.W.Frag) : Sp := fun vs H Q _ => ∃ (p l a : Addr) (c : Int) (xs : List V), vs = [.ref p, .ref a] ∧ PenAt H p l c ∧ SqL K H a xs ∧ 0 < xs.length ∧ xs.length < 1000000 ∧ c < 1000000000 ∧
  ∀ (x : V) (H' : Hp), x ∈ xs → PenAt H' p l (c + 1) → Keep p H H' → Q x H'
def spFar : Sp := fun vs H Q _ => ∃ (p l : Addr) (c : Int), vs = [.ref p] ∧ PenAt H p l c ∧ c < 100000000 ∧
  ∀ (r c' : Int) (H' : Hp), c ≤ c' → c' ≤ c + 10 → -1000000000000000000 < r → r < 1000000000000000000 → PenAt H' p l c' → Keep p H H' → Q (.int r) H'
section
variable {P : Program} {w : World} {K : PySem.W.Frag} {mg : Str → Option Value} {base : Heap}
theorem kn_draw (D : DefIs K mg "_law_draw" sDraw) (T : PTxt K mg) : Kn P w K mg base "_law_draw" 1 ["_law_pen_here", "_law_many"] spDraw :=
  .of D (fun _ _ _ _ _ _ us hl => match us, hl with | [_, _], _ => rfl) fun _ _ F => ok_draw F T
theorem scPen : FnScope ["_law_script", "_law_fold", "_law_cell"] ["_law_script"] (defScope sPen) := ⟨rfl, rfl, rfl, by decide +kernel, rfl, by decide +kernel, by decide +kernel⟩
theorem kn_pen (D : DefIs K mg "_law_pen" sPen) (T : PTxt K mg) : Kn P w K mg base "_law_pen" 1 ["_law_script"] (spPen K) := by
  refine .of D (fun _ _ _ _ _ _ us hl => match us, hl with | [_], _ => rfl) fun _ _ F => ?_
  refine F.ok scPen (fun vs H Q E h => ?_) (fun cdv A outer s H vs Q E hr h => ?_)
  · obtain ⟨a, ns, rfl, _⟩ := h
    rfl
  · obtain ⟨a, ns, rfl, S, hl, k⟩ := h
    refine ⟨_, pss_cons (ps_set (i := 1) scPen.nd rfl (.inl rfl) pe_int)
      (pss_cons (ps_for PassesOwn.never rfl (pi_list (pv 0)) (pg_name (i := 2) scPen.nd rfl (.inl rfl))
        (pss_one (ps_set (i := 1) scPen.nd rfl (.inl rfl) (pe_op op_mod (pe_callTy call_int1 (by rfl) T.int bInt (pa_cons (pe_op op_add (pe_op op_mul (pv 1) pe_int) (pv 2)) pa_nil)) pe_int))))
      (pss_one (ps_ret (pe_disp (pps_cons pe_str (pe_callTy call_list_of (by rfl) T.list bList (pa_cons (pv 0) pa_nil)) (pps_cons pe_str pe_int (pps_cons pe_str pe_int (pps_cons pe_str pe_int (pps_cons pe_str (pv 1) pps_nil))))) rfl rfl (by intro z; cases z) (by decide))))), ?_⟩
    refine ⟨_, rfl, a, rfl, ⟨_, S⟩, for_list (K := K) (a := a) (xs := ns.map V.int) (fun i σ H' => H = H' ∧ ∃ (f : Int) (v : Option V), σ = [some (.ref a), some (.int f), v] ∧ 0 ≤ f ∧ f < 1000000007) ⟨rfl, _, _, rfl, by decide, by decide⟩ (fun i σ H' _ z => z.1 ▸ S) ?_ ?_⟩
    · rintro i x σ H' hi ⟨rfl, f, v, rfl, f0, f1⟩
      rw [List.getElem?_map] at hi
      obtain ⟨n, _, rfl⟩ := Option.map_eq_some_iff.mp hi
      refine ⟨_, rfl, _, _, rfl, rfl, .inl ⟨by omega, by omega⟩, _, rfl, _, _, rfl, rfl, .inl ⟨_, rfl, _, _, rfl, rfl, (show (0 : Int) < 1000000007 by decide), ?_⟩⟩
      exact ⟨rfl, _, _, rfl, Int.emod_nonneg _ (by decide), Int.emod_lt_of_pos _ (by decide)⟩
    · rintro σ H' ⟨rfl, f, v, rfl, f0, f1⟩
      intro p hp
      have ap : ∀ o, SqL K (upd H p o) a (ns.map V.int) := fun o => by
        rcases S with (s | ⟨u, s⟩) | s
        · exact .inl (.inl (by rw [upd_ne (ne_of_none s hp)]; exact s))
        · exact .inl (.inr ⟨u, by rw [upd_ne (ne_of_none s hp)]; exact s⟩)
        · exact .inr s
      refine ⟨_, rfl, a, _, rfl, .inl (ap _), fun l hl' => ?_⟩
      have npl : p ≠ l := fun z => by
        rw [← z, upd_same] at hl'
        cases hl'
      have nl : H l = none := by
        rw [upd_ne npl.symm] at hl'
        exact hl'
      refine ⟨_, rfl, ⟨by rw [upd_ne npl, upd_same], [(.inr "cells", .ref l), (.inr "at", .int 0), (.inr "digits", .int 0), (.inr "count", .int 0), (.inr "fold", .int f)], rfl, (by show 5 ≤ 15; decide), ?_⟩⟩
      have e : mergeK [] [((.inr "cells" : Key), V.ref l), (.inr "at", .int 0), (.inr "digits", .int 0), (.inr "count", .int 0), (.inr "fold", .int f)] = penD l 0 0 0 f := by kernel_rfl
      rw [e]
      refine k p l _ ⟨ns, 0, 0, f, upd_same, by rw [upd_ne npl.symm, upd_same], hl, by decide, by decide, by decide, f0, by omega⟩ hp nl fun b o z => ?_
      rw [upd_ne (ne_of_none z hp), upd_ne (ne_of_none z nl), upd_ne (ne_of_none z hp)]
      exact z
theorem scPick : FnScope ["_law_pen_here", "_law_some"] ["_law_pen_here", "_law_some"] (defScope sPick) := ⟨rfl, rfl, rfl, by decide +kernel, rfl, by decide +kernel, by decide +kernel⟩
theorem kn_pick (D : DefIs K mg "_law_pick" sPick) (T : PTxt K mg) (B : Kn P w K mg base "_law_draw" 1 ["_law_pen_here", "_law_many"] spDraw) : Kn P w K mg base "_law_pick" 2 ["_law_pen_here", "_law_some"] (spPick K) := by
  refine .of D (fun _ _ _ _ _ _ us hl => match us, hl with | [_, _], _ => rfl) fun _ _ F => ?_
  refine F.ok scPick (fun vs H Q E h => ?_) (fun cdv A outer s H vs Q E hr h => ?_)
  · obtain ⟨p, l, a, c, xs, rfl, _⟩ := h
    rfl
  · obtain ⟨p, l, a, c, xs, rfl, PA', S, l0, l1, c1, k⟩ := h
    refine ⟨_, pss_one (ps_ret (pe_ix ix_list (pv 1) (pe_kn B hr (pa_cons (pv 0) (pa_cons (pe_callB call_len_seq (by rfl) T.len PySem.boot_len (pa_cons (pv 1) pa_nil)) pa_nil))) (fun _ _ => rfl))), ?_⟩
    refine ⟨_, rfl, _, rfl, _, rfl, a, _, rfl, .inl S, p, l, c, _, rfl, PA', by omega, by omega, c1, fun r H' r0 r1 P1 K1 => ?_⟩
    obtain ⟨n, rfl⟩ : ∃ n : Nat, r = (n : Int) := ⟨r.toNat, (Int.toNat_of_nonneg r0).symm⟩
    have hn : n < xs.length := by omega
    obtain ⟨ns, a', d', f', I0⟩ := PA'
    exact ⟨a, xs, _, xs[n], rfl, rfl, SqL.keep K1 I0.obj S, atI_nat (by simp [hn]), k _ _ (List.getElem_mem hn) P1 K1⟩
theorem PenAt.new {H : Hp} {p k l : Addr} {c : Int} {o : HO} (h : PenAt H p k c) (n : H l = none) : PenAt (upd H l o) p k c := by
  obtain ⟨ns, a, d, f, I⟩ := h
  exact ⟨ns, a, d, f, by rw [upd_ne (ne_of_none I.obj n)]; exact I.obj, by rw [upd_ne (ne_of_none I.cel n)]; exact I.cel, I.len, I.a0, I.d0, I.c0, I.f0, I.f1⟩
end
end GG


namespace GG
open PySem PySem.Spec PyProof.Rows L2
theorem dt_dict2 {X : Cx} {H : Hp} {a : Addr} (e : H a = some (.dK [(.inr "a", .int 1), (.inr "b", .int 2)])) : Dt X H (.ref a) (.dict [(.str "a", .int 1), (.str "b", .int 2)]) := fun p σ s u I r => by
  cases r
  obtain ⟨_, ne, vs, kv, o, es, ep, ho, hx, hd, _, hp, _⟩ := (show ObjOk X.prog X.w H s.heap a (.dK _) from I.hok a _ e)
  have na : a ≠ sysModules := by
    intro z
    rw [z] at ne
    simp at ne
  cases kv with
  | @cons p1 q1 _ _ k1 kv' =>
  cases kv' with
  | @cons p2 q2 _ _ k2 kv'' =>
  cases kv''
  obtain ⟨c1, d1⟩ := q1
  obtain ⟨c2, d2⟩ := q2
  obtain ⟨e1, t1, v1⟩ := k1
  obtain ⟨e2, t2, v2⟩ := k2
  simp only at e1 v1 e2 v2
  subst e1 v1 e2 v2
  generalize hl : es.toList = l at hp
  cases hp with
  | @cons en _ _ _ h1 h2 h3 =>
  cases h3 with
  | @cons en2 _ _ _ g1 g2 g3 =>
  cases g3
  simp only at h1 h2 g1 g2
  have kk : ∀ (y : Str) (v : Value), keyIs (Sum.inr y) v = true → ∃ tk, v = Value.str y tk := fun y v h => by
    rcases keyIs_shape h with ⟨i, tk, z, _⟩ | ⟨y, tk, z, z2⟩
    · cases z
    · cases z
      exact ⟨tk, z2⟩
  obtain ⟨tk1, hk1⟩ := kk _ _ h1
  obtain ⟨tk2, hk2⟩ := kk _ _ g1
  have r1 : ReadsAll s.heap (es.toList.map (·.key)) [PyData.str "a", PyData.str "b"] ([] ++ ([] ++ [])) := by
    rw [hl, List.map_cons, List.map_cons, List.map_nil, hk1, hk2]
    exact .cons (.str _ tk1) (.cons (.str _ tk2) .nil)
  have r2 : ReadsAll s.heap (es.toList.map (·.val)) [PyData.int 1, PyData.int 2] ([] ++ ([] ++ [])) := by
    rw [hl, List.map_cons, List.map_cons, List.map_nil, h2, g2]
    exact .cons (.int _ _) (.cons (.int _ _) .nil)
  refine ⟨_, Reads.dict (kvs := [(.str "a", .int 1), (.str "b", .int 2)]) ho hx.1 hd r1 r2, fun m => ?_⟩
  rcases List.mem_append.mp m with m | m
  · rcases List.mem_cons.mp m with m | m
    · exact na m.symm
    · exact absurd m (by simp)
  · exact absurd m (by simp)
/-! ### data in the heap, by their shape -/
mutual
inductive Da (H : Hp) : V → PyData → Prop
  | non : Da H .non .none
  | bl (b : Bool) : Da H (.bl b) (.bool b)
  | int (i : Int) : Da H (.int i) (.int i)
  | str (x : Str) : Da H (.str x) (.str x)
  | lst {a : Addr} {xs : List V} {ds : List PyData} : H a = some (.lst xs) → a ≠ sysModules → DaAll H xs ds → Da H (.ref a) (.list ds)
  | tup {a : Addr} {xs : List V} {ds : List PyData} : H a = some (.tup xs) → DaAll H xs ds → Da H (.ref a) (.tuple ds)
  | dic {a : Addr} {k : Str} {v : V} {d : PyData} : H a = some (.dK [(.inr k, v)]) → Da H v d → Da H (.ref a) (.dict [(.str k, d)])
  | dic2 {a : Addr} : H a = some (.dK [(.inr "a", .int 1), (.inr "b", .int 2)]) → Da H (.ref a) (.dict [(.str "a", .int 1), (.str "b", .int 2)])
inductive DaAll (H : Hp) : List V → List PyData → Prop
  | nil : DaAll H [] []
  | cons {v : V} {vs : List V} {d : PyData} {ds : List PyData} : Da H v d → DaAll H vs ds → DaAll H (v :: vs) (d :: ds)
end
mutual
theorem Da.dt {X : Cx} {H : Hp} : ∀ {v : V} {d : PyData}, Da H v d → Dt X H v d
  | _, _, .non => .non
  | _, _, .bl b => .bl b
  | _, _, .int i => .int i
  | _, _, .str x => .str x
  | _, _, .lst e n t => .lst e n t.dt
  | _, _, .tup e t => .tup e t.dt
  | _, _, .dic e t => .dict1 e t.dt
  | _, _, .dic2 e => dt_dict2 e
theorem DaAll.dt {X : Cx} {H : Hp} : ∀ {vs : List V} {ds : List PyData}, DaAll H vs ds → DtAll X H vs ds
  | _, _, .nil => .nil
  | _, _, .cons h t => .cons h.dt t.dt
end
/-- what is no pen stays -/
def Stay (H H' : Hp) : Prop := ∀ b o, H b = some o → (∀ l a d c f, o ≠ .dK (penD l a d c f)) → H' b = some o
theorem Stay.refl {H : Hp} : Stay H H := fun _ _ e _ => e
theorem Stay.trans {H H1 H2 : Hp} (a : Stay H H1) (b : Stay H1 H2) : Stay H H2 := fun c o e n => b c o (a c o e n) n
theorem Same.stay {H H' : Hp} (k : Same H H') : Stay H H' := fun b o e _ => k b o e
theorem Keep.stay {p l0 : Addr} {c : Int} {H H' : Hp} (k : Keep p H H') (P : PenAt H p l0 c) : Stay H H' := fun b o e n => k b o (fun z => by
  obtain ⟨ns, a, d, f, I⟩ := P
  rw [z, I.obj] at e
  exact n _ _ _ _ _ (Option.some.inj e).symm) e
theorem Stay.new {H H1 : Hp} {q : Addr} {o : HO} (a : Stay H H1) (n : H1 q = none) : Stay H (upd H1 q o) := fun c u e ne => by
  have z := a c u e ne
  rw [upd_ne (ne_of_none z n)]
  exact z
mutual
theorem Da.stay {H H' : Hp} (k : Stay H H') : ∀ {v : V} {d : PyData}, Da H v d → Da H' v d
  | _, _, .non => .non
  | _, _, .bl b => .bl b
  | _, _, .int i => .int i
  | _, _, .str x => .str x
  | _, _, .lst e n t => .lst (k _ _ e (fun _ _ _ _ _ z => by cases z)) n (t.stay k)
  | _, _, .tup e t => .tup (k _ _ e (fun _ _ _ _ _ z => by cases z)) (t.stay k)
  | _, _, .dic e t => .dic (k _ _ e (fun _ _ _ _ _ z => by
      have z1 := HO.dK.inj z
      have z2 := congrArg List.length z1
      simp [penD] at z2)) (t.stay k)
  | _, _, .dic2 e => .dic2 (k _ _ e (fun _ _ _ _ _ z => by
      have z1 := HO.dK.inj z
      have z2 := congrArg List.length z1
      simp [penD] at z2))
theorem DaAll.stay {H H' : Hp} (k : Stay H H') : ∀ {vs : List V} {ds : List PyData}, DaAll H vs ds → DaAll H' vs ds
  | _, _, .nil => .nil
  | _, _, .cons h t => .cons (h.stay k) (t.stay k)
end
/-- a list display whose address is known not to be that of sys.modules -/
def tLstM (t : TA) : TE := fun σ H Q => t σ H fun xs H1 => xs.length ≤ sizeLine ∧ ∀ p, H1 p = none → p ≠ sysModules → Q (.ref p) (upd H1 p (.lst xs))
theorem pe_lstM {X : Cx} {es : List Expr} {t : TA} {pos : Pos} (h : PA X es t) : PE X (.List es pos) (tLstM t) := by
  refine ⟨fun pins s σ H Q I hq => ?_⟩
  refine wpAny_List_spliced (thn (h.run pos pins s σ H _ I hq) fun us s1 got => ?_)
  obtain ⟨xs, H1, I1, rel, small, q⟩ := got
  have fresh : H1 s1.heap.objs.size = none := I1.hok.fresh (Nat.le_refl _)
  refine ⟨by rw [← rel.length]; exact small, .ref s1.heap.objs.size, upd H1 s1.heap.objs.size (.lst xs), I1.laid (t' := s1.toks) (fun b u e => Heap.get?_push_of_some _ e) (Nat.le_refl _) ⟨small, us, 0, rel, Heap.get?_push_size _ rfl⟩, rfl, q _ fresh (Nat.ne_of_gt I1.big)⟩
/-- xs[lo:hi], likewise -/
def rSlM (K : PySem.W.Frag) : V → Option Int → Option Int → Hp → VK → Prop := fun x lo hi H Q => ∃ a xs, x = .ref a ∧ SqL K H a xs ∧ ∀ p, H p = none → p ≠ sysModules → Q (.ref p) (upd H p (.lst (cutV xs lo hi)))
theorem sl_listM {X : Cx} : SlR X (rSlM X.K) := by
  intro pins s σ H x v vl vu lo hi sl Q I rx hs pl pu h
  obtain ⟨a, xs, rfl, sq, q⟩ := h
  cases rx
  obtain ⟨its, r, ht, small⟩ := I.list sq
  have same := r.length
  refine ⟨"list", _, slot_list_getitem.lookup, ht.isList.typeIs, wpAny_getItem_list_slice ht.isList hs pl pu .none (by simp) ?_ (by rw [List.size_toArray] <;> omega)⟩
  rw [slicePick_cut, ← same]
  exact ⟨.ref s.heap.objs.size, _, I.laid (t' := s.toks) (o := .lst (cutV xs lo hi)) (fun b ob q => Heap.get?_push_of_some _ q) (Nat.le_refl _) ⟨Nat.le_trans (cutV_length xs lo hi) small, _, 0, (r.drop (HT.sIx xs.length 0 lo)).take (HT.sIx xs.length xs.length hi - HT.sIx xs.length 0 lo), Heap.get?_push_size _ rfl⟩, rfl, q _ (I.hok.fresh (Nat.le_refl _)) (Nat.ne_of_gt I.big)⟩
/-- for i, x in enumerate(a list) -/
theorem for_enumL {K : PySem.W.Frag} {a : Addr} {xs : List V} {g : TG} {tb : TS} {D : Ends} {σ : L2.St} {H : Hp} (Pv : Nat → L2.St → Hp → Prop) (h0 : Pv 0 σ H) (hq : ∀ i σ H, Pv i σ H → SqL K H a xs)
    (hs : ∀ (i : Nat) (x : V) (T : Addr) (σ : L2.St) (H : Hp), xs[i]? = some x → Pv i σ H → H T = none → g (.ref T) σ (upd H T (.tup [.int (i : Nat), x])) fun σ2 H2 => tb { D with nx := Pv (i + 1), ct := Pv (i + 1), bk := D.nx } σ2 H2) (hd : ∀ σ H, Pv xs.length σ H → D.nx σ H) :
    ∃ W : Nat → Nat → L2.St → Hp → Prop, (∃ m, W 0 m σ H) ∧ ∀ i m σ H, W i m σ H →
      ((Ite K a).stop i H ∧ D.nx σ H) ∨ ((Ite K a).go i H ∧ ∃ N : L2.St → Hp → Prop, (∀ σ' H', N σ' H' → ∃ m', m' < m ∧ W (i + 1) m' σ' H') ∧ ∀ v H', (Ite K a).yld i H v H' → g v σ H' fun σ2 H2 => tb { D with nx := N, ct := N, bk := D.nx } σ2 H2) := by
  refine ⟨fun i m σ H => m = xs.length - i ∧ i ≤ xs.length ∧ Pv i σ H, ⟨_, rfl, Nat.zero_le _, h0⟩, ?_⟩
  rintro i m σ H ⟨rfl, le, now⟩
  have sq := hq i σ H now
  by_cases lt : i < xs.length
  · refine .inr ⟨⟨xs, xs[i], sq, List.getElem?_eq_getElem lt⟩, Pv (i + 1), fun σ' H' z => ⟨xs.length - (i + 1), by omega, rfl, lt, z⟩, ?_⟩
    rintro v H' ⟨T, x, rfl, free, rfl, all⟩
    exact hs i x T σ H (all xs sq) now free
  · obtain rfl : i = xs.length := by omega
    exact .inl ⟨⟨xs, sq, Nat.le_refl _⟩, hd σ H now⟩
end GG


namespace GG
open PySem PySem.Spec PyProof.Rows L2
/-! ### what a ratio is, by its datum -/
def isW : PyData → Bool
  | .int _ => true
  | _ => false
def isB : PyData → Bool
  | .bool _ => true
  | _ => false
def lw (t b : Int) : Int × Int := (t / ((Nat.gcd t.natAbs b.natAbs : Nat) : Int), b / ((Nat.gcd t.natAbs b.natAbs : Nat) : Int))
def isR : PyData → Bool
  | .int _ => true
  | .tuple [.int _, .int b] => decide (0 < b)
  | .list [.int _, .int b] => decide (0 < b)
  | _ => false
def ratOf : PyData → Int × Int
  | .int i => (i, 1)
  | .tuple [.int a, .int b] => lw a b
  | .list [.int a, .int b] => lw a b
  | _ => (0, 1)
def smallR : PyData → Prop
  | .int i => i.natAbs < 2 ^ 120
  | .tuple [.int a, .int b] => a.natAbs < 2 ^ 120 ∧ b.natAbs < 2 ^ 120
  | .list [.int a, .int b] => a.natAbs < 2 ^ 120 ∧ b.natAbs < 2 ^ 120
  | _ => True
def tyD : PyData → String
  | .none => "NoneType"
  | .bool _ => "bool"
  | .int _ => "int"
  | .str _ => "str"
  | .list _ => "list"
  | .tuple _ => "tuple"
  | .dict _ => "dict"
def isSeq : PyData → Bool
  | .list _ => true
  | .tuple _ => true
  | _ => false
theorem Da.ty {K : PySem.W.Frag} {H : Hp} {v : V} {d : PyData} (h : Da H v d) : TyX K H v (.type (tyD d)) := by
  cases h with
  | non => exact .base .non
  | bl b => exact .base (.bl b)
  | int i => exact .base (.int i)
  | str x => exact .base (.str x)
  | lst e _ _ => exact .base (.lst e)
  | tup e _ => exact .base (.tup e)
  | dic e _ => exact .base (.dK e)
  | dic2 e => exact .base (.dK e)
theorem kit_int {K : PySem.W.Frag} (d : PyData) : PySem.W.kitOne K (.type (tyD d)) (.type "int") = some (isW d || (isB d)) := by
  cases d <;> exact kit_ty (by kernel_rfl)
theorem kit_bool {K : PySem.W.Frag} (d : PyData) : PySem.W.kitOne K (.type (tyD d)) (.type "bool") = some (isB d) := by
  cases d <;> exact kit_ty (by kernel_rfl)
theorem kit_seq {K : PySem.W.Frag} (d : PyData) : PySem.W.kitAny K (.type (tyD d)) [.type "tuple", .type "list"] = some (isSeq d) := by
  cases d
  case list => exact kitAny_cons (b := false) (kit_ty (by kernel_rfl)) (fun _ => kitAny_cons (b := true) (kit_ty (by kernel_rfl)) (fun z => by cases z) (fun _ => rfl)) (fun z => by cases z)
  case tuple => exact kitAny_cons (b := true) (kit_ty (by kernel_rfl)) (fun z => by cases z) (fun _ => rfl)
  all_goals exact kitAny_cons (b := false) (kit_ty (by kernel_rfl)) (fun _ => kitAny_cons (b := false) (kit_ty (by kernel_rfl)) (fun _ => kitAny_nil) (fun z => by cases z)) (fun z => by cases z)
theorem ix_any {X : Cx} : IxR X (fun x y H Q => rIxL X.K x y H Q ∨ rIxT X.K x y H Q) := by
  intro value slice pins s σ H x y v u Q I rx ry h hs
  rcases h with h | h
  · exact ix_list value slice pins s σ H x y v u Q I rx ry h hs
  · exact ix_tup value slice pins s σ H x y v u Q I rx ry h hs
theorem bBool : bootBuiltins "bool" = some (.type "bool") := by decide +kernel
theorem bTuple : bootBuiltins "tuple" = some (.type "tuple") := by decide +kernel
structure RTxt (K : PySem.W.Frag) (mg : Str → Option Value) : Prop where
  int : mg "int" = none
  bool : mg "bool" = none
  tuple : mg "tuple" = none
  list : mg "list" = none
  len : mg "len" = none
  isi : mg "isinstance" = none
  gcd : mg "gcd" = some (.builtin "math.gcd")
theorem bIsi : bootBuiltins "isinstance" = some (.builtin "isinstance") := by decide +kernel
abbrev sWhole : Stmt := topS 13
abbrev sRatio : Stmt := topS 14
abbrev sLow : Stmt := topS 15
def spWhole : Sp := fun vs H Q _ => ∃ v d, vs = [v] ∧ Da H v d ∧ Q (.bl (isW d)) H
def spRatio : Sp := fun vs H Q _ => ∃ v d, vs = [v] ∧ Da H v d ∧ ∀ H', Same H H' → Q (.bl (isR d)) H'
def spLow : Sp := fun vs H Q _ => ∃ t b : Int, vs = [.int t, .int b] ∧ 0 < b ∧ b.natAbs < 2 ^ 250 ∧ ∀ p, H p = none → Q (.ref p) (upd H p (.tup [.int (lw t b).1, .int (lw t b).2]))
section
variable {P : Program} {w : World} {K : PySem.W.Frag} {mg : Str → Option Value} {base : Heap}
theorem scWhole : FnScope ["value"] ["value"] (defScope sWhole) := ⟨rfl, rfl, rfl, by decide +kernel, rfl, by decide +kernel, by decide +kernel⟩
theorem kn_whole (D : DefIs K mg "is_whole" sWhole) (T : RTxt K mg) : Kn P w K mg base "is_whole" 1 ["value"] spWhole := by
  refine .of D (fun _ _ _ _ _ _ us hl => match us, hl with | [_], _ => rfl) fun _ _ F => ?_
  refine F.ok scWhole (fun vs H Q E h => ?_) (fun cdv A outer s H vs Q E hr h => ?_)
  · obtain ⟨v, d, rfl, _⟩ := h
    rfl
  · obtain ⟨v, d, rfl, da, k⟩ := h
    refine ⟨_, pss_one (ps_ret (pe_and (pe_callB call_isi (by rfl) T.isi bIsi (pa_cons (pv 0) (pa_cons (pe_bltn (v := .ty "int") rfl T.int bInt rfl) pa_nil)))
      (pe_one (pe_not (pe_callB call_isi (by rfl) T.isi bIsi (pa_cons (pv 0) (pa_cons (pe_bltn (v := .ty "bool") rfl T.bool bBool rfl) pa_nil))))))), ?_⟩
    refine ⟨_, rfl, v, .ty "int", _, _, _, rfl, .ty _, da.ty, kit_int d, _, rfl, ?_⟩
    refine ite2 (fun z => ?_) (fun z => ?_)
    · refine ⟨_, rfl, v, .ty "bool", _, _, _, rfl, .ty _, da.ty, kit_bool d, _, rfl, ?_⟩
      have e : (!(isB d)) = isW d := by
        cases d <;> first | rfl | (simp [isW, isB] at z)
      rw [e]
      exact k
    · have e : isW d = false := by
        cases d <;> first | rfl | (simp [isW, isB] at z)
      rw [e] at k
      exact k
theorem scRatio : FnScope ["value"] ["value"] (defScope sRatio) := ⟨rfl, rfl, rfl, by decide +kernel, rfl, by decide +kernel, by decide +kernel⟩
theorem isR_long {xs : List PyData} (h : xs.length ≠ 2) : isR (.list xs) = false ∧ isR (.tuple xs) = false := by
  match xs, h with
  | [], _ => exact ⟨rfl, rfl⟩
  | [_], _ => exact ⟨by simp [isR], by simp [isR]⟩
  | [_, _], h => exact absurd rfl h
  | _ :: _ :: _ :: _, _ => exact ⟨by simp [isR], by simp [isR]⟩
theorem DaAll.length {H : Hp} : ∀ {vs : List V} {ds : List PyData}, DaAll H vs ds → vs.length = ds.length
  | _, _, .nil => rfl
  | _, _, .cons _ t => by rw [List.length_cons, List.length_cons, t.length]
/-- a list or a tuple with these items -/
theorem Da.seq {K : PySem.W.Frag} {H : Hp} {v : V} {d : PyData} (h : Da H v d) (s : isSeq d = true) : ∃ a xs ds, v = .ref a ∧ (SqL K H a xs ∨ SqT K H a xs) ∧ DaAll H xs ds ∧ (d = .list ds ∨ d = .tuple ds) ∧ xs.length = ds.length := by
  cases h with
  | lst e n t => exact ⟨_, _, _, rfl, .inl (.inl (.inl e)), t, .inl rfl, t.length⟩
  | tup e t => exact ⟨_, _, _, rfl, .inr (.inl (.inl e)), t, .inr rfl, t.length⟩
  | _ => cases s
theorem kn_ratio (D : DefIs K mg "is_ratio" sRatio) (T : RTxt K mg) (B : Kn P w K mg base "is_whole" 1 ["value"] spWhole) : Kn P w K mg base "is_ratio" 2 ["value"] spRatio := by
  refine .of D (fun _ _ _ _ _ _ us hl => match us, hl with | [_], _ => rfl) fun _ _ F => ?_
  refine F.ok scRatio (fun vs H Q E h => ?_) (fun cdv A outer s H vs Q E hr h => ?_)
  · obtain ⟨v, d, rfl, _⟩ := h
    rfl
  · obtain ⟨v, d, rfl, da, k⟩ := h
    refine ⟨_, pss_cons (ps_if (pt_val (pe_kn B hr (pa_cons (pv 0) pa_nil))) (pss_one (ps_ret pe_bl)) pss_nil)
      (pss_cons (ps_if (PW.pt (pw_or (pt_not (pt_val (pe_callB call_isiT (by rfl) T.isi bIsi (pa_cons (pv 0) (pa_cons (pe_tup (pa_cons (pe_bltn (v := .ty "tuple") rfl T.tuple bTuple rfl) (pa_cons (pe_bltn (v := .ty "list") rfl T.list bList rfl) pa_nil))) pa_nil)))))
          (pw_or1 (pt_cmpR op_ne (pe_callB call_len_seq (by rfl) T.len PySem.boot_len (pa_cons (pv 0) pa_nil)) pe_int (nomark _))))) (pss_one (ps_ret pe_bl)) pss_nil)
      (pss_one (ps_ret (pe_and (pe_kn B hr (pa_cons (pe_ix ix_any (pv 0) pe_int (fun _ _ => rfl)) pa_nil)) (pe_and (pe_kn B hr (pa_cons (pe_ix ix_any (pv 0) pe_int (fun _ _ => rfl)) pa_nil)) (pe_one (pe_cmpR op_gt (pe_ix ix_any (pv 0) pe_int (fun _ _ => rfl)) pe_int (nomark _)))))))), ?_⟩
    refine ⟨_, rfl, v, d, rfl, da, _, rfl, ?_⟩
    refine ite2 (fun z => ?_) (fun z => ?_)
    · have e : isR d = true := by cases d <;> first | rfl | (simp [isW] at z)
      rw [e] at k
      exact k H (L2.Same.refl H)
    refine ⟨_, rfl, (by show 2 ≤ sizeLine; rw [sizeLine_eq]; decide), fun p np => ?_⟩
    have S1 := GG.Stay.new (Stay.refl (H := H)) np (o := .tup [.ty "tuple", .ty "list"])
    have da1 := da.stay S1
    have Sa : Same H (upd H p (.tup [.ty "tuple", .ty "list"])) := fun b o e => by
      rw [upd_ne (ne_of_none e np)]
      exact e
    refine ⟨v, p, _, _, _, _, rfl, upd_same, .cons (.ty _) (.cons (.ty _) .nil), da1.ty, kit_seq d, _, rfl, ?_⟩
    generalize (upd H p (.tup [.ty "tuple", .ty "list"])) = H1 at S1 da1 Sa ⊢
    cases hs : isSeq d with
    | false =>
      refine iteT ?_
      have e : isR d = false := by
        cases d with
        | int i => exact absurd (show isW (.int i) = true from rfl) z
        | list xs => cases hs
        | tuple xs => cases hs
        | _ => rfl
      rw [e] at k
      exact k H1 Sa
    | true =>
      refine iteF ?_
      obtain ⟨a, xs, ds, rfl, sq, all, hd, hl⟩ := da1.seq (K := K) hs
      refine ⟨_, rfl, a, xs, rfl, sq, rfl, _, rfl, ?_⟩
      refine ite2 (fun z2 => ?_) (fun z2 => ?_)
      · have e : isR d = false := by
          have hn : ds.length ≠ 2 := fun q => by
            rw [hl, q] at z2
            simp at z2
          rcases hd with rfl | rfl
          · exact (isR_long hn).1
          · exact (isR_long hn).2
        rw [e] at k
        exact k H1 Sa
      · have h2 : ds.length = 2 := by
          have q : xs.length = 2 := by
            by_cases q : (xs.length : Int) = 2
            · omega
            · exfalso
              apply z2
              simp [q]
          omega
        obtain ⟨d0, d1, rfl⟩ : ∃ d0 d1, ds = [d0, d1] := by
          match ds, h2 with
          | [d0, d1], _ => exact ⟨_, _, rfl⟩
        cases all with
        | @cons x0 xs' _ _ a0 all' =>
          cases all' with
          | @cons x1 xs'' _ _ a1 all'' =>
            cases all''
            have ix : ∀ (n : Nat) (x : V), [x0, x1][n]? = some x → ∀ (Q' : V → Hp → Prop), Q' x H1 → (rIxL K (.ref a) (.int (n : Int)) H1 Q' ∨ rIxT K (.ref a) (.int (n : Int)) H1 Q') := fun n x hx Q' q => by
              rcases sq with sq | sq
              · exact .inl ⟨a, _, _, x, rfl, rfl, sq, atI_nat hx, q⟩
              · exact .inr ⟨a, _, _, x, rfl, rfl, sq, atI_nat hx, q⟩
            refine ⟨_, rfl, ix 0 x0 rfl _ ⟨x0, d0, rfl, a0, _, rfl, ?_⟩⟩
            cases h0 : isW d0 with
            | false =>
              refine iteF ?_
              have e : isR d = false := by rcases hd with rfl | rfl <;> (cases d0 <;> first | rfl | (simp [isW] at h0))
              rw [e] at k
              exact k H1 Sa
            | true =>
              refine iteT ?_
              refine ⟨_, rfl, ix 1 x1 rfl _ ⟨x1, d1, rfl, a1, _, rfl, ?_⟩⟩
              cases h1 : isW d1 with
              | false =>
                refine iteF ?_
                have e : isR d = false := by rcases hd with rfl | rfl <;> (cases d0 <;> first | rfl | (cases d1 <;> first | rfl | (simp [isW] at h1)))
                rw [e] at k
                exact k H1 Sa
              | true =>
                refine iteT ?_
                cases d0 with
                | int i0 =>
                  cases d1 with
                  | int i1 =>
                    cases a1
                    refine ⟨_, rfl, ix 1 (.int i1) rfl _ ⟨_, _, rfl, rfl, ?_⟩⟩
                    have e : isR d = decide (0 < i1) := by rcases hd with rfl | rfl <;> rfl
                    rw [e] at k
                    exact k H1 Sa
                  | _ => cases h1
                | _ => cases h0
theorem scLow : FnScope ["top", "bottom", "shared"] ["top", "bottom"] (defScope sLow) := ⟨rfl, rfl, rfl, by decide +kernel, rfl, by decide +kernel, by decide +kernel⟩
theorem kn_low (D : DefIs K mg "lowest" sLow) (T : RTxt K mg) : Kn P w K mg base "lowest" 1 ["top", "bottom"] spLow := by
  refine .of D (fun _ _ _ _ _ _ us hl => match us, hl with | [_, _], _ => rfl) fun _ _ F => ?_
  refine F.ok scLow (fun vs H Q E h => ?_) (fun cdv A outer s H vs Q E hr h => ?_)
  · obtain ⟨t, b, rfl, _⟩ := h
    rfl
  · obtain ⟨t, b, rfl, b0, b1, k⟩ := h
    refine ⟨_, pss_cons (ps_set (i := 2) scLow.nd rfl (.inl rfl) (pe_callBfun cr_gcd (by rfl) T.gcd (pa_cons (pv 0) (pa_cons (pv 1) pa_nil))))
      (pss_one (ps_ret (pe_tup (pa_cons (pe_op op_fdivW (pv 0) (pv 2)) (pa_cons (pe_op op_fdivW (pv 1) (pv 2)) pa_nil))))), ?_⟩
    have g0 : 0 < Nat.gcd t.natAbs b.natAbs := Nat.gcd_pos_of_pos_right _ (by omega)
    have g1 : Nat.gcd t.natAbs b.natAbs ≤ b.natAbs := Nat.le_of_dvd (by omega) (Nat.gcd_dvd_right _ _)
    have dv : CDivW t ((Nat.gcd t.natAbs b.natAbs : Nat) : Int) := wide_div (b := 250) (by omega) (by rw [Int.natAbs_natCast]; exact Nat.lt_of_le_of_lt g1 b1) (by decide) (by decide)
    have dv2 : CDivW b ((Nat.gcd t.natAbs b.natAbs : Nat) : Int) := wide_div (b := 250) (by omega) (by rw [Int.natAbs_natCast]; exact Nat.lt_of_le_of_lt g1 b1) (by decide) (by decide)
    refine ⟨_, rfl, _, rfl, t, b, rfl, _, rfl, _, rfl, _, _, rfl, rfl, dv, _, rfl, _, rfl, _, _, rfl, rfl, dv2, (by show 2 ≤ sizeLine; rw [sizeLine_eq]; decide), fun p np => ?_⟩
    exact k p np
end
end GG


namespace GG
open PySem PySem.Spec PyProof.Rows L2
theorem Same.new {H H1 : Hp} {q : Addr} {o : HO} (a : Same H H1) (n : H1 q = none) : Same H (upd H1 q o) := fun c u e => by
  have z := a c u e
  rw [upd_ne (ne_of_none z n)]
  exact z
/-! ### defs that may raise -/
structure KnX (P : Program) (w : World) (K : PySem.W.Frag) (mg : Str → Option Value) (base : Heap) (x : Str) (k : Nat) (ps : List Str) (sp : Sp) : Prop where
  ex : ∃ f fd, mg x = some (.ref f) ∧ PySem.W.keepIn K (.ref f) = true ∧ Binds K fd ps [] ∧ FnOk P w K mg base (L2.CX P w) k f fd ps sp
theorem KnX.of {P : Program} {w : World} {K : PySem.W.Frag} {mg : Str → Option Value} {base : Heap} {x : Str} {st : Stmt} {k : Nat} {ps : List Str} {sp : Sp} (D : DefIs K mg x st)
    (hb : ∀ (kV doc pm : Value) (an : Option Addr) (cdv ct : Value) (us : List Value), us.length = ps.length → bindArgs (PySem.W.fnOf x x (defArgs st) (defBody st) (defScope st) .none kV doc pm an cdv ct) ⟨us, []⟩ = pure (ps.zip us))
    (ok : ∀ f fd, Fun K x x st f fd → FnOk P w K mg base (L2.CX P w) k f fd ps sp) : KnX P w K mg base x k ps sp := by
  obtain ⟨f, fd, F, m⟩ := D.ex
  exact ⟨f, fd, m, F.kp, F.binds hb, ok f fd F⟩
theorem pe_knX {X : Cx} {W : WX} {E : XK} {x : Str} {k : Nat} {ps : List Str} {sp : Sp} {e : Expr} {es : List Expr} {t : TA} {p pos : Pos} (F : KnX X.prog X.w X.K X.mg X.base x k ps sp) (hr : Room k X.A) (tk : Takes X W) (hW : ∀ cls d σ H, E cls d H → W cls d σ H) (ha : PA X (e :: es) t) (hg : Gl X x := by rfl)
    (hdb : (x == ("__debug__" : Str)) = false := by decide) (he : starEach (e :: es) X.env = (false, eval e X.env) :: starEach es X.env := by rfl) (hpl : (backTo pos (starEach es X.env)).any (·.1) = false := by rfl) :
    PE X (.Call (.Name x p) (e :: es) [] pos) (tCall sp [] E t) := by
  obtain ⟨f, fd, hm, hk, hb, G⟩ := F.ex
  exact pe_call G hr hg hm hk hb .nil (passes_call tk hW) ha hdb he hpl
abbrev sBN : Stmt := inClass (topS 5) 0
abbrev sTold : Stmt := topS 16
/-- BadNumber's __init__ -/
def spBN (C : Addr) : Sp := fun vs H Q _ => ∃ (a : Addr) (y1 y2 : V), vs = [.ref a, y1, y2] ∧ H a = some (exo a C none) ∧ ∀ (dx : Addr) (H' : Hp), H dx = none → dx ≠ a → H' a = some (exo a C (some dx)) → H' dx = some (exd dx [("number", y2), ("what", y1)]) → Keep a H H' → Q .non H'
structure BNTxt (P : Program) (w : World) (K : PySem.W.Frag) (mg : Str → Option Value) (base : Heap) (C : Addr) : Prop where
  m : mg "BadNumber" = some (.ref C)
  t : ExT K C
  ini : ∃ fI fd, PySem.W.findIn K (.ref C) "__init__" = some (some (.ref fI)) ∧ PySem.W.typeIn K (.ref fI) = some (.type "function") ∧ Binds K fd ["self", "what", "number"] [] ∧ FnOk P w K mg base CX0 1 fI fd ["self", "what", "number"] (spBN C)
section
variable {P : Program} {w : World} {K : PySem.W.Frag} {mg : Str → Option Value} {base : Heap}
theorem scBN : FnScope ["self", "what", "number"] ["self", "what", "number"] (defScope sBN) := ⟨rfl, rfl, rfl, by decide +kernel, rfl, by decide +kernel, by decide +kernel⟩
theorem bn_of {C fI : Addr} {fd : FuncData} (m : mg "BadNumber" = some (.ref C)) (t : ExT K C) (n1 : PySem.W.findIn K (.ref C) "what" = some none) (n2 : PySem.W.findIn K (.ref C) "number" = some none)
    (i : PySem.W.findIn K (.ref C) "__init__" = some (some (.ref fI))) (ti : PySem.W.typeIn K (.ref fI) = some (.type "function")) (U : Fun K "__init__" "BadNumber.__init__" sBN fI fd) : BNTxt P w K mg base C := by
  refine ⟨m, t, fI, fd, i, ti, U.binds fun _ _ _ _ _ _ us hl => match us, hl with | [_, _, _], _ => rfl, ?_⟩
  refine U.ok scBN (fun vs H Q E h => ?_) (fun cdv A outer s H vs Q E hr h => ?_)
  · obtain ⟨a, y1, y2, rfl, _⟩ := h
    rfl
  · obtain ⟨a, y1, y2, rfl, he, k⟩ := h
    refine ⟨_, pss_cons (ps_ost (pv 0) (pv 1)) (pss_one (ps_ost (pv 0) (pv 2))), ?_⟩
    refine ⟨_, rfl, _, rfl, a, C, rfl, t.ox, n1, .inl ⟨he, fun dx hdx ne => ?_⟩⟩
    refine ⟨_, rfl, _, rfl, a, C, rfl, t.ox, n2, .inr ⟨dx, [("what", y1)], upd_same, by rw [upd_ne ne, upd_same], (by show 1 ≤ 900; decide), ?_⟩⟩
    refine k dx _ hdx ne (by rw [upd_ne ne.symm, upd_same]) upd_same fun b o nb e => ?_
    rw [upd_ne (ne_of_none e hdx), upd_ne nb, upd_ne (ne_of_none e hdx)]
    exact e
/-- raise BadNumber(a, b): what is left behind the arguments -/
theorem raiseBN {C : Addr} {y1 y2 : V} {H1 : Hp} {R : Value → Option Addr → Hp → Prop} (k : ∀ (d : Addr) (H' : Hp), H' d = some (.xd [("number", y2), ("what", y1)]) → Same H1 H' → R (.ref C) (some d) H') :
    [y1, y2].length ≤ 1000 ∧ ∀ a, H1 a = none → spBN C (.ref a :: ([y1, y2] ++ [])) (upd H1 a (exo a C none))
      (fun v H2 => v = .non ∧ ∃ (d : Addr) (fs : List (Str × V)), H2 a = some (exo a C (some d)) ∧ H2 d = some (exd d fs) ∧ H1 d = none ∧ R (.ref C) (some d) (upd (del H2 a) d (.xd fs))) (fun _ _ _ => False) := by
  refine ⟨(by show 2 ≤ 1000; decide), fun a na => ⟨a, y1, y2, rfl, upd_same, fun dx H2 hdx ne e1 e2 kp => ⟨rfl, dx, _, e1, e2, ?_, ?_⟩⟩⟩
  · rw [upd_ne ne] at hdx
    exact hdx
  · refine k dx _ upd_same fun b o z => ?_
    have nd : H1 dx = none := by
      rw [upd_ne ne] at hdx
      exact hdx
    rw [upd_ne (ne_of_none z nd), del_ne (ne_of_none z na)]
    exact kp b o (ne_of_none z na) (by rw [upd_ne (ne_of_none z na)]; exact z)
theorem ps_raiseBN {X : Cx} {C : Addr} {W : WX} {e1 e2 : Expr} {ta : TA} {p pos pos2 : Pos} (hc : X.calm = true) (T : BNTxt X.prog X.w X.K X.mg X.base C) (hr : Room 2 X.A) (tk : Takes X W) (ha : PA X [e1, e2] ta) (hg : Gl X "BadNumber" := by rfl)
    (he : starEach (e1 :: [e2]) X.env = (false, eval e1 X.env) :: starEach [e2] X.env := by rfl) (hpl : (backTo pos (starEach [e2] X.env)).any (·.1) = false := by rfl) :
    PS X (.Raise (some (.Call (.Name "BadNumber" p) [e1, e2] [] pos)) none pos2) (fun _ σ H => tMkO C (spBN C) [] ta σ H fun cls d H' => W cls d σ H') := by
  obtain ⟨fI, fd, i, ti, hb, G⟩ := T.ini
  exact ps_raise hc tk (pmk_oex (CX := CX0) T.t.ox i ti G hr hb .nil (fun _ _ _ _ _ _ _ z => z.elim) hg T.m ha (by decide) he hpl)
def spTold (C : Addr) : Sp := fun vs H Q E => ∃ v wv d, vs = [v, wv] ∧ Da H v d ∧ smallR d ∧ (isR d = true → ∀ p H', H' p = some (.tup [.int (ratOf d).1, .int (ratOf d).2]) → Same H H' → Q (.ref p) H') ∧
  (isR d = false → ∀ dd H', H' dd = some (.xd [("number", v), ("what", wv)]) → Same H H' → E (.ref C) (some dd) H')
theorem scTold : FnScope ["value", "what"] ["value", "what"] (defScope sTold) := ⟨rfl, rfl, rfl, by decide +kernel, rfl, by decide +kernel, by decide +kernel⟩
/-- a datum that is a ratio -/
theorem isR_cases {d : PyData} (h : isR d = true) : (∃ i, d = .int i) ∨ ∃ i b, (d = .tuple [.int i, .int b] ∨ d = .list [.int i, .int b]) ∧ 0 < b := by
  unfold isR at h
  split at h
  · exact .inl ⟨_, rfl⟩
  · exact .inr ⟨_, _, .inl rfl, of_decide_eq_true h⟩
  · exact .inr ⟨_, _, .inr rfl, of_decide_eq_true h⟩
  · cases h
theorem kn_told {C : Addr} (D : DefIs K mg "told" sTold) (T : RTxt K mg) (N : BNTxt P w K mg base C) (B : Kn P w K mg base "is_ratio" 2 ["value"] spRatio) (L : Kn P w K mg base "lowest" 1 ["top", "bottom"] spLow) : KnX P w K mg base "told" 3 ["value", "what"] (spTold C) := by
  refine .of D (fun _ _ _ _ _ _ us hl => match us, hl with | [_, _], _ => rfl) fun _ _ F => ?_
  refine F.okX scTold (fun vs H Q E h => ?_) (fun cdv A outer s H vs Q E hr h => ?_)
  · obtain ⟨v, wv, d, rfl, _⟩ := h
    rfl
  · obtain ⟨v, wv, d, rfl, da, sm, kQ, kE⟩ := h
    have hr1 : Room 1 _ := hr.mono (by decide)
    refine ⟨_, pss_cons (ps_if (pt_not (pt_val (pe_kn B hr (pa_cons (pv 0) pa_nil)))) (pss_one (ps_raiseBN rfl N hr (takes_of rfl rfl rfl rfl) (pa_cons (pv 1) (pa_cons (pv 0) pa_nil)))) pss_nil)
      (pss_cons (ps_if (pt_val (pe_callB call_isi (by rfl) T.isi bIsi (pa_cons (pv 0) (pa_cons (pe_bltn (v := .ty "int") rfl T.int bInt rfl) pa_nil)))) (pss_one (ps_ret (pe_tup (pa_cons (pv 0) (pa_cons pe_int pa_nil))))) pss_nil)
      (pss_one (ps_ret (pe_kn L hr1 (pa_cons (pe_ix ix_any (pv 0) pe_int (fun _ _ => rfl)) (pa_cons (pe_ix ix_any (pv 0) pe_int (fun _ _ => rfl)) pa_nil)))))), ?_⟩
    refine ⟨_, rfl, v, d, rfl, da, fun H1 S1 => ⟨_, rfl, ?_⟩⟩
    have da1 := da.stay (Same.stay S1)
    cases hR : isR d with
    | false =>
      refine iteT ?_
      exact ⟨_, rfl, _, rfl, raiseBN fun dd H' e S' => kE hR dd H' e (L2.Same.trans S1 S')⟩
    | true =>
      refine iteF ?_
      refine ⟨_, rfl, v, .ty "int", _, _, _, rfl, .ty _, da1.ty, kit_int d, _, rfl, ?_⟩
      rcases isR_cases hR with ⟨i, rfl⟩ | ⟨i, b, hd, b0⟩
      · refine iteT ?_
        cases da1
        refine ⟨_, rfl, (by show 2 ≤ sizeLine; rw [sizeLine_eq]; decide), fun p np => ?_⟩
        exact kQ hR p _ upd_same (GG.Same.new S1 np)
      · have e1 : (isW d || isB d) = false := by rcases hd with rfl | rfl <;> rfl
        have e2 : isSeq d = true := by rcases hd with rfl | rfl <;> rfl
        rw [e1]
        refine iteF ?_
        obtain ⟨a, xs, ds, rfl, sq, all, hd2, hl⟩ := da1.seq (K := K) e2
        have e3 : ds = [.int i, .int b] := by
          rcases hd with rfl | rfl <;> rcases hd2 with z | z <;> cases z <;> rfl
        have e4 : ratOf d = lw i b := by rcases hd with rfl | rfl <;> rfl
        have sb : b.natAbs < 2 ^ 120 := by rcases hd with rfl | rfl <;> exact sm.2
        rw [e4] at kQ
        subst e3
        cases all with
        | @cons x0 xs' _ _ a0 all' =>
          cases all' with
          | @cons x1 xs'' _ _ a1 all'' =>
            cases all''
            cases a0
            cases a1
            have ix : ∀ (n : Nat) (x : V), [V.int i, V.int b][n]? = some x → ∀ (Q' : V → Hp → Prop), Q' x H1 → (rIxL K (.ref a) (.int (n : Int)) H1 Q' ∨ rIxT K (.ref a) (.int (n : Int)) H1 Q') := fun n x hx Q' q => by
              rcases sq with sq | sq
              · exact .inl ⟨a, _, _, x, rfl, rfl, sq, atI_nat hx, q⟩
              · exact .inr ⟨a, _, _, x, rfl, rfl, sq, atI_nat hx, q⟩
            refine ⟨_, rfl, ix 0 _ rfl _ ⟨_, rfl, ix 1 _ rfl _ ⟨i, b, rfl, b0, Nat.lt_of_lt_of_le sb (Nat.pow_le_pow_right (by decide) (by decide)), fun p np => ?_⟩⟩⟩
            exact kQ hR p _ upd_same (GG.Same.new S1 np)
end
end GG


namespace GG
open PySem PySem.Spec PyProof.Rows L2
/-! ### sums, differences, products, less -/
theorem lw_exact (t b : Int) : (lw t b).1 * ((Nat.gcd t.natAbs b.natAbs : Nat) : Int) = t ∧ (lw t b).2 * ((Nat.gcd t.natAbs b.natAbs : Nat) : Int) = b :=
  ⟨Int.ediv_mul_cancel (Int.ofNat_dvd_left.mpr (Nat.gcd_dvd_left _ _)), Int.ediv_mul_cancel (Int.ofNat_dvd_left.mpr (Nat.gcd_dvd_right _ _))⟩
theorem lw_small {t b : Int} (h : 0 < b) : (lw t b).1.natAbs ≤ t.natAbs ∧ (lw t b).2.natAbs ≤ b.natAbs ∧ 0 < (lw t b).2 := by
  have g0 : 0 < Nat.gcd t.natAbs b.natAbs := Nat.gcd_pos_of_pos_right _ (by omega)
  obtain ⟨e1, e2⟩ := lw_exact t b
  refine ⟨?_, ?_, ?_⟩
  · have z := congrArg Int.natAbs e1
    rw [Int.natAbs_mul, Int.natAbs_natCast] at z
    rw [← z]
    exact Nat.le_mul_of_pos_right _ g0
  · have z := congrArg Int.natAbs e2
    rw [Int.natAbs_mul, Int.natAbs_natCast] at z
    rw [← z]
    exact Nat.le_mul_of_pos_right _ g0
  · by_cases p : 0 < (lw t b).2
    · exact p
    · exfalso
      have : (lw t b).2 * ((Nat.gcd t.natAbs b.natAbs : Nat) : Int) ≤ 0 := Int.mul_nonpos_of_nonpos_of_nonneg (by omega) (by omega)
      omega
theorem ratOf_small {d : PyData} (h : isR d = true) (s : smallR d) : (ratOf d).1.natAbs < 2 ^ 120 ∧ (ratOf d).2.natAbs < 2 ^ 120 ∧ 0 < (ratOf d).2 := by
  rcases isR_cases h with ⟨i, rfl⟩ | ⟨i, b, rfl | rfl, b0⟩
  · exact ⟨s, (by decide +kernel : (1 : Nat) < 2 ^ 120), (by decide : (0 : Int) < 1)⟩
  · obtain ⟨x, y, z⟩ := lw_small (t := i) b0
    exact ⟨Nat.lt_of_le_of_lt x s.1, Nat.lt_of_le_of_lt y s.2, z⟩
  · obtain ⟨x, y, z⟩ := lw_small (t := i) b0
    exact ⟨Nat.lt_of_le_of_lt x s.1, Nat.lt_of_le_of_lt y s.2, z⟩
/-- an operation on two ratios; ok: what it leaves -/
def spBin (C : Addr) (ok : Int × Int → Int × Int → Hp → VK → Prop) : Sp := fun vs H Q E => ∃ v1 v2 d1 d2, vs = [v1, v2] ∧ Da H v1 d1 ∧ Da H v2 d2 ∧ smallR d1 ∧ smallR d2 ∧
  (isR d1 = true → isR d2 = true → ok (ratOf d1) (ratOf d2) H Q) ∧
  (isR d1 = false → ∀ dd H', H' dd = some (.xd [("number", v1), ("what", .str "ratio")]) → Same H H' → E (.ref C) (some dd) H') ∧
  (isR d1 = true → isR d2 = false → ∀ dd H', H' dd = some (.xd [("number", v2), ("what", .str "ratio")]) → Same H H' → E (.ref C) (some dd) H')
def okTup (f : Int × Int → Int × Int → Int × Int) : Int × Int → Int × Int → Hp → VK → Prop := fun a b H Q => ∀ p H', H' p = some (.tup [.int (f a b).1, .int (f a b).2]) → Same H H' → Q (.ref p) H'
def rPlus (a b : Int × Int) : Int × Int := lw (a.1 * b.2 + b.1 * a.2) (a.2 * b.2)
def rMinus (a b : Int × Int) : Int × Int := lw (a.1 * b.2 - b.1 * a.2) (a.2 * b.2)
def rTimes (a b : Int × Int) : Int × Int := lw (a.1 * b.1) (a.2 * b.2)
def rLess (a b : Int × Int) : Bool := decide (a.1 * b.2 < b.1 * a.2)
def okLess : Int × Int → Int × Int → Hp → VK → Prop := fun a b H Q => ∀ H', Same H H' → Q (.bl (rLess a b)) H'
theorem mulW {i j : Int} (a : i.natAbs < 2 ^ 120) (b : j.natAbs < 2 ^ 120) : CMulW i j := wide_mul a b (by decide) (by decide) (by decide)
section
variable {P : Program} {w : World} {K : PySem.W.Frag} {mg : Str → Option Value} {base : Heap}

end
end GG


namespace GG
open PySem PySem.Spec PyProof.Rows L2
/-! ### the law's own reckoning -/
theorem bAbs : bootBuiltins "abs" = some (.builtin "abs") := by decide +kernel
def spGcd : Sp := fun vs H Q _ => ∃ a b : Int, vs = [.int a, .int b] ∧ a.natAbs < 2 ^ 250 ∧ b.natAbs < 2 ^ 250 ∧ Q (.int ((Nat.gcd a.natAbs b.natAbs : Nat) : Int)) H
def spQ : Sp := fun vs H Q _ => ∃ t b : Int, vs = [.int t, .int b] ∧ 0 < b ∧ t.natAbs < 2 ^ 250 ∧ b.natAbs < 2 ^ 250 ∧ ∀ p, H p = none → Q (.ref p) (upd H p (.tup [.int (lw t b).1, .int (lw t b).2]))
def smallP (a : Int × Int) : Prop := a.1.natAbs < 2 ^ 120 ∧ a.2.natAbs < 2 ^ 120 ∧ 0 < a.2
def spLaw2 (ok : Int × Int → Int × Int → Hp → VK → Prop) : Sp := fun vs H Q _ => ∃ (p1 p2 : Addr) (a b : Int × Int), vs = [.ref p1, .ref p2] ∧ H p1 = some (.tup [.int a.1, .int a.2]) ∧ H p2 = some (.tup [.int b.1, .int b.2]) ∧ smallP a ∧ smallP b ∧ ok a b H Q
/-- one lap of Euclid halves the product -/
theorem lap_half {x y : Nat} (h : y < x) : 2 * (y * (x % y)) ≤ x * y := by
  by_cases y0 : y = 0
  · subst y0
    simp
  · have e := Nat.div_add_mod x y
    have q1 : 1 ≤ x / y := Nat.div_pos (Nat.le_of_lt h) (by omega)
    have m : x % y < y := Nat.mod_lt _ (by omega)
    have le : y ≤ y * (x / y) := Nat.le_mul_of_pos_right _ q1
    have two : 2 * (x % y) ≤ x := by omega
    calc 2 * (y * (x % y)) = y * (2 * (x % y)) := by rw [Nat.mul_left_comm]
      _ ≤ y * x := Nat.mul_le_mul_left _ two
      _ = x * y := Nat.mul_comm _ _
section
variable {P : Program} {w : World} {K : PySem.W.Frag} {mg : Str → Option Value} {base : Heap}
theorem abs_nat (i : Int) : (if i < 0 then -i else i) = ((i.natAbs : Nat) : Int) := by
  split <;> omega
end
end GG


namespace GG
open PySem PySem.Spec PyProof.Rows L2
section
variable {P : Program} {w : World} {K : PySem.W.Frag} {mg : Str → Option Value} {base : Heap}
theorem small250 {x : Int} (h : x.natAbs < 2 ^ 120) : x.natAbs < 2 ^ 250 := Nat.lt_of_lt_of_le h (Nat.pow_le_pow_right (by decide) (by decide))
theorem prod240 {x y : Int} (a : x.natAbs < 2 ^ 120) (b : y.natAbs < 2 ^ 120) : (x * y).natAbs < 2 ^ 240 := wide_lt a b
theorem sum250 {x y : Int} (a : x.natAbs < 2 ^ 240) (b : y.natAbs < 2 ^ 240) : (x + y).natAbs < 2 ^ 250 ∧ (x - y).natAbs < 2 ^ 250 := by
  have e : (2 : Nat) ^ 250 = 1024 * 2 ^ 240 := by rw [show 250 = 10 + 240 from rfl, Nat.pow_add]
  rw [e]
  generalize (2 : Nat) ^ 240 = z at a b
  omega

end
end GG


namespace GG
open PySem PySem.Spec PyProof.Rows L2
def copr (t b : Int) : Prop := Nat.gcd t.natAbs b.natAbs = 1
theorem lw_copr {t b : Int} (h : 0 < b) : copr (lw t b).1 (lw t b).2 := by
  have g0 : 0 < Nat.gcd t.natAbs b.natAbs := Nat.gcd_pos_of_pos_right _ (by omega)
  obtain ⟨e1, e2⟩ := lw_exact t b
  have z1 := congrArg Int.natAbs e1
  have z2 := congrArg Int.natAbs e2
  rw [Int.natAbs_mul, Int.natAbs_natCast] at z1 z2
  unfold copr
  have z3 : Nat.gcd ((lw t b).1.natAbs * Nat.gcd t.natAbs b.natAbs) ((lw t b).2.natAbs * Nat.gcd t.natAbs b.natAbs) = Nat.gcd t.natAbs b.natAbs := by rw [z1, z2]
  rw [Nat.gcd_mul_right] at z3
  exact Nat.eq_of_mul_eq_mul_right g0 (by rw [z3, Nat.one_mul])
theorem lw_mul {t b : Int} {k : Int} (k0 : 0 < k) (h : copr t b) : lw (t * k) (b * k) = (t, b) := by
  have g : ((Nat.gcd (t * k).natAbs (b * k).natAbs : Nat) : Int) = k := by
    rw [Int.natAbs_mul, Int.natAbs_mul, Nat.gcd_mul_right, h, Nat.one_mul]
    omega
  unfold lw
  rw [g, Int.mul_ediv_cancel _ (by omega), Int.mul_ediv_cancel _ (by omega)]
def spIs : Sp := fun vs H Q _ => ∃ a b : Bool, vs = [.bl a, .bl b] ∧ Q (.bl (decide (a = b))) H
def mid (a : Int × Int) : Prop := a.1.natAbs < 2 ^ 100 ∧ a.2.natAbs < 2 ^ 100 ∧ 0 < a.2 ∧ copr a.1 a.2
def spSome : Sp := fun vs H Q _ => ∃ (p l : Addr) (c : Int), vs = [.ref p] ∧ PenAt H p l c ∧ c < 10000000 ∧
  ∀ (r : Addr) (a : Int × Int) (c' : Int) (H' : Hp), c ≤ c' → c' ≤ c + 20 → mid a → H' r = some (.tup [.int a.1, .int a.2]) → H r = none → PenAt H' p l c' → Keep p H H' → Q (.ref r) H'
def spPassed : Sp := fun vs H Q _ => ∃ (p l r : Addr) (c : Int) (a : Int × Int), vs = [.ref p, .ref r] ∧ PenAt H p l c ∧ c < 10000000 ∧ H r = some (.tup [.int a.1, .int a.2]) ∧ mid a ∧
  ∀ (v : V) (d : PyData) (c' : Int) (H' : Hp), c ≤ c' → c' ≤ c + 3 → PenAt H' p l c' → Keep p H H' → Da H' v d → isR d = true → ratOf d = a → smallR d → Q v H'
section
variable {P : Program} {w : World} {K : PySem.W.Frag} {mg : Str → Option Value} {base : Heap}
end
end GG


namespace GG
open PySem PySem.Spec PyProof.Rows L2
abbrev sAny : Stmt := topS 48
/-- what is no ratio -/
def oddD : List PyData := [.none, .bool true, .str "1", .tuple [.int 1, .int 0], .tuple [.int 1, .int (-2)], .tuple [.int 1, .bool true], .list [.int 1], .tuple [.int 1, .int 2, .int 3], .dict [(.str "a", .int 1)], .tuple [.str "1", .int 2], .tuple [.none, .int 1], .tuple [.bool true, .int 2], .list [.int 2, .bool false], .tuple [], .tuple [.tuple [.int 1, .int 2], .int 3]]
theorem odd_ok : ∀ d ∈ oddD, isR d = false ∧ smallR d ∧ d.showable = true ∧ d.depth ≤ 8 := by
  intro d hd
  simp only [oddD, List.mem_cons, List.not_mem_nil, or_false] at hd
  rcases hd with rfl | rfl | rfl | rfl | rfl | rfl | rfl | rfl | rfl | rfl | rfl | rfl | rfl | rfl | rfl <;> refine ⟨?_, ?_, ?_, ?_⟩ <;> first | rfl | trivial | (simp [PyData.showable, PyData.showableAll, PyData.showableKv, PyData.depth, PyData.depthAll, PyData.depthKv, smallR] <;> done) | (decide +kernel)
theorem odd_len : ∀ d ∈ oddD, d.shown.length ≤ 400 := by
  intro d hd
  simp only [oddD, List.mem_cons, List.not_mem_nil, or_false] at hd
  rcases hd with rfl | rfl | rfl | rfl | rfl | rfl | rfl | rfl | rfl | rfl | rfl | rfl | rfl | rfl | rfl <;> decide +kernel
theorem DaAll.snoc {H : Hp} {v : V} {d : PyData} (h : Da H v d) : ∀ {vs : List V} {ds : List PyData}, DaAll H vs ds → DaAll H (vs ++ [v]) (ds ++ [d])
  | _, _, .nil => .cons h .nil
  | _, _, .cons a t => .cons a (DaAll.snoc h t)
theorem DaAll.mem {H : Hp} {v : V} : ∀ {vs : List V} {ds : List PyData}, DaAll H vs ds → v ∈ vs → ∃ d, d ∈ ds ∧ Da H v d
  | _, _, .nil, h => absurd h List.not_mem_nil
  | _, _, .cons a t, h => by
    rcases List.mem_cons.mp h with rfl | h
    · exact ⟨_, List.mem_cons_self, a⟩
    · obtain ⟨d, m, q⟩ := DaAll.mem t h
      exact ⟨d, List.mem_cons_of_mem _ m, q⟩
theorem upd_upd {H : Hp} {q : Addr} {o u : HO} : upd (upd H q o) q u = upd H q u := by
  funext b
  by_cases hb : b = q
  · rw [hb, upd_same, upd_same]
  · rw [upd_ne hb, upd_ne hb, upd_ne hb]
def spAny : Sp := fun vs H Q _ => ∃ (p l : Addr) (c : Int), vs = [.ref p] ∧ PenAt H p l c ∧ c < 10000000 ∧ ∀ (v : V) (d : PyData) (H' : Hp), PenAt H' p l (c + 1) → Keep p H H' → Da H' v d → d ∈ oddD → Q v H'
section
variable {P : Program} {w : World} {K : PySem.W.Frag} {mg : Str → Option Value} {base : Heap}
theorem scAny : FnScope ["_law_pen_here", "_law_some"] ["_law_pen_here"] (defScope sAny) := ⟨rfl, rfl, rfl, by decide +kernel, rfl, by decide +kernel, by decide +kernel⟩
theorem kn_any (D : DefIs K mg "_law_any" sAny) (B : Kn P w K mg base "_law_pick" 2 ["_law_pen_here", "_law_some"] (spPick K)) : Kn P w K mg base "_law_any" 3 ["_law_pen_here"] spAny := by
  refine .of D (fun _ _ _ _ _ _ us hl => match us, hl with | [_], _ => rfl) fun _ _ F => ?_
  refine F.ok scAny (fun vs H Q E h => ?_) (fun cdv A outer s H vs Q E hr h => ?_)
  · obtain ⟨p, l, c, rfl, _⟩ := h
    rfl
  · obtain ⟨p, l, c, rfl, P0, c0, k⟩ := h
    refine ⟨_, pss_cons (ps_set (i := 1) scAny.nd rfl (.inl rfl) (pe_lst (pa_cons pe_non (pa_cons pe_bl (pa_cons pe_str (pa_cons (pe_tup (pa_cons pe_int (pa_cons pe_int pa_nil))) (pa_cons (pe_tup (pa_cons pe_int (pa_cons (pe_un un_neg pe_int) pa_nil))) (pa_cons (pe_tup (pa_cons pe_int (pa_cons pe_bl pa_nil))) (pa_cons (pe_lstM (pa_cons pe_int pa_nil)) (pa_cons (pe_tup (pa_cons pe_int (pa_cons pe_int (pa_cons pe_int pa_nil)))) (pa_cons (pe_disp (pps_cons pe_str pe_int pps_nil) rfl rfl (by intro z; cases z) (by decide)) (pa_cons (pe_tup (pa_cons pe_str (pa_cons pe_int pa_nil))) (pa_cons (pe_tup (pa_cons pe_non (pa_cons pe_int pa_nil))) pa_nil)))))))))))))
      (pss_one (ps_ret (pe_kn B hr (pa_cons (pv 0) (pa_cons (pe_op op_cat (pv 1) (pe_lst (pa_cons (pe_tup (pa_cons pe_bl (pa_cons pe_int pa_nil))) (pa_cons (pe_lstM (pa_cons pe_int (pa_cons pe_bl pa_nil))) (pa_cons (pe_tup pa_nil) (pa_cons (pe_tup (pa_cons (pe_tup (pa_cons pe_int (pa_cons pe_int pa_nil))) (pa_cons pe_int pa_nil))) pa_nil)))))) pa_nil))))), ?_⟩
    have K0 : Keep p H H := Keep.refl
    have AL : DaAll H [] [] := .nil
    replace AL := AL.snoc (v := .non) (d := .none) .non
    replace AL := AL.snoc (v := .bl true) (d := .bool true) (.bl _)
    replace AL := AL.snoc (v := .str "1") (d := .str "1") (.str _)
    refine ⟨(by show 2 ≤ sizeLine; rw [sizeLine_eq]; decide), fun t0 nt0 => ?_⟩
    replace P0 := P0.new nt0 (o := (.tup [.int 1, .int 0]))
    replace K0 := K0.new nt0 (o := (.tup [.int 1, .int 0]))
    have st := Stay.new (Stay.refl (H := H)) nt0 (o := (.tup [.int 1, .int 0]))
    replace AL := AL.stay st
    have et0 : (upd H t0 (.tup [.int 1, .int 0])) t0 = some (.tup [.int 1, .int 0]) := upd_same
    clear st
    generalize (upd H t0 (.tup [.int 1, .int 0])) = Ht0 at P0 K0 AL et0 ⊢
    have at0 : Da Ht0 (.ref t0) (.tuple [.int 1, .int 0]) := .tup et0 (.cons (.int _) (.cons (.int _) .nil))
    replace AL := AL.snoc (v := .ref t0) (d := .tuple [.int 1, .int 0]) at0
    refine ⟨_, rfl, (by show 2 ≤ sizeLine; rw [sizeLine_eq]; decide), fun t1 nt1 => ?_⟩
    replace P0 := P0.new nt1 (o := (.tup [.int 1, .int (-2)]))
    replace K0 := K0.new nt1 (o := (.tup [.int 1, .int (-2)]))
    have st := Stay.new (Stay.refl (H := Ht0)) nt1 (o := (.tup [.int 1, .int (-2)]))
    replace AL := AL.stay st
    have et1 : (upd Ht0 t1 (.tup [.int 1, .int (-2)])) t1 = some (.tup [.int 1, .int (-2)]) := upd_same
    clear st
    generalize (upd Ht0 t1 (.tup [.int 1, .int (-2)])) = Ht1 at P0 K0 AL et1 ⊢
    have at1 : Da Ht1 (.ref t1) (.tuple [.int 1, .int (-2)]) := .tup et1 (.cons (.int _) (.cons (.int _) .nil))
    replace AL := AL.snoc (v := .ref t1) (d := .tuple [.int 1, .int (-2)]) at1
    refine ⟨(by show 2 ≤ sizeLine; rw [sizeLine_eq]; decide), fun t2 nt2 => ?_⟩
    replace P0 := P0.new nt2 (o := (.tup [.int 1, .bl true]))
    replace K0 := K0.new nt2 (o := (.tup [.int 1, .bl true]))
    have st := Stay.new (Stay.refl (H := Ht1)) nt2 (o := (.tup [.int 1, .bl true]))
    replace AL := AL.stay st
    have et2 : (upd Ht1 t2 (.tup [.int 1, .bl true])) t2 = some (.tup [.int 1, .bl true]) := upd_same
    clear st
    generalize (upd Ht1 t2 (.tup [.int 1, .bl true])) = Ht2 at P0 K0 AL et2 ⊢
    have at2 : Da Ht2 (.ref t2) (.tuple [.int 1, .bool true]) := .tup et2 (.cons (.int _) (.cons (.bl _) .nil))
    replace AL := AL.snoc (v := .ref t2) (d := .tuple [.int 1, .bool true]) at2
    refine ⟨(by show 1 ≤ sizeLine; rw [sizeLine_eq]; decide), fun t3 nt3 mt3 => ?_⟩
    replace P0 := P0.new nt3 (o := (.lst [.int 1]))
    replace K0 := K0.new nt3 (o := (.lst [.int 1]))
    have st := Stay.new (Stay.refl (H := Ht2)) nt3 (o := (.lst [.int 1]))
    replace AL := AL.stay st
    have et3 : (upd Ht2 t3 (.lst [.int 1])) t3 = some (.lst [.int 1]) := upd_same
    clear st
    generalize (upd Ht2 t3 (.lst [.int 1])) = Ht3 at P0 K0 AL et3 ⊢
    have at3 : Da Ht3 (.ref t3) (.list [.int 1]) := .lst et3 mt3 (.cons (.int _) .nil)
    replace AL := AL.snoc (v := .ref t3) (d := .list [.int 1]) at3
    refine ⟨(by show 3 ≤ sizeLine; rw [sizeLine_eq]; decide), fun t4 nt4 => ?_⟩
    replace P0 := P0.new nt4 (o := (.tup [.int 1, .int 2, .int 3]))
    replace K0 := K0.new nt4 (o := (.tup [.int 1, .int 2, .int 3]))
    have st := Stay.new (Stay.refl (H := Ht3)) nt4 (o := (.tup [.int 1, .int 2, .int 3]))
    replace AL := AL.stay st
    have et4 : (upd Ht3 t4 (.tup [.int 1, .int 2, .int 3])) t4 = some (.tup [.int 1, .int 2, .int 3]) := upd_same
    clear st
    generalize (upd Ht3 t4 (.tup [.int 1, .int 2, .int 3])) = Ht4 at P0 K0 AL et4 ⊢
    have at4 : Da Ht4 (.ref t4) (.tuple [.int 1, .int 2, .int 3]) := .tup et4 (.cons (.int _) (.cons (.int _) (.cons (.int _) .nil)))
    replace AL := AL.snoc (v := .ref t4) (d := .tuple [.int 1, .int 2, .int 3]) at4
    intro t5 nt5
    refine ⟨upd_same, [(.inr "a", .int 1)], rfl, (by show 1 ≤ 15; decide), ?_⟩
    rw [show upd (upd Ht4 t5 (.dK [])) t5 (.dK (mergeK [] [((.inr "a" : Key), V.int 1)])) = upd Ht4 t5 (.dK [(.inr "a", .int 1)]) from by rw [show mergeK [] [((.inr "a" : Key), V.int 1)] = [(.inr "a", .int 1)] from by kernel_rfl, upd_upd]]
    replace P0 := P0.new nt5 (o := (.dK [(.inr "a", .int 1)]))
    replace K0 := K0.new nt5 (o := (.dK [(.inr "a", .int 1)]))
    have st := Stay.new (Stay.refl (H := Ht4)) nt5 (o := (.dK [(.inr "a", .int 1)]))
    replace AL := AL.stay st
    have et5 : (upd Ht4 t5 (.dK [(.inr "a", .int 1)])) t5 = some (.dK [(.inr "a", .int 1)]) := upd_same
    clear st
    generalize (upd Ht4 t5 (.dK [(.inr "a", .int 1)])) = Ht5 at P0 K0 AL et5 ⊢
    have at5 : Da Ht5 (.ref t5) (.dict [(.str "a", .int 1)]) := .dic et5 (.int 1)
    replace AL := AL.snoc (v := .ref t5) (d := .dict [(.str "a", .int 1)]) at5
    refine ⟨(by show 2 ≤ sizeLine; rw [sizeLine_eq]; decide), fun t6 nt6 => ?_⟩
    replace P0 := P0.new nt6 (o := (.tup [.str "1", .int 2]))
    replace K0 := K0.new nt6 (o := (.tup [.str "1", .int 2]))
    have st := Stay.new (Stay.refl (H := Ht5)) nt6 (o := (.tup [.str "1", .int 2]))
    replace AL := AL.stay st
    have et6 : (upd Ht5 t6 (.tup [.str "1", .int 2])) t6 = some (.tup [.str "1", .int 2]) := upd_same
    clear st
    generalize (upd Ht5 t6 (.tup [.str "1", .int 2])) = Ht6 at P0 K0 AL et6 ⊢
    have at6 : Da Ht6 (.ref t6) (.tuple [.str "1", .int 2]) := .tup et6 (.cons (.str _) (.cons (.int _) .nil))
    replace AL := AL.snoc (v := .ref t6) (d := .tuple [.str "1", .int 2]) at6
    refine ⟨(by show 2 ≤ sizeLine; rw [sizeLine_eq]; decide), fun t7 nt7 => ?_⟩
    replace P0 := P0.new nt7 (o := (.tup [.non, .int 1]))
    replace K0 := K0.new nt7 (o := (.tup [.non, .int 1]))
    have st := Stay.new (Stay.refl (H := Ht6)) nt7 (o := (.tup [.non, .int 1]))
    replace AL := AL.stay st
    have et7 : (upd Ht6 t7 (.tup [.non, .int 1])) t7 = some (.tup [.non, .int 1]) := upd_same
    clear st
    generalize (upd Ht6 t7 (.tup [.non, .int 1])) = Ht7 at P0 K0 AL et7 ⊢
    have at7 : Da Ht7 (.ref t7) (.tuple [.none, .int 1]) := .tup et7 (.cons .non (.cons (.int _) .nil))
    replace AL := AL.snoc (v := .ref t7) (d := .tuple [.none, .int 1]) at7
    refine ⟨(by show 11 ≤ sizeLine; rw [sizeLine_eq]; decide), fun L1 nL1 => ?_⟩
    replace P0 := P0.new nL1 (o := (.lst [.non, .bl true, .str "1", .ref t0, .ref t1, .ref t2, .ref t3, .ref t4, .ref t5, .ref t6, .ref t7]))
    replace K0 := K0.new nL1 (o := (.lst [.non, .bl true, .str "1", .ref t0, .ref t1, .ref t2, .ref t3, .ref t4, .ref t5, .ref t6, .ref t7]))
    have st := Stay.new (Stay.refl (H := Ht7)) nL1 (o := (.lst [.non, .bl true, .str "1", .ref t0, .ref t1, .ref t2, .ref t3, .ref t4, .ref t5, .ref t6, .ref t7]))
    replace AL := AL.stay st
    have eL1 : (upd Ht7 L1 (.lst [.non, .bl true, .str "1", .ref t0, .ref t1, .ref t2, .ref t3, .ref t4, .ref t5, .ref t6, .ref t7])) L1 = some (.lst [.non, .bl true, .str "1", .ref t0, .ref t1, .ref t2, .ref t3, .ref t4, .ref t5, .ref t6, .ref t7]) := upd_same
    clear st
    generalize (upd Ht7 L1 (.lst [.non, .bl true, .str "1", .ref t0, .ref t1, .ref t2, .ref t3, .ref t4, .ref t5, .ref t6, .ref t7])) = HL1 at P0 K0 AL eL1 ⊢
    refine ⟨_, rfl, _, rfl, (by show 2 ≤ sizeLine; rw [sizeLine_eq]; decide), fun t8 nt8 => ?_⟩
    replace P0 := P0.new nt8 (o := (.tup [.bl true, .int 2]))
    replace K0 := K0.new nt8 (o := (.tup [.bl true, .int 2]))
    have st := Stay.new (Stay.refl (H := HL1)) nt8 (o := (.tup [.bl true, .int 2]))
    replace AL := AL.stay st
    replace eL1 := st _ _ eL1 (by intro _ _ _ _ _ z; cases z)
    have et8 : (upd HL1 t8 (.tup [.bl true, .int 2])) t8 = some (.tup [.bl true, .int 2]) := upd_same
    clear st
    generalize (upd HL1 t8 (.tup [.bl true, .int 2])) = Ht8 at P0 K0 AL et8 eL1 ⊢
    have at8 : Da Ht8 (.ref t8) (.tuple [.bool true, .int 2]) := .tup et8 (.cons (.bl _) (.cons (.int _) .nil))
    replace AL := AL.snoc (v := .ref t8) (d := .tuple [.bool true, .int 2]) at8
    refine ⟨(by show 2 ≤ sizeLine; rw [sizeLine_eq]; decide), fun t9 nt9 mt9 => ?_⟩
    replace P0 := P0.new nt9 (o := (.lst [.int 2, .bl false]))
    replace K0 := K0.new nt9 (o := (.lst [.int 2, .bl false]))
    have st := Stay.new (Stay.refl (H := Ht8)) nt9 (o := (.lst [.int 2, .bl false]))
    replace AL := AL.stay st
    replace eL1 := st _ _ eL1 (by intro _ _ _ _ _ z; cases z)
    have et9 : (upd Ht8 t9 (.lst [.int 2, .bl false])) t9 = some (.lst [.int 2, .bl false]) := upd_same
    clear st
    generalize (upd Ht8 t9 (.lst [.int 2, .bl false])) = Ht9 at P0 K0 AL et9 eL1 ⊢
    have at9 : Da Ht9 (.ref t9) (.list [.int 2, .bool false]) := .lst et9 mt9 (.cons (.int _) (.cons (.bl _) .nil))
    replace AL := AL.snoc (v := .ref t9) (d := .list [.int 2, .bool false]) at9
    refine ⟨(by show 0 ≤ sizeLine; rw [sizeLine_eq]; decide), fun t10 nt10 => ?_⟩
    replace P0 := P0.new nt10 (o := (.tup []))
    replace K0 := K0.new nt10 (o := (.tup []))
    have st := Stay.new (Stay.refl (H := Ht9)) nt10 (o := (.tup []))
    replace AL := AL.stay st
    replace eL1 := st _ _ eL1 (by intro _ _ _ _ _ z; cases z)
    have et10 : (upd Ht9 t10 (.tup [])) t10 = some (.tup []) := upd_same
    clear st
    generalize (upd Ht9 t10 (.tup [])) = Ht10 at P0 K0 AL et10 eL1 ⊢
    have at10 : Da Ht10 (.ref t10) (.tuple []) := .tup et10 .nil
    replace AL := AL.snoc (v := .ref t10) (d := .tuple []) at10
    refine ⟨(by show 2 ≤ sizeLine; rw [sizeLine_eq]; decide), fun t11 nt11 => ?_⟩
    replace P0 := P0.new nt11 (o := (.tup [.int 1, .int 2]))
    replace K0 := K0.new nt11 (o := (.tup [.int 1, .int 2]))
    have st := Stay.new (Stay.refl (H := Ht10)) nt11 (o := (.tup [.int 1, .int 2]))
    replace AL := AL.stay st
    replace eL1 := st _ _ eL1 (by intro _ _ _ _ _ z; cases z)
    have et11 : (upd Ht10 t11 (.tup [.int 1, .int 2])) t11 = some (.tup [.int 1, .int 2]) := upd_same
    clear st
    generalize (upd Ht10 t11 (.tup [.int 1, .int 2])) = Ht11 at P0 K0 AL et11 eL1 ⊢
    have at11 : Da Ht11 (.ref t11) (.tuple [.int 1, .int 2]) := .tup et11 (.cons (.int _) (.cons (.int _) .nil))
    refine ⟨(by show 2 ≤ sizeLine; rw [sizeLine_eq]; decide), fun t12 nt12 => ?_⟩
    replace P0 := P0.new nt12 (o := (.tup [.ref t11, .int 3]))
    replace K0 := K0.new nt12 (o := (.tup [.ref t11, .int 3]))
    have st := Stay.new (Stay.refl (H := Ht11)) nt12 (o := (.tup [.ref t11, .int 3]))
    replace AL := AL.stay st
    replace eL1 := st _ _ eL1 (by intro _ _ _ _ _ z; cases z)
    replace at11 := at11.stay st
    have et12 : (upd Ht11 t12 (.tup [.ref t11, .int 3])) t12 = some (.tup [.ref t11, .int 3]) := upd_same
    clear st
    generalize (upd Ht11 t12 (.tup [.ref t11, .int 3])) = Ht12 at P0 K0 AL et12 eL1 at11 ⊢
    have at12 : Da Ht12 (.ref t12) (.tuple [.tuple [.int 1, .int 2], .int 3]) := .tup et12 (.cons at11 (.cons (.int _) .nil))
    replace AL := AL.snoc (v := .ref t12) (d := .tuple [.tuple [.int 1, .int 2], .int 3]) at12
    refine ⟨(by show 4 ≤ sizeLine; rw [sizeLine_eq]; decide), fun L2 nL2 => ?_⟩
    replace P0 := P0.new nL2 (o := (.lst [.ref t8, .ref t9, .ref t10, .ref t12]))
    replace K0 := K0.new nL2 (o := (.lst [.ref t8, .ref t9, .ref t10, .ref t12]))
    have st := Stay.new (Stay.refl (H := Ht12)) nL2 (o := (.lst [.ref t8, .ref t9, .ref t10, .ref t12]))
    replace AL := AL.stay st
    replace eL1 := st _ _ eL1 (by intro _ _ _ _ _ z; cases z)
    have eL2 : (upd Ht12 L2 (.lst [.ref t8, .ref t9, .ref t10, .ref t12])) L2 = some (.lst [.ref t8, .ref t9, .ref t10, .ref t12]) := upd_same
    clear st
    generalize (upd Ht12 L2 (.lst [.ref t8, .ref t9, .ref t10, .ref t12])) = HL2 at P0 K0 AL eL2 eL1 ⊢
    refine ⟨L1, L2, _, _, rfl, rfl, eL1, eL2, (by show 15 ≤ sizeLine; rw [sizeLine_eq]; decide), fun L3 nL3 => ?_⟩
    refine ⟨p, l, L3, c, [.non, .bl true, .str "1", .ref t0, .ref t1, .ref t2, .ref t3, .ref t4, .ref t5, .ref t6, .ref t7, .ref t8, .ref t9, .ref t10, .ref t12], rfl, P0.new nL3, .inl (.inl upd_same), (by show 0 < 15; decide), (by show 15 < 1000000; decide), by omega, fun x H' hx P4 K4 => ?_⟩
    have K5 := K0.new nL3 (o := .lst [.non, .bl true, .str "1", .ref t0, .ref t1, .ref t2, .ref t3, .ref t4, .ref t5, .ref t6, .ref t7, .ref t8, .ref t9, .ref t10, .ref t12])
    have AM := (AL.stay (Stay.new (Stay.refl (H := HL2)) nL3 (o := .lst [.non, .bl true, .str "1", .ref t0, .ref t1, .ref t2, .ref t3, .ref t4, .ref t5, .ref t6, .ref t7, .ref t8, .ref t9, .ref t10, .ref t12]))).stay (K4.stay (P0.new nL3))
    obtain ⟨d, md, da⟩ := AM.mem hx
    exact k x d H' P4 (K5.trans K4) da md
end
end GG


namespace GG
open PySem PySem.Spec PyProof.Rows L2
/-! ### several except clauses, each «as» one name -/
/-- what they wish of an exception, clause by clause -/
def wAsMany (K : PySem.W.Frag) (m i : Nat) (Wout : WX) (D : Ends) : List (Value × (Addr → Value → Option Addr → TS)) → WX
  | [] => Wout
  | (c, ts) :: r => fun cls d σ H => ∃ b, PySem.W.exmOne K cls c = some b ∧
      (b = true → σ.length = m → ∀ a, H a = none → ts a cls d { nx := fun σ' H' => D.nx (σ'.set i none) H', rt := fun v H' => D.rt v H', bk := fun σ' H' => D.bk (σ'.set i none) H', ct := fun σ' H' => D.ct (σ'.set i none) H' } (σ.set i (some (.ref a))) H) ∧
      (b = false → wAsMany K m i Wout D r cls d σ H)
inductive AsOk (X : Cx) (n : Str) : List ExceptHandler → List (Value × (Addr → Value → Option Addr → TS)) → Prop
  | nil : AsOk X n [] []
  | cons {x : Str} {c : Value} {ts : Addr → Value → Option Addr → TS} {b0 : Stmt} {suite : List Stmt} {np hp : Pos} {hds : List ExceptHandler} {l : List (Value × (Addr → Value → Option Addr → TS))} (hc : Names X x c)
      (su : ∀ (a : Addr) (oe : Obj) (cls : Value) (d : Option Addr) (pn : List (Addr × Obj)), Zc cls d oe → (∃ vs, oe.data = .fields vs) → PSs (X.suite a ((a, oe) :: pn)) (b0 :: suite) (ts a cls d)) (r : AsOk X n hds l) :
      AsOk X n (.ExceptHandler (some (.Name x np)) (some n) (b0 :: suite) hp :: hds) ((c, ts) :: l)
section
variable {X : Cx} {body : List Stmt} {hd0 : ExceptHandler} {hds : List ExceptHandler} {l : List (Value × (Addr → Value → Option Addr → TS))} {pos : Pos} {tb : WX → TS} {Wout : WX} {n : Str} {i : Nat}
theorem ps_try_asMany (stk : X.stack = X.env :: X.outer) (own : X.env.frame = some X.env.locals) (nd : X.N.Nodup) (at' : X.N[i]? = some n) (lcl : X.env.kindOf n = some .local) (tk : Takes X Wout)
    (bd : ∀ (W : WX) (pn : List (Addr × Obj)) (xe : Value → Shared → Prop), Takes (X.tr pn xe) W → PassesOwn (model X.prog X.w) X.A X.env xe → PSs (X.tr pn xe) body (tb W))
    (all : AsOk X n (hd0 :: hds) l) : PS X (.Try body (hd0 :: hds) [] [] pos) (fun D σ H => tb (wAsMany X.K X.N.length i Wout D l) D σ H) := by
  refine ⟨fun pins s σ H D I want => ?_⟩
  have good := I.ok
  have frm : X.A.frames = some (X.env :: X.outer) := good.frames.trans (congrArg some stk)
  refine wpAny_Try_except ?_
  let catcher : Value → Shared → Prop := fun e s₁ => wpAny (model X.prog X.w) X.A (noteFrame e X.env) (fun _ s₂ => wpAny (model X.prog X.w) X.A (setFlight e none) (fun _ s₃ => wpAny (model X.prog X.w) X.A (handleBy e X.env (hd0 :: hds)) (SP X pins D) X.xe s₃) X.xe s₂) X.xe s₁
  have caught : Takes (X.tr (X.pn ++ pins) catcher) (wAsMany X.K X.N.length i Wout D l) := by
    rintro u s' ⟨a, B, sI, pins', σ', H', cls, d, rfl, Jt, bareN, up, sky, na, os, ag, wish⟩
    have J : Inv X pins σ' H' sI := Jt.ofTry good
    have sky' : Sky B (X.env :: X.outer) a (Zc cls d) X.env.locals s'.heap := stk ▸ sky
    show wpAny (model X.prog X.w) X.A (noteFrame (.ref a) X.env) _ _ _
    refine Sky.land Zc.steady frm own sky' fun hp3 fly up3 => ?_
    have J3 : Inv X pins σ' H' { s' with heap := hp3 } := J.landed bareN fly.1 (up.trans up3) os ag
    obtain ⟨oe, vs, get, zc, dat⟩ := fly.there
    have outF : a ∉ frs (X.env :: X.outer) := fun m => by
      obtain ⟨_, o2, g2, nf⟩ := fly.2.2.1.mem m
      cases get.symm.trans g2
      exact nf _ dat
    have nL : a ≠ X.env.locals := fun z => outF (List.mem_filterMap.mpr ⟨X.env, List.mem_cons_self, own.trans (congrArg some z.symm)⟩)
    have nF : a ∉ X.fs := fun m => outF (by
      obtain ⟨e, me, q⟩ := List.mem_filterMap.mp m
      exact List.mem_filterMap.mpr ⟨e, List.mem_cons_of_mem _ me, q⟩)
    have S3 := J3.suite get dat na nL nF
    have clauses : ∀ {hs' : List ExceptHandler} {l' : List (Value × (Addr → Value → Option Addr → TS))}, AsOk X n hs' l' → wAsMany X.K X.N.length i Wout D l' cls d σ' H' → wpAny (model X.prog X.w) X.A (handleBy (.ref a) X.env hs') (SP X pins D) X.xe { s' with heap := hp3 } := by
      intro hs' l' ok
      induction ok with
      | nil =>
        intro wish
        refine wpAny_handleBy_nil ?_
        obtain ⟨_, _, _, oe', vs', Tb, _, _, get', _, dat', one, _⟩ := id fly
        unfold PySem.passOn
        refine wpAny_bind (wpAny_field get' dat' one ?_)
        rw [if_neg (fun z => by simp at z)]
        have out : wpAny (model X.prog X.w) X.A (setFlight (.ref a) X.env.frame) (fun _ s4 => wpAny (model X.prog X.w) X.A (throw (.ref a) : Sem Flow) (SP X pins D) X.xe s4) X.xe { s' with heap := hp3 } := by
          rw [own]
          exact HandSPX.setFlight_upZ fly fun hp4 fl4 up4 => wpAny_throw (tk _ _ ⟨a, B, sI, pins, σ', H', cls, d, rfl, J, bareN, (up.trans up3).trans up4, .inr (.inr (stk ▸ fl4)), na, os, ag, wish⟩)
        first
          | exact wpAny_bind (wpAny_pure (wpAny_bind out))
          | exact wpAny_bind out
      | @cons x c ts b0 suite np hp hds2 l2 hc su r ih =>
        rintro ⟨b, test, yes, no⟩
        refine wpAny_handleBy_cons (codeAny_handlers_test ?_) (by intro z; cases z)
        have LT : PySem.W.Looks (model X.prog X.w) hp3 (typeOf (.ref a)) cls := fun _ _ _ _ k q => wpAny_typeOf_ref (k _ _ get) (by rw [zc.1]; exact q)
        have LM := PySem.W.exm_one (M := model X.prog X.w) J3.kIn LT test
        have name : ∀ {Q : Value → Shared → Prop} {E : Value → Shared → Prop}, Q c { s' with heap := hp3 } → wpAny (model X.prog X.w) (X.A.mark (some (.ref a))) (eval (.Name x np) X.env) Q E { s' with heap := hp3 } := fun {Q E} q => by
          obtain ⟨g1, g2, g3 | ⟨g3, g4, g5⟩⟩ := hc
          · exact ld_glob (X := X.suite a ((a, oe) :: (X.pn ++ pins))) S3 g1 g3 q g2
          · exact ld_blt (X := X.suite a ((a, oe) :: (X.pn ++ pins))) S3 g1 g3 g4 q g5 g2
        refine name (LM.here ?_)
        cases b with
        | false =>
          show wpAny _ X.A (handleBy (.ref a) X.env hds2) _ _ _
          exact ih (no rfl)
        | true =>
          refine codeAny_handlers_suite_as ?_
          refine HandSPX.lands_againZ fly fun hp4 fly4 up4 => ?_
          have J4 : Inv X pins σ' H' { s' with heap := hp4 } := J.landed bareN fly4.1 ((up.trans up3).trans up4) os ag
          obtain ⟨oe4, vs4, get4, zc4, dat4⟩ := fly4.there
          have S4 := J4.suite get4 dat4 na nL nF
          refine store_ok (X := X.suite a ((a, oe4) :: (X.pn ++ pins))) (v := .ref a) S4 nd at' (.inl lcl) rfl (fun s5 S5 => ?_) (.inr lcl)
          refine wpAny_mono ((su a oe4 cls d (X.pn ++ pins) zc4 ⟨_, dat4⟩).run [] s5 _ H' _ S5 (yes rfl J.len a na)) (fun fl s6 res => ?_) (fun _ _ z => z.elim)
          have behind : ∀ {σ6 : L2.St} {H6 : Hp} {R : Shared → Prop}, Inv (X.suite a ((a, oe4) :: (X.pn ++ pins))) [] σ6 H6 s6 → (∀ s7, Inv X pins (σ6.set i none) H6 s7 → R s7) →
              wpAny (model X.prog X.w) X.A (do bindName X.env n .none; unbindBehindTheSuite X.env n hp) (fun _ s7 => R s7) X.xe s6 := fun S6 q => gone_ok (S6.unsuite good) nd at' lcl q
          cases fl with
          | next =>
            obtain ⟨σ6, H6, S6, q⟩ := res
            exact behind S6 fun s7 J7 => ⟨_, _, J7, q⟩
          | brk =>
            obtain ⟨σ6, H6, S6, q⟩ := res
            exact behind S6 fun s7 J7 => ⟨_, _, J7, q⟩
          | cont =>
            obtain ⟨σ6, H6, S6, q⟩ := res
            exact behind S6 fun s7 J7 => ⟨_, _, J7, q⟩
          | ret u =>
            obtain ⟨v6, σ6, H6, S6, rv, q⟩ := res
            exact behind S6 fun s7 J7 => ⟨_, _, _, J7, rv, q⟩
    exact clauses all wish
  refine wpAny_mono ((bd _ (X.pn ++ pins) catcher caught PassesOwn.looking).run [] s σ H D (I.toTry _) want) (fun fl s1 res => ?_) (fun _ _ z => z)
  cases fl with
  | next =>
    obtain ⟨σ', H', J', q⟩ := res
    exact wpAny_execs_nil ⟨σ', H', J'.ofTry good, q⟩
  | brk =>
    obtain ⟨σ', H', J', q⟩ := res
    exact ⟨σ', H', J'.ofTry good, q⟩
  | cont =>
    obtain ⟨σ', H', J', q⟩ := res
    exact ⟨σ', H', J'.ofTry good, q⟩
  | ret u =>
    obtain ⟨v, σ', H', J', rv, q⟩ := res
    exact ⟨v, σ', H', J'.ofTry good, rv, q⟩
end
end GG


namespace GG
open PySem PySem.Spec PyProof.Rows L2 LamX
/-! ### repr of any datum -/
theorem call_reprD {X : Cx} (hg : X.A.guards = some []) (hu : X.A.units + 80 < cLine) : CallR X (.builtin "repr") (fun xs H Q => ∃ v d, xs = [v] ∧ Da H v d ∧ d.showable = true ∧ d.depth ≤ 60 ∧ d.shown.length ≤ sizeLine ∧ Q (.str d.shown) H) := by
  intro pins s σ H xs us Q I r h
  obtain ⟨v, d, rfl, da, hs, hd, hz, q⟩ := h
  have refs : ∀ a, v = .ref a → wpAny (model X.prog X.w) X.A (call (.builtin "repr") us) (EP X pins σ Q) X.xe s := fun a e => by
    subst e
    exact call_repr hg hu pins s σ H [.ref a] us Q I r ⟨a, d, rfl, da.dt, hs, hd, hz, q⟩
  cases da with
  | lst _ _ _ => exact refs _ rfl
  | tup _ _ => exact refs _ rfl
  | dic _ _ => exact refs _ rfl
  | dic2 _ => exact refs _ rfl
  | non =>
    obtain ⟨u, rfl, ru⟩ := vals1 r
    cases ru
    rw [PyData.shown_none] at q
    exact PySem.P.repr_of_none ⟨.str _, H, I.tok _, ⟨_, rfl⟩, q⟩
  | bl b =>
    obtain ⟨u, rfl, ru⟩ := vals1 r
    cases ru
    rw [PyData.shown_bool] at q
    refine PySem.P.repr_of_bool ⟨.str _, H, I.tok _, ⟨_, rfl⟩, ?_⟩
    cases b <;> exact q
  | int i =>
    obtain ⟨u, rfl, t, rfl⟩ := vals1 r
    rw [PyData.shown_int] at q
    simp only [PyData.showable, decide_eq_true_eq] at hs
    exact PySem.P.repr_of_int hs ⟨.str _, H, I.tok _, ⟨_, rfl⟩, q⟩
  | str x =>
    obtain ⟨u, rfl, t, rfl⟩ := vals1 r
    rw [PyData.shown_str] at q hz
    exact PySem.P.repr_of_str ⟨.str _, H, I.tok _, ⟨_, rfl⟩, q⟩ hz
theorem bRepr : bootBuiltins "repr" = some (.builtin "repr") := by decide +kernel
abbrev sWhy : Stmt := topS 49
/-- a datum whose repr is short -/
def Rep (d : PyData) : Prop := d.showable = true ∧ d.depth ≤ 8 ∧ d.shown.length ≤ 400
/-- what is known of the error classes that are told apart -/
structure WTxt (K : PySem.W.Frag) (mg : Str → Option Value) (CN C1 C2 C4 C5 C6 C7 : Addr) : Prop where
  m1 : mg "BadText" = some (.ref C1)
  m2 : mg "BadLine" = some (.ref C2)
  m3 : mg "BadNumber" = some (.ref CN)
  m4 : mg "BadRow" = some (.ref C4)
  m5 : mg "TooMany" = some (.ref C5)
  m6 : mg "Unlike" = some (.ref C6)
  m7 : mg "NoBuyer" = some (.ref C7)
  e1 : PySem.W.exmOne K (.ref CN) (.ref C1) = some false
  e2 : PySem.W.exmOne K (.ref CN) (.ref C2) = some false
  e3 : PySem.W.exmOne K (.ref CN) (.ref CN) = some true
  t : ExT K CN
  n1 : PySem.W.findIn K (.ref CN) "what" = some none
  n2 : PySem.W.findIn K (.ref CN) "number" = some none
  repr : mg "repr" = none
/-- _law_why of a call that raises BadNumber -/
def TWhy (CN : Addr) : (XK → Hp → VK → Prop) → Hp → VK → Prop := fun tl H Q =>
  tl (fun cls d H' => cls = .ref CN ∧ ∃ (dd : Addr) (v wv : V) (dv : PyData), d = some dd ∧ H' dd = some (.xd [("number", v), ("what", wv)]) ∧ Da H' v dv ∧ Rep dv ∧
    ∀ (p : Addr) (H'' : Hp), H'' p = some (.tup [.str "number", wv, .str dv.shown]) → Same H' H'' → Q (.ref p) H'') H (fun _ H' => Q .non H')
theorem pss_false {X : Cx} {b : List Stmt} : PSs X b (fun _ _ _ => False) := ⟨fun _ _ _ _ _ _ h => h.elim⟩
theorem scWhy : FnScope ["_law_call", "e"] ["_law_call"] (defScope sWhy) := ⟨rfl, rfl, rfl, by decide +kernel, rfl, by decide +kernel, by decide +kernel⟩
theorem XfC.of {K : PySem.W.Frag} {C : Addr} (T : ExT K C) : XfC K C := ⟨T.ga, T.gg, T.ox.exC, T.hd⟩
theorem why_gives {X : Cx} {g CN C1 C2 C4 C5 C6 C7 : Addr} {cdg : Value} {q : Str} (T : WTxt X.K X.mg CN C1 C2 C4 C5 C6 C7) (hg : X.A.guards = some []) (hu : X.A.units + 100 < cLine) :
    GivesTo X ["_law_call", "e"] "_law_why" (defScope sWhy) g cdg (defBody sWhy) "_law_call" q (TWhy CN) := by
  intro f c' s H Q tl act hc h
  refine ⟨_, pss_cons (ps_try_asMany (X := (cxOf C8.CX0 X.prog X.w X.K X.mg X.base ["_law_call", "e"] "_law_why" (defScope sWhy) g cdg X.A X.stack s H C8.E0).nox) (i := 1) (n := "e")
      (tb := fun W D σ H => ∃ Ech : XK, (∀ cls d σ' H', Ech cls d H' → W cls d σ' H') ∧ σ[0]? = some (some (.ref f)) ∧ H c' = some (CodeO c' q) ∧ tl Ech H (fun _ H1 => D.nx σ H1))
      rfl rfl scWhy.nd rfl rfl LamX.takes0 (fun W pn xe tk _ => ?_)
      (.cons ⟨rfl, by decide, .inl T.m1⟩ (fun _ _ _ _ _ _ _ => pss_false) (.cons ⟨rfl, by decide, .inl T.m2⟩ (fun _ _ _ _ _ _ _ => pss_false)
        (.cons ⟨rfl, by decide, .inl T.m3⟩ (fun a oe cls d pn hz hf => pss_one (ps_ret (pe_tup (pa_cons pe_str (pa_cons (pe_xf (XfC.of T.t) T.n1 hz hf (pv 1) rfl) (pa_cons (pe_callB (call_reprD hg (by show X.A.units + 3 + 80 < cLine; omega)) (by rfl) T.repr bRepr (pa_cons (pe_xf (XfC.of T.t) T.n2 hz hf (pv 1) rfl) pa_nil)) pa_nil))))))
        (.cons ⟨rfl, by decide, .inl T.m4⟩ (fun _ _ _ _ _ _ _ => pss_false) (.cons ⟨rfl, by decide, .inl T.m5⟩ (fun _ _ _ _ _ _ _ => pss_false) (.cons ⟨rfl, by decide, .inl T.m6⟩ (fun _ _ _ _ _ _ _ => pss_false) (.cons ⟨rfl, by decide, .inl T.m7⟩ (fun _ _ _ _ _ _ _ => pss_false) .nil))))))))
      (pss_one (ps_ret pe_non)), ?_⟩
  · refine ⟨fun pins s' σ H' D I h' => ?_⟩
    obtain ⟨Ech, hW, h1, h2, h3⟩ := h'
    exact PSs.run (pss_one (ps_expr (act W pn xe Ech _ _ tk hW))) pins s' σ H' D I ⟨h1, h2, h3⟩
  · refine ⟨_, fun cls d σ' H' e => ?_, rfl, hc, h⟩
    obtain ⟨rfl, dd, v, wv, dv, rfl, ed, da, rp, k⟩ := e
    refine ⟨false, T.e1, fun z => (nomatch z), fun _ => ⟨false, T.e2, fun z => (nomatch z), fun _ => ⟨true, T.e3, fun _ len a na => ?_, fun z => (nomatch z)⟩⟩⟩
    obtain ⟨x0, x1, rfl⟩ : ∃ x0 x1, σ' = [x0, x1] := by
      match σ', len with
      | [x0, x1], _ => exact ⟨_, _, rfl⟩
    refine ⟨_, rfl, rfl, rfl, dd, _, wv, rfl, ed, by kernel_rfl, _, rfl, rfl, rfl, dd, _, v, rfl, ed, by kernel_rfl, v, dv, rfl, da, rp.1, Nat.le_trans rp.2.1 (by decide), Nat.le_trans rp.2.2 (by rw [sizeLine_eq]; decide), (by show 3 ≤ sizeLine; rw [sizeLine_eq]; decide), fun p np => ?_⟩
    exact k p _ upd_same (Same.new (L2.Same.refl H') np)
end GG


namespace GG
open PySem PySem.Spec PyProof.Rows L2 LamX
/-! ### the end of a law that makes lambdas -/
section
variable {P : Program} {w : World} {K : PySem.W.Frag} {mg mb : Str → Option Value} {k : Nat} {fa a c T : Addr} {fd : FuncData} {x : Str} {sp : Sp} {s1 : Shared} {vs : List Value} {ns : List Int}
noncomputable def startT (K : PySem.W.Frag) (T a : Addr) (vs : List Value) (ns : List Int) : Hp := fun b => if b = T then some (.tbl #[]) else startH K a vs ns b
theorem startT_same : startT K T a vs ns T = some (.tbl #[]) := if_pos rfl
theorem startT_ne {b : Addr} (n : b ≠ T) : startT K T a vs ns b = startH K a vs ns b := if_neg n
theorem lawGT (KX : K.In s1.heap) (hns : s1.heap.Ns mainGlobals mg) (hb : s1.heap.Ns builtinsNs mb) (hbb : ∀ x : Str, x ≠ "__name__" → mb x = bootBuiltins x) (hlim : s1.heap.NoLimit) (hg : s1.gens = #[])
    (tab : s1.heap.get? T = some { cls := .none, data := .fields #[] }) (noK : K.lookup T = none) (code : PySem.W.CodeHd s1.heap c T)
    (blt : ∃ (bm : Addr) (ob : Obj), mg "__builtins__" = some (.ref bm) ∧ bm ≠ builtinsNs ∧ s1.heap.get? bm = some ob ∧ ob.cls = .type "module" ∧ ob.dict = some builtinsNs ∧ ob.data = .plain)
    (ha : s1.heap.get? a = some { cls := .type "list", data := .seq vs.toArray }) (hi : IntsAre vs ns) (hl : ns.length ≤ sizeLine) (hr : Room k callerA)
    (F : ∀ base : Heap, K.In base → base.Ns mainGlobals mg → TabB base mg c T → FnG P w K mg base k fa fd [x] sp) (hbind : ∀ (s : Shared) (u : Value), BindsTo s fd ⟨[u], []⟩ [(x, u)])
    (hsp : ∀ H : Hp, H T = some (.tbl #[]) → SqL K H a (ns.map V.int) → sp [.ref a] H (fun v _ => v = .bl true) fun _ _ _ => False) :
    codeAny (model P w) callerA (.call (.ref fa) ⟨[.ref a], []⟩) (fun r s' => r = .ok (.ret (.bool true)) ∧ OldK s1.heap s'.heap ∧ s'.os = s1.os ∧ AllBare s'.gens) s1 := by
  have rv := vals_ints hi
  have aT : a ≠ T := fun z => by
    rw [z, tab] at ha
    cases ha
  let H : Hp := startT K T a vs ns
  have what : ∀ {b : Addr} {u : HO}, H b = some u → (b = T ∧ u = .tbl #[]) ∨ (b = a ∧ K.lookup a = none ∧ u = .frz { cls := .type "list", data := .seq vs.toArray } (.lst (ns.map V.int))) := fun {b u} e => by
    by_cases z : b = T
    · subst z
      exact .inl ⟨rfl, (Option.some.inj ((show some (.tbl #[]) = H b from startT_same.symm).trans e)).symm⟩
    · exact .inr (startH_some ((startT_ne z).symm.trans e))
  have held : HOk P w H s1.heap := fun b u e => by
    rcases what e with ⟨q1, q2⟩ | ⟨q1, _, q2⟩
    · subst q1 q2
      exact tab
    · subst q1 q2
      exact ⟨ha, by rw [List.length_map]; exact hl, vs, _, rv, ha⟩
  have untracked : ∀ {b : Addr} {o : Obj}, s1.heap.get? b = some o → (∀ z n, o.data ≠ .seq z n) → o.data ≠ .fields #[] → H b = none := fun {b o} e h1 h2 => by
    cases q : H b with
    | none => rfl
    | some u =>
      exfalso
      rcases what q with ⟨q1, _⟩ | ⟨q1, _, _⟩
      · subst q1
        cases e.symm.trans tab
        exact h2 rfl
      · subst q1
        cases e.symm.trans ha
        exact h1 _ _ rfl
  have dictFree : ∀ {b : Addr} {o : Obj} {es : Array DictEntry} {ep : Nat}, s1.heap.get? b = some o → o.data = .dict es ep → H b = none := fun e d => untracked e (fun _ _ z => by rw [d] at z; cases z) (fun z => by rw [d] at z; cases z)
  have stays : ∀ {b : Addr} {m : Str → Option Value}, s1.heap.Ns b m → (hidT s1.heap H).Ns b m := fun {b m} ⟨o, es, ep, e, d, r⟩ => ⟨o, es, ep, hidT_get e (dictFree e d), d, r⟩
  have KB : K.In (hidT s1.heap H) := fun b o e => hidT_get (KX b o e) (by
    cases q : H b with
    | none => rfl
    | some u =>
      exfalso
      rcases what q with ⟨q1, _⟩ | ⟨q1, q2, _⟩
      · subst q1
        cases e.symm.trans noK
      · subst q1
        cases e.symm.trans q2)
  have M : L2.Mod K mg (hidT s1.heap H) := ⟨KB, stays hns, ⟨mb, stays hb, hbb⟩, hlim.elim fun mc q => ⟨mc, stays q.1, q.2⟩⟩
  have TB : TabB (hidT s1.heap H) mg c T := by
    refine ⟨?_, ?_, fun z => ?_⟩
    · obtain ⟨o, us, f1, f2, f3, f4, f5, f6, f7, e1, r1, r2, r3, rest⟩ := code
      refine ⟨o, us, f1, f2, f3, f4, f5, f6, f7, hidT_get e1 (untracked e1 (fun _ _ z => by rw [r2] at z; cases z) (fun z => ?_)), r1, r2, r3, rest⟩
      rw [r2] at z
      cases z
      simp at r3
    · obtain ⟨bm, ob, b1, b2, b3, b4, b5, b6⟩ := blt
      refine ⟨bm, ob, b1, b2, fun q => ?_, fun q => ?_, hidT_get b3 (untracked b3 (fun _ _ z => by rw [b6] at z; cases z) (fun z => by rw [b6] at z; cases z)), b4, b5, b6⟩
      · obtain ⟨o, es, ep, e, d, _⟩ := hns
        rw [q] at b3
        cases e.symm.trans b3
        rw [d] at b6
        cases b6
      · rw [q] at b3
        cases tab.symm.trans b3
        cases b6
    · obtain ⟨o, es, ep, e, d, _⟩ := hns
      rw [z] at e
      cases tab.symm.trans e
      cases d
  have env : Env0 P w K mg (hidT s1.heap H) callerA [] s1 H := ⟨rfl, M, fun b o e => of_hidT e, Nat.le_of_eq (hidT_size _ _), trivial, (fun b z => absurd (show b ∈ ([] : List Addr) from z) List.not_mem_nil), held, .of_eq hg⟩
  have script : SqL K H a (ns.map V.int) := by
    cases q : K.lookup a with
    | none => exact .inl (.inr ⟨_, (startT_ne aT).trans (if_pos ⟨rfl, q⟩)⟩)
    | some o =>
      cases (KX a o q).symm.trans ha
      exact .inr ⟨_, vs.toArray, _, q, rfl, rfl, rfl, by rw [List.size_toArray, hi.length]; exact hl, by simpa using rv⟩
  refine codeAny_mono ((F _ KB (stays hns) TB).go callerA [] s1 H ⟨[.ref a], []⟩ [.ref a] [.ref a] _ _ rfl hr env (hbind s1 (.ref a)) (.cons rfl .nil) (hsp H startT_same script)) fun r s' res => ?_
  cases r with
  | error e => exact (show False from res).elim
  | ok fl =>
    cases fl with
    | next => exact (show False from res).elim
    | brk => exact (show False from res).elim
    | cont => exact (show False from res).elim
    | ret u =>
      obtain ⟨v, H', os, bare, un, ok', rr, q⟩ := res
      obtain rfl : v = .bl true := q
      cases (show u = Value.bool true from rr)
      have key : ∀ b o, b ≠ T → s1.heap.get? b = some o → s'.heap.get? b = some o := fun b o n e => by
        cases z : H b with
        | none => exact un.keep b o e z (fun m => absurd (show b ∈ ([] : List Addr) from m) List.not_mem_nil) (fun m => absurd (show b ∈ ([] : List Addr) from m) List.not_mem_nil)
        | some t =>
          rcases what z with ⟨q1, _⟩ | ⟨q1, _, q2⟩
          · exact absurd q1 n
          · subst q2
            have z2 := un.frzs b _ _ z
            have e1 := (held b _ z).1
            rw [e] at e1
            cases e1
            exact (ok' b _ z2).1
      obtain ⟨more, grown⟩ : ∃ more : Array Value, s'.heap.get? T = some { cls := .none, data := .fields more } := by
        obtain ⟨more, z⟩ := un.tbls T #[] startT_same
        exact ⟨_, ok' T _ z⟩
      refine ⟨rfl, ⟨fun b o e => ?_, fun b o e => ?_⟩, os, bare⟩
      · by_cases z : b = T
        · subst z
          cases tab.symm.trans e
          exact .inr (.inl ⟨(code.tab tab).isCodeTable, rfl, #[], more, rfl, by rw [Array.empty_append]; exact grown⟩)
        · exact .inl (key b o z e)
      · by_cases z : b = T
        · subst z
          exact ⟨_, grown⟩
        · exact ⟨o, key b o z e⟩
end
theorem walkGT {l : PySem.W.OpenLaw} {n k : Nat} {q : Program} {loose : List Str} {XP : (Str → Option Value) → Heap → Prop} {YP : World → Heap → Prop} {d : DefRec} {K : Params → PySem.W.Frag} {sp : World → Addr → Sp} {x : Str}
    (hn : l.most = some n) (small : n ≤ sizeLine) (dflt : d.params.defaults = []) (room : Room k callerA) (recd : ∃ d', (recsOf q).find? (fun e => e.name == d.name) = some d') (inY : ∀ (w : World) (h : Heap), YP w h → (K w.params).In h)
    (F : ∀ (w : World) (mg : Str → Option Value) (fa : Addr) (h : Heap), (K w.params).In h → h.Ns mainGlobals mg → mg d.name = some (.ref fa) →
      ∃ (fd : FuncData) (c T : Addr), PySem.W.tabIn (K w.params) d.name = some (c, T) ∧ (K w.params).lookup T = none ∧ (∀ (s : Shared) (u : Value), BindsTo s fd ⟨[u], []⟩ [(x, u)]) ∧
        ∀ base : Heap, (K w.params).In base → base.Ns mainGlobals mg → TabB base mg c T → FnG l.prog w (K w.params) mg base k fa fd [x] (sp w T))
    (start : ∀ (w : World) (H : Hp) (a T : Addr) (ns : List Int), ns.length ≤ n → (∀ z ∈ ns, Builtin.Int.intBits z ≤ 1048576) → H T = some (.tbl #[]) → SqL (K w.params) H a (ns.map V.int) → sp w T [.ref a] H (fun v _ => v = .bl true) fun _ _ _ => False) :
    PySem.W.WalkO q loose XP YP l.row.toRowW d [] (fun f vs => PySem.call f vs) := by
  refine Att.attach_callB hn dflt ?_
  intro w s0 s1 mg mb fa o pm cd doc a vs ns G Y _ _ _ named obj hi len bits gens
  obtain ⟨fd, c, T, ti, noK, bound, fns⟩ := F w mg fa _ (inY w _ Y) G.T.g named
  obtain ⟨d', hd'⟩ := recd
  obtain ⟨code, tab⟩ := PySem.W.tab_of G.T (inY w _ Y) hd' ti
  exact lawGT (inY w _ Y) G.T.g G.T.b G.T.builtins G.T.nolimit gens tab noK code G.T.bmain obj hi (Nat.le_trans len small) room fns bound fun H tb sq => start w H a T ns len bits tb sq
end GG


namespace GG
open PySem PySem.Spec PyProof.Rows L2 LamX
section
variable {P : Program} {w : World} {K : PySem.W.Frag} {mg : Str → Option Value} {base : Heap}
/-- as fnG, its code object told -/
theorem fnGC {x qual : Str} {st : Stmt} {f : Addr} {N ps : List Str} {k : Nat} {sp : Sp} {oc kV doc pm cdv ct : Value} {an od : Option Addr} {osl : Array (Option Value)}
    (look : K.lookup f = some ⟨oc, od, .func (PySem.W.fnOf x qual (defArgs st) (defBody st) (defScope st) .none kV doc pm an cdv ct), osl⟩) (code : PySem.W.codeIn K cdv qual = true) (S : FnScope N ps (defScope st)) (cnt : ∀ vs H Q E, sp vs H Q E → vs.length = ps.length)
    (body : ∀ (A : Around) (out : List Env) (s : Shared) (H : Hp) (vs : List V) (Q : VK) (E : XK), A.guards = some [] → Room k (A.deeper (envOfC qual (defScope st) s.heap.objs.size f cdv)) → sp vs H Q E →
      ∃ t, PSs (cxOf L2.CX0 P w K mg base N qual (defScope st) f cdv A out s H E).nox (defBody st) t ∧ t { nx := fun _ H' => Q .non H', rt := Q } (L2.start N vs) H) :
    FnG P w K mg base (k + 1) f (PySem.W.fnOf x qual (defArgs st) (defBody st) (defScope st) .none kV doc pm an cdv ct) ps sp := by
  refine ⟨cnt, ?_⟩
  intro A out s H args us vs Q E noG room env bnd rel prom
  have many := cnt _ _ _ _ prom
  have inK : K.In s.heap := env.mod.kin.keeps fun b o q => (env.bs b o q).1
  have free : s.heap.NoLimit := env.mod.nolimit.keeps fun b o q => (env.bs b o q).1
  have kinds : ∀ y ∈ ps.zip us, (defScope st).names.lookup y.1 = some .local ∨ ((defScope st).names.lookup y.1 = some .cell ∧ ((cellsFrom (s.heap.objs.size + 1) (defScope st).names []).lookup y.1).isSome = true) := by
    rintro ⟨n, v⟩ my
    cases S.par n (List.of_mem_zip my).1 with
    | inl q => exact .inl q
    | inr q => exact .inr ⟨q, PySem.W.cellsFrom_some _ _ _ (.inl q)⟩
  refine codeAny_call_function room.depth (inK _ _ look) rfl S.co S.gen rfl (PySem.W.codeRec_of inK code) (bnd _ _ _ _ ?_)
  refine wpAny_newFunctionEnv_cells S.kind kinds fun env' he s1 inC => ?_
  subst he
  refine ⟨free.keeps inC.toInCall.keep, codeAny_func ?_⟩
  obtain ⟨t, ht, start0⟩ := body A out s H vs Q E noG (room.deeper _) prom
  have J := inv_start (E := E) (CX := L2.CX0) S room.hd env many rel inC
  refine wpAny_mono (ht.nox.run [] s1 (L2.start N vs) H _ J start0) (fun fl s' res => ?_) (fun _ _ q => q)
  cases fl with
  | ret u =>
    obtain ⟨v, σ', H', J', rv, q⟩ := res
    exact ⟨v, H', J'.os, J'.bare, J'.base, J'.hok, rv, q⟩
  | next =>
    obtain ⟨σ', H', J', q⟩ := res
    exact ⟨.non, H', J'.os, J'.bare, J'.base, J'.hok, rfl, q⟩
  | brk => exact (res.choose_spec.choose_spec.2 : False).elim
  | cont => exact (res.choose_spec.choose_spec.2 : False).elim
end
/-- a call of a local name that holds one of several defs of one promise, which may raise -/
theorem pe_callAX {X : Cx} {W : WX} {E : XK} {S : Addr → Prop} {sp : Sp} {k i : Nat} {x : Str} {e : Expr} {es : List Expr} {t : TA} {p pos : Pos} (all : ∀ f, S f → ∃ fd ps, FnOk X.prog X.w X.K X.mg X.base (L2.CX X.prog X.w) k f fd ps sp ∧ PySem.W.keepIn X.K (.ref f) = true ∧ Binds X.K fd ps [])
    (hr : Room k X.A) (hN : X.N[i]? = some x) (hv : Vis X.env.scope x) (tk : Takes X W) (hW : ∀ cls d σ H, E cls d H → W cls d σ H) (ha : PA X (e :: es) t) (hdb : (x == ("__debug__" : Str)) = false := by decide) (hcd : (x == ("__classdict__" : Str)) = false := by decide)
    (he : starEach (e :: es) X.env = (false, eval e X.env) :: starEach es X.env := by rfl) (hpl : (backTo pos (starEach es X.env)).any (·.1) = false := by rfl) :
    PE X (.Call (.Name x p) (e :: es) [] pos) (fun σ H Q => ∃ f, σ[i]? = some (some (.ref f)) ∧ S f ∧ t σ H fun vs H1 => sp vs H1 Q E) := by
  refine ⟨fun pins s σ H Q I h => ?_⟩
  obtain ⟨f, hs, hS, ht⟩ := h
  obtain ⟨fd, ps, F, hk, hb⟩ := all f hS
  have same : (fun vs H1 => sp (vs ++ []) H1 Q E) = fun vs H1 => sp vs H1 Q E := by
    funext vs H1
    rw [List.append_nil]
  refine (pe_callL (i := i) (f := f) (sp := sp) (dvs := []) (E := E) F hr hN hv hk hb .nil (passes_call tk hW) ha hdb hcd he hpl).run pins s σ H Q I ⟨hs, ?_⟩
  rw [same]
  exact ht
/-! ### what stays when a lambda is made, and when a pen is asked -/
mutual
theorem Da.ext {H H' : Hp} (k : ExtN H H') : ∀ {v : V} {d : PyData}, Da H v d → Da H' v d
  | _, _, .non => .non
  | _, _, .bl b => .bl b
  | _, _, .int i => .int i
  | _, _, .str x => .str x
  | _, _, .lst e n t => .lst (k _ _ e (fun _ z => by cases z)) n (t.ext k)
  | _, _, .tup e t => .tup (k _ _ e (fun _ z => by cases z)) (t.ext k)
  | _, _, .dic e t => .dic (k _ _ e (fun _ z => by cases z)) (t.ext k)
  | _, _, .dic2 e => .dic2 (k _ _ e (fun _ z => by cases z))
theorem DaAll.ext {H H' : Hp} (k : ExtN H H') : ∀ {vs : List V} {ds : List PyData}, DaAll H vs ds → DaAll H' vs ds
  | _, _, .nil => .nil
  | _, _, .cons h t => .cons (h.ext k) (t.ext k)
end
theorem PenAt.ext {H H' : Hp} {p l : Addr} {c : Int} (k : ExtN H H') (h : PenAt H p l c) : PenAt H' p l c := by
  obtain ⟨ns, a, d, f, I⟩ := h
  exact ⟨ns, a, d, f, k _ _ I.obj (fun _ z => by cases z), k _ _ I.cel (fun _ z => by cases z), I.len, I.a0, I.d0, I.c0, I.f0, I.f1⟩
theorem PenAt.same {H H' : Hp} {p l : Addr} {c : Int} (k : Same H H') (h : PenAt H p l c) : PenAt H' p l c := h.ext (ExtN.of k)
theorem Tabs.keep {T : List (Addr × Str)} {H H' : Hp} {p l : Addr} {c : Int} (t : Tabs T H) (k : Keep p H H') (P : PenAt H p l c) : Tabs T H' := fun z hz => by
  obtain ⟨ns, a, d, f, I⟩ := P
  obtain ⟨ps, e, ok, all⟩ := t z hz
  have n : z.1 ≠ p := fun q => by
    rw [q, I.obj] at e
    cases e
  refine ⟨ps, k _ _ n e, ok, fun pos cv hc => ?_⟩
  obtain ⟨c', rfl, ec⟩ := all pos cv hc
  have n2 : c' ≠ p := fun q => by
    rw [q, I.obj] at ec
    unfold CodeO at ec
    cases ec
  exact ⟨c', rfl, k _ _ n2 ec⟩
theorem Tabs.same {T : List (Addr × Str)} {H H' : Hp} (t : Tabs T H) (k : Same H H') : Tabs T H' := t.ext k
/-- an operation that is asked of something that is no ratio -/
def spErr (C : Addr) : Sp := fun vs H _ E => ∃ v1 v2 d1 d2, vs = [v1, v2] ∧ Da H v1 d1 ∧ Da H v2 d2 ∧ smallR d1 ∧ smallR d2 ∧
  ((isR d1 = false ∧ ∀ dd H', H' dd = some (.xd [("number", v1), ("what", .str "ratio")]) → Same H H' → E (.ref C) (some dd) H') ∨
    (isR d1 = true ∧ isR d2 = false ∧ ∀ dd H', H' dd = some (.xd [("number", v2), ("what", .str "ratio")]) → Same H H' → E (.ref C) (some dd) H'))
theorem err_bin {C : Addr} {ok : Int × Int → Int × Int → Hp → VK → Prop} : ∀ vs H Q E, spErr C vs H Q E → spBin C ok vs H Q E := by
  rintro vs H Q E ⟨v1, v2, d1, d2, rfl, a1, a2, m1, m2, h⟩
  refine ⟨v1, v2, d1, d2, rfl, a1, a2, m1, m2, fun h1 h2 => ?_, fun h1 => ?_, fun h1 h2 => ?_⟩
  · rcases h with ⟨z, _⟩ | ⟨_, z, _⟩
    · rw [h1] at z
      cases z
    · rw [h2] at z
      cases z
  · rcases h with ⟨_, k⟩ | ⟨z, _⟩
    · exact k
    · rw [h1] at z
      cases z
  · rcases h with ⟨z, _⟩ | ⟨_, _, k⟩
    · rw [h1] at z
      cases z
    · exact k
/-! ### two ratios in a tuple, shown -/
def dRat (a : Int × Int) : PyData := .tuple [.int a.1, .int a.2]
def dPair (a b : Int × Int) : PyData := .tuple [dRat a, dRat b]
def in250 (a : Int × Int) : Prop := a.1.natAbs < 2 ^ 250 ∧ a.2.natAbs < 2 ^ 250
theorem log250 {i : Int} (h : i.natAbs < 2 ^ 250) : i.natAbs.log2 < 1920 := log2_small (Nat.lt_of_lt_of_le h (Nat.pow_le_pow_right (by decide) (by decide)))
theorem rat_len {a : Int × Int} (h : in250 a) : (dRat a).shown.length ≤ 4000 := by
  have z := tuple_len [.int a.1, .int a.2] 1922 (by
    intro d hd
    simp only [List.mem_cons, List.not_mem_nil, or_false] at hd
    rcases hd with rfl | rfl
    · rw [PyData.shown_int]
      exact Nat.le_succ_of_le (int_text_len_1921 (log250 h.1))
    · rw [PyData.shown_int]
      exact Nat.le_succ_of_le (int_text_len_1921 (log250 h.2)))
  simp only [List.length_cons, List.length_nil] at z
  exact Nat.le_trans z (by decide)
theorem pair_ok {a b : Int × Int} (ha : in250 a) (hb : in250 b) : (dPair a b).showable = true ∧ (dPair a b).depth ≤ 60 ∧ (dPair a b).shown.length ≤ sizeLine := by
  refine ⟨?_, ?_, ?_⟩
  · simp only [dPair, dRat, PyData.showable, PyData.showableAll, Bool.and_true, Bool.and_eq_true, decide_eq_true_eq]
    exact ⟨⟨log250 ha.1, log250 ha.2⟩, log250 hb.1, log250 hb.2⟩
  · simp [dPair, dRat, PyData.depth, PyData.depthAll]
  · have z := tuple_len [dRat a, dRat b] 4000 (by
      intro d hd
      simp only [List.mem_cons, List.not_mem_nil, or_false] at hd
      rcases hd with rfl | rfl
      · exact rat_len ha
      · exact rat_len hb)
    simp only [List.length_cons, List.length_nil] at z
    rw [sizeLine_eq]
    exact Nat.le_trans z (by decide)
theorem da_rat {H : Hp} {r : Addr} {a : Int × Int} (e : H r = some (.tup [.int a.1, .int a.2])) : Da H (.ref r) (dRat a) := .tup e (.cons (.int _) (.cons (.int _) .nil))
theorem up120 {x : Int} (h : x.natAbs < 2 ^ 100) : x.natAbs < 2 ^ 120 := Nat.lt_of_lt_of_le h (Nat.pow_le_pow_right (by decide) (by decide))
theorem mid.smallP {a : Int × Int} (m : mid a) : smallP a := ⟨up120 m.1, up120 m.2.1, m.2.2.1⟩
theorem mid.in250 {a : Int × Int} (m : mid a) : in250 a := ⟨small250 (up120 m.1), small250 (up120 m.2.1)⟩
theorem lw_in {t b : Int} (h0 : 0 < b) (ht : t.natAbs < 2 ^ 250) (hb : b.natAbs < 2 ^ 250) : in250 (lw t b) := by
  obtain ⟨x, y, _⟩ := lw_small (t := t) h0
  exact ⟨Nat.lt_of_le_of_lt x ht, Nat.lt_of_le_of_lt y hb⟩
theorem up250 {x : Int} (h : x.natAbs < 2 ^ 240) : x.natAbs < 2 ^ 250 := Nat.lt_of_lt_of_le h (Nat.pow_le_pow_right (by decide) (by decide))
theorem plus_in {a b : Int × Int} (ha : smallP a) (hb : smallP b) : in250 (rPlus a b) ∧ in250 (rMinus a b) ∧ in250 (rTimes a b) := by
  have h0 : 0 < a.2 * b.2 := Int.mul_pos ha.2.2 hb.2.2
  have h1 := up250 (prod240 ha.2.1 hb.2.1)
  exact ⟨lw_in h0 (sum250 (prod240 ha.1 hb.2.1) (prod240 hb.1 ha.2.1)).1 h1, lw_in h0 (sum250 (prod240 ha.1 hb.2.1) (prod240 hb.1 ha.2.1)).2 h1, lw_in h0 (up250 (prod240 ha.1 hb.1)) h1⟩
end GG


namespace GG
open PySem PySem.Spec PyProof.Rows L2
/-! ### dicts whose keys are tuples of tuples of whole numbers -/
mutual
inductive NK (H : Hp) : V → NestedKey → Prop
  | int (i : Int) : NK H (.int i) (.num i)
  | tup {a : Addr} {xs : List V} {ks : List NestedKey} : H a = some (.tup xs) → NKs H xs ks → NK H (.ref a) (.tup ks)
inductive NKs (H : Hp) : List V → List NestedKey → Prop
  | nil : NKs H [] []
  | cons {v : V} {vs : List V} {k : NestedKey} {ks : List NestedKey} : NK H v k → NKs H vs ks → NKs H (v :: vs) (k :: ks)
end
mutual
theorem NK.is {X : Cx} {pins : List (Addr × Obj)} {σ : L2.St} {H : Hp} {s : Shared} (I : Inv X pins σ H s) : ∀ {v : V} {k : NestedKey} {u : Value}, NK H v k → RelV v u → NestedIs s.heap k u
  | _, _, _, .int i, r => by
    obtain ⟨t, rfl⟩ := r
    exact .int i t
  | _, _, _, .tup e t, r => by
    cases r
    obtain ⟨_, its, rv, o, ho, hc, n, hd⟩ := (show ObjOk X.prog X.w H s.heap _ (.tup _) from I.hok _ _ e)
    exact .tup ho hc hd (by rw [List.toList_toArray]; exact t.is I rv)
theorem NKs.is {X : Cx} {pins : List (Addr × Obj)} {σ : L2.St} {H : Hp} {s : Shared} (I : Inv X pins σ H s) : ∀ {vs : List V} {ks : List NestedKey} {us : List Value}, NKs H vs ks → Vals vs us → NestedAll s.heap ks us
  | _, _, _, .nil, r => by
    cases r
    exact .nil
  | _, _, _, .cons h t, r => by
    cases r with
    | cons r1 r2 => exact .cons (h.is I r1) (t.is I r2)
end
mutual
theorem NK.same {H H' : Hp} (k : Same H H') : ∀ {v : V} {x : NestedKey}, NK H v x → NK H' v x
  | _, _, .int i => .int i
  | _, _, .tup e t => .tup (k _ _ e) (t.same k)
theorem NKs.same {H H' : Hp} (k : Same H H') : ∀ {vs : List V} {xs : List NestedKey}, NKs H vs xs → NKs H' vs xs
  | _, _, .nil => .nil
  | _, _, .cons h t => .cons (h.same k) (t.same k)
end
abbrev NE := NestedKey × Addr × V
def relE (p : NE) (q : NestedKey × Addr × Value) : Prop := p.1 = q.1 ∧ p.2.1 = q.2.1 ∧ RelV p.2.2 q.2.2
def ndP (P : Program) (w : World) (d : Addr) (kvs : List NE) : Heap → Prop := fun h => ∃ xs : List (NestedKey × Addr × Value), Paired relE kvs xs ∧
  ∃ o es ep, h.get? d = some o ∧ o.ExactDict ∧ o.data = .dict es ep ∧ es.toList = xs.map (entryOfKey (nestedKind P w)) ∧ (xs.map (·.1)).Nodup
/-- at d stands a dict with these keys (each with the address of its tuple) and values -/
structure ND (P : Program) (w : World) (H : Hp) (d : Addr) (kvs : List NE) : Prop where
  has : H d = some (.ext (ndP P w d kvs))
  keys : ∀ e ∈ kvs, NK H (.ref e.2.1) e.1 ∧ e.1.depth ≤ 8
  ne : (d == sysModules) = false
  small : kvs.length ≤ sizeLine
theorem ND.same {P : Program} {w : World} {H H' : Hp} {d : Addr} {kvs : List NE} (k : Same H H') (n : ND P w H d kvs) : ND P w H' d kvs :=
  ⟨k _ _ n.has, fun e he => ⟨(n.keys e he).1.same k, (n.keys e he).2⟩, n.ne, n.small⟩
theorem ND.noTup {P : Program} {w : World} {H : Hp} {d : Addr} {kvs : List NE} (n : ND P w H d kvs) : ∀ xs, H d ≠ some (.tup xs) := fun xs z => by
  rw [n.has] at z
  cases z
def atN (kvs : List NE) (k : NestedKey) : Option V := (kvs.find? fun e => decide (e.1 = k)).map (·.2.2)
def putN (kvs : List NE) (k : NestedKey) (b : Addr) (v : V) : List NE := if (atN kvs k).isSome then kvs.map (fun e => if e.1 = k then (e.1, e.2.1, v) else e) else kvs ++ [(k, b, v)]
theorem relE_val {kvs : List NE} {xs : List (NestedKey × Addr × Value)} (r : Paired relE kvs xs) (k : NestedKey) : RelO (atN kvs k) ((atKey xs k).map (·.2)) := by
  induction r with
  | nil => exact True.intro
  | @cons p q ps qs h t ih =>
    obtain ⟨h1, _, h2⟩ := h
    by_cases e : p.1 = k
    · have e' : q.1 = k := h1.symm.trans e
      have b : atKey (q :: qs) k = some q.2 := by simp [atKey, List.find?_cons, e']
      have c : atN (p :: ps) k = some p.2.2 := by simp [atN, List.find?_cons, e]
      rw [c, b]
      exact h2
    · have e' : ¬ q.1 = k := fun z => e (h1.trans z)
      have b : atKey (q :: qs) k = atKey qs k := by simp [atKey, List.find?_cons, e']
      have c : atN (p :: ps) k = atN ps k := by simp [atN, List.find?_cons, e]
      rw [c, b]
      exact ih
theorem relE_repl {kvs : List NE} {xs : List (NestedKey × Addr × Value)} (r : Paired relE kvs xs) (k : NestedKey) {y : V} {u : Value} (ry : RelV y u) :
    Paired relE (kvs.map fun e => if e.1 = k then (e.1, e.2.1, y) else e) (xs.map (putAt k u)) := by
  induction r with
  | nil => exact .nil
  | @cons p q ps qs h t ih =>
    rw [List.map_cons, List.map_cons]
    refine .cons ?_ ih
    obtain ⟨h1, h2, h3⟩ := h
    unfold putAt
    by_cases e : p.1 = k
    · rw [if_pos e, if_pos (h1.symm.trans e)]
      exact ⟨h1, h2, ry⟩
    · rw [if_neg e, if_neg (fun z => e (h1.trans z))]
      exact ⟨h1, h2, h3⟩
theorem relE_put {kvs : List NE} {xs : List (NestedKey × Addr × Value)} (r : Paired relE kvs xs) (k : NestedKey) (b : Addr) {y : V} {u : Value} (ry : RelV y u) : Paired relE (putN kvs k b y) (storedH xs k b u) := by
  have e : (atN kvs k).isSome = (atKey xs k).isSome := by
    rw [(relE_val r k).isSome_eq, Option.isSome_map]
  unfold putN storedH
  rw [e]
  by_cases q : (atKey xs k).isSome = true
  · rw [if_pos q, if_pos q]
    exact relE_repl r k ry
  · rw [if_neg q, if_neg q]
    exact Paired.snoc r ⟨rfl, rfl, ry⟩
theorem putN_len (kvs : List NE) (k : NestedKey) (b : Addr) (v : V) : (putN kvs k b v).length ≤ kvs.length + 1 := by
  unfold putN
  split
  · rw [List.length_map]
    exact Nat.le_succ _
  · rw [List.length_append]
    exact Nat.le_refl _
theorem putN_keys {H : Hp} {kvs : List NE} {k : NestedKey} {b : Addr} {v : V} (h : ∀ e ∈ kvs, NK H (.ref e.2.1) e.1 ∧ e.1.depth ≤ 8) (n : NK H (.ref b) k ∧ k.depth ≤ 8) : ∀ e ∈ putN kvs k b v, NK H (.ref e.2.1) e.1 ∧ e.1.depth ≤ 8 := by
  intro e he
  unfold putN at he
  split at he
  · obtain ⟨x, hx, rfl⟩ := List.mem_map.mp he
    split
    · exact h x hx
    · exact h x hx
  · rcases List.mem_append.mp he with q | q
    · exact h e q
    · rw [List.mem_singleton.mp q]
      exact n
section
variable {X : Cx} {pins : List (Addr × Obj)} {σ : L2.St} {H : Hp} {s : Shared} {d : Addr} {kvs : List NE}
theorem relE_is (I : Inv X pins σ H s) {xs : List (NestedKey × Addr × Value)} (r : Paired relE kvs xs) (keys : ∀ e ∈ kvs, NK H (.ref e.2.1) e.1 ∧ e.1.depth ≤ 8) : ∀ x ∈ xs, (nestedKind X.prog X.w).is s.heap x.1 x.2.1 := by
  induction r with
  | nil => exact fun x hx => nomatch hx
  | @cons p q ps qs h t ih =>
    intro x hx
    rcases List.mem_cons.mp hx with rfl | m
    · obtain ⟨e1, e2, _⟩ := h
      obtain ⟨k1, k2⟩ := keys p List.mem_cons_self
      rw [← e1, ← e2]
      exact ⟨k1.is I rfl, k2⟩
    · exact ih (fun e he => keys e (List.mem_cons_of_mem _ he)) x m
theorem ND.of (I : Inv X pins σ H s) (n : ND X.prog X.w H d kvs) : ∃ xs : List (NestedKey × Addr × Value), Paired relE kvs xs ∧ s.heap.DictOfH (nestedKind X.prog X.w) d xs := by
  obtain ⟨⟨xs, r, o, es, ep, h1, h2, h3, h4, h5⟩, _⟩ := (show ObjOk X.prog X.w H s.heap d (.ext _) from I.hok d _ n.has)
  exact ⟨xs, r, o, es, ep, h1, h2, h3, h4, relE_is I r n.keys, h5⟩
theorem ndP_stay {P : Program} {w : World} {h1 h2 : Heap} (p : ndP P w d kvs h1) (k : ∀ o, h1.get? d = some o → h2.get? d = some o) : ndP P w d kvs h2 := by
  obtain ⟨xs, r, o, es, ep, a, rest⟩ := p
  exact ⟨xs, r, o, es, ep, k _ a, rest⟩
/-- {} -/
def tNNew (P : Program) (w : World) : TE := fun _ H Q => ∀ p, H p = none → ND P w (upd H p (.ext (ndP P w p []))) p [] → Q (.ref p) (upd H p (.ext (ndP P w p [])))
theorem pe_nnew {pos : Pos} : PE X (.Dict [] [] pos) (tNNew X.prog X.w) := ⟨fun pins s σ H Q I h => by
  have free : H s.heap.objs.size = none := I.hok.fresh (Nat.le_refl _)
  have now : ndP X.prog X.w s.heap.objs.size [] (s.heap.push { cls := .type "dict", data := .dict #[] }) := ⟨[], .nil, _, #[], 0, Heap.get?_push_size _ rfl, ⟨rfl, rfl, rfl⟩, rfl, rfl, List.nodup_nil⟩
  refine wpAny_Dict_empty ⟨.ref s.heap.objs.size, _, I.laid (a := s.heap.objs.size) (o := .ext (ndP X.prog X.w s.heap.objs.size [])) (t' := s.toks) (fun _ _ q => Heap.get?_push_of_some _ q) (Nat.le_refl _) ⟨now, ⟨_, Heap.get?_push_size _ rfl⟩, fun h1 h2 p k => ndP_stay p k⟩, rfl, h _ free ⟨upd_same, fun e he => (nomatch he), beq_eq_false_iff_ne.mpr (Ne.symm (Nat.ne_of_lt I.big)), Nat.zero_le _⟩⟩⟩
/-- d.get(k, x) -/
def tNGet2 (P : Program) (w : World) (td ty tx : TE) : TE := fun σ H Q => td σ H fun x H1 => ∃ a, x = .ref a ∧ (∃ kvs, ND P w H1 a kvs) ∧ ty σ H1 fun y H2 => tx σ H2 fun z H3 => ∃ kvs k b, ND P w H3 a kvs ∧ y = .ref b ∧ NK H3 (.ref b) k ∧ k.depth ≤ 8 ∧ Q ((atN kvs k).getD z) H3
theorem pe_nget2 {o e f : Expr} {apos cpos : Pos} {td ty tx : TE} (hu : X.A.units + 10 < cLine) (ho : PE X o td) (he : PE X e ty) (hf : PE X f tx) (m : M2 X o "get" apos e f cpos) : PE X (.Call (.Attribute o "get" apos) [e, f] [] cpos) (tNGet2 X.prog X.w td ty tx) := by
  refine ⟨fun pins s σ H Q I h => ?_⟩
  refine wpAny_Call_method m.base m.few m.line PySem.F.plainAttrs_dict PySem.F.slot_dict_get PySem.F.type_dict_get (thn (ho.run pins s σ H _ I h) fun u s1 ⟨x, H1, I1, rx, a, ex, ⟨kv0, n0⟩, q1⟩ => ?_)
  subst ex
  obtain rfl : u = Value.ref a := rx
  obtain ⟨xs0, _, dd0⟩ := ND.of I1 n0
  refine ⟨dd0.typeIs, fun b q => ?_, ?_⟩
  · cases q
    obtain ⟨ob, _, _, h1, h2, _⟩ := dd0
    exact ⟨ob, h1, h2.2.1⟩
  rw [m.trees]
  refine Calls.callWith_builtin rfl (Calls.evalArgs_plain (Calls.spliced_cons (thn (he.run pins s1 σ H1 _ I1 q1) fun iv s2 ⟨y, H2, I2, ry, q2⟩ =>
    Calls.spliced_cons (thn (hf.run pins s2 σ H2 _ I2 q2) fun fv s3 ⟨z, H3, I3, rz, kvs, k, b, n3, ey, nk, dk, q3⟩ => Calls.spliced_nil ?_))))
  subst ey
  obtain rfl : iv = Value.ref b := ry
  obtain ⟨xs, rel, dd⟩ := ND.of I3 n3
  refine call_meetsIn PySem.F.slot_dict_get dd.typeIs PySem.F.entry_dict_get (PySem.F.args_dict_get_3 _ _ _) (meetsH_dict_get_default (nestedKind X.prog X.w) a b n3.ne fv) ⟨(by show X.A.units + 1 + 8 < cLine; omega), k, xs, ⟨nk.is I3 rfl, dk⟩, dd, ⟨_, H3, I3.tok _, ?_, q3⟩⟩
  exact (relE_val rel k).getD rz
/-- d[k] = v -/
def sNPut (P : Program) (w : World) (td ty tv : TE) : TS := fun D σ H => tv σ H fun v H1 => td σ H1 fun x H2 => ty σ H2 fun y H3 => ∃ a kvs k b, x = .ref a ∧ ND P w H3 a kvs ∧ kvs.length < sizeLine ∧ y = .ref b ∧ NK H3 (.ref b) k ∧ k.depth ≤ 8 ∧
  (ND P w (upd H3 a (.ext (ndP P w a (putN kvs k b v)))) a (putN kvs k b v) → D.nx σ (upd H3 a (.ext (ndP P w a (putN kvs k b v)))))
theorem NK.ext {H : Hp} {a : Addr} {o : HO} (e : ∀ xs, H a ≠ some (.tup xs)) {v : V} {k : NestedKey} (h : NK H v k) : NK (upd H a o) v k := by
  have key : ∀ b xs, H b = some (.tup xs) → upd H a o b = some (.tup xs) := fun b xs q => by
    rw [upd_ne (fun z => e xs (by rw [← z]; exact q))]
    exact q
  exact h.rec (motive_1 := fun v k _ => NK (upd H a o) v k) (motive_2 := fun vs ks _ => NKs (upd H a o) vs ks) (fun i => .int i) (fun q _ ih => .tup (key _ _ q) ih) .nil (fun _ _ i1 i2 => .cons i1 i2)
theorem NKs.ext {H : Hp} {a : Addr} {o : HO} (e : ∀ xs, H a ≠ some (.tup xs)) : ∀ {vs : List V} {ks : List NestedKey}, NKs H vs ks → NKs (upd H a o) vs ks
  | _, _, .nil => .nil
  | _, _, .cons h t => .cons (h.ext e) (NKs.ext e t)
theorem NKs.snoc {H : Hp} {v : V} {k : NestedKey} (h : NK H v k) : ∀ {vs : List V} {ks : List NestedKey}, NKs H vs ks → NKs H (vs ++ [v]) (ks ++ [k])
  | _, _, .nil => .cons h .nil
  | _, _, .cons a t => .cons a (NKs.snoc h t)
theorem ps_nput {o i value : Expr} {pos pos' : Pos} {td ty tv : TE} (hu : X.A.units + 10 < cLine) (ho : PE X o td) (hi : PE X i ty) (hv : PE X value tv) (hs : swapsWith value (some (.Subscript o i pos')) pos.line X.env = pure false) :
    PS X (.Assign [.Subscript o i pos'] value pos) (sNPut X.prog X.w td ty tv) := by
  refine ⟨fun pins s σ H D I h => ?_⟩
  refine wpAny_Assign_Subscript (thn (hv.run pins s σ H _ I h) fun r s1 ⟨v, H1, I1, rv, q1⟩ => thn (ho.run pins s1 σ H1 _ I1 q1) fun u s2 ⟨x, H2, I2, rx, q2⟩ => thn (hi.run pins s2 σ H2 _ I2 q2) fun iv s3 ⟨y, H3, I3, ry, a, kvs, k, b, ex, n3, l, ey, nk, dk, q3⟩ => ?_) hs
  subst ex ey
  obtain rfl : u = Value.ref a := rx
  obtain rfl : iv = Value.ref b := ry
  obtain ⟨xs, rel, dd⟩ := ND.of I3 n3
  have hl : (putN kvs k b v).length ≤ sizeLine := Nat.le_trans (putN_len kvs k b v) l
  refine wpAny_setItem_heap (knd := nestedKind X.prog X.w) (k := k) (hsz := by rw [← Paired.length rel]; exact n3.small) (by show X.A.units + 1 + 8 < cLine; omega) ⟨nk.is I3 rfl, dk⟩ dd fun h' dd' hs' => ?_
  obtain ⟨q, es, ep, hq, h2, h3, h4, _, h5⟩ := dd'
  have now : ndP X.prog X.w a (putN kvs k b v) h' := ⟨_, relE_put rel k b rv, q, es, ep, hq, h2, h3, h4, h5⟩
  refine ⟨σ, _, d_write I3 (by rw [n3.has]; exact True.intro) hs' ⟨q, hq⟩ (ob := .ext (ndP X.prog X.w a (putN kvs k b v))) ⟨now, ⟨q, hq⟩, fun h1 h2 p k => ndP_stay p k⟩, q3 ⟨upd_same, ?_, n3.ne, hl⟩⟩
  exact putN_keys (fun e he => ⟨(n3.keys e he).1.ext n3.noTup, (n3.keys e he).2⟩) ⟨nk.ext n3.noTup, dk⟩
end
end GG

namespace GG
open PySem PySem.Spec PyProof.Rows L2
/-! ### a walk over a list or a tuple -/
theorem SqL.sm {K : PySem.W.Frag} {H H' : Hp} {a : Addr} {xs : List V} (k : Same H H') (h : SqL K H a xs) : SqL K H' a xs := by
  rcases h with (h | ⟨o, h⟩) | h
  · exact .inl (.inl (k _ _ h))
  · exact .inl (.inr ⟨o, k _ _ h⟩)
  · exact .inr h
theorem SqT.sm {K : PySem.W.Frag} {H H' : Hp} {a : Addr} {xs : List V} (k : Same H H') (h : SqT K H a xs) : SqT K H' a xs := by
  rcases h with (h | ⟨o, h⟩) | h
  · exact .inl (.inl (k _ _ h))
  · exact .inl (.inr ⟨o, k _ _ h⟩)
  · exact .inr h
def iEi (K : PySem.W.Frag) (tl : TE) : TI := fun σ H R => tl σ H fun x H1 => ∃ a, x = .ref a ∧ (((∃ xs, SqL K H1 a xs) ∧ R (Itl K a) H1) ∨ ((∃ xs, SqT K H1 a xs) ∧ R (Itt K a) H1))
theorem pi_ei {X : Cx} {tg l : Expr} {tl : TE} (hl : PE X l tl) : PI X tg l (iEi X.K tl) := by
  refine ⟨fun pins s σ H R I h => ?_⟩
  refine thn (hl.run pins s σ H _ I h) fun v s1 ⟨x, H1, I1, r1, q1⟩ => ?_
  obtain ⟨a, e, q⟩ := q1
  subst e
  cases r1
  rcases q with ⟨⟨xs, hq⟩, q⟩ | ⟨⟨xs, hq⟩, q⟩
  · obtain ⟨its, rv, p, hz⟩ := I1.list hq
    refine wpAny_pyIter_list p.isList ?_
    refine ⟨s1.heap.objs.size, [s1.heap.objs.size], _, _, H1, rfl, I1.kept (t' := s1.toks) fun b o e => Heap.get?_push_of_some _ e, turn_list a _, ⟨_, Heap.get?_push_size _ rfl, rfl, rfl⟩, fun b hb => ?_, q⟩
    have e : b = s1.heap.objs.size := by simpa using hb
    subst e
    exact I1.fpOk (Nat.le_refl _) (I1.hok.fresh (Nat.le_refl _))
  · obtain ⟨its, rv, p, hz⟩ := I1.tuple hq
    refine wpAny_pyIter_tuple (show s1.heap.IsTuple a its.toArray from p) ?_
    refine ⟨s1.heap.objs.size, [s1.heap.objs.size], _, _, H1, rfl, I1.kept (t' := s1.toks) fun b o e => Heap.get?_push_of_some _ e, turn_tuple a _, ⟨_, Heap.get?_push_size _ rfl, rfl, rfl⟩, fun b hb => ?_, q⟩
    have e : b = s1.heap.objs.size := by simpa using hb
    subst e
    exact I1.fpOk (Nat.le_refl _) (I1.hok.fresh (Nat.le_refl _))
/-- a comprehension over it -/
theorem lc_ei {K : PySem.W.Frag} {a : Addr} {xs : List V} {g : TG} {tt : TT} {te : TE} {vs : List Nat} {σ : L2.St} {H1 : Hp} {Qd : Addr → Hp → Prop} (sq : SqL K H1 a xs ∨ SqT K H1 a xs) (Pv : Addr → Nat → Hp → Prop) (h0 : ∀ D, H1 D = none → Pv D 0 (upd H1 D (.lst []))) (hl : ∀ D, H1 D = none → ∀ i H, Pv D i H → Same H1 H)
    (hs : ∀ D, H1 D = none → ∀ i x H, xs[i]? = some x → Pv D i H → g x (wipe σ vs) H fun σ2 H2 => wipe σ2 vs = wipe σ vs ∧ tt σ2 H2 fun b H3 =>
      if b = true then te σ2 H3 fun y H4 => ∃ acc, H4 D = some (.lst acc) ∧ acc.length < sizeLine ∧ Pv D (i + 1) (upd H4 D (.lst (acc ++ [y]))) else Pv D (i + 1) H3) (hd : ∀ D, H1 D = none → ∀ H, Pv D xs.length H → Qd D H) :
    ((∃ ys, SqL K H1 a ys) ∧ ∀ D, H1 D = none → ∃ W : Nat → Nat → Hp → Prop, (∃ m, W 0 m (upd H1 D (.lst []))) ∧ ∀ i m H, W i m H →
      ((Itl K a).stop i H ∧ Qd D H) ∨ ((Itl K a).go i H ∧ ∃ Nx : Hp → Prop, (∀ H', Nx H' → ∃ m', m' < m ∧ W (i + 1) m' H') ∧ ∀ x H', (Itl K a).yld i H x H' → g x (wipe σ vs) H' fun σ2 H2 => wipe σ2 vs = wipe σ vs ∧ tt σ2 H2 fun b H3 =>
        if b = true then te σ2 H3 fun y H4 => ∃ acc, H4 D = some (.lst acc) ∧ acc.length < sizeLine ∧ Nx (upd H4 D (.lst (acc ++ [y]))) else Nx H3)) ∨
    ((∃ ys, SqT K H1 a ys) ∧ ∀ D, H1 D = none → ∃ W : Nat → Nat → Hp → Prop, (∃ m, W 0 m (upd H1 D (.lst []))) ∧ ∀ i m H, W i m H →
      ((Itt K a).stop i H ∧ Qd D H) ∨ ((Itt K a).go i H ∧ ∃ Nx : Hp → Prop, (∀ H', Nx H' → ∃ m', m' < m ∧ W (i + 1) m' H') ∧ ∀ x H', (Itt K a).yld i H x H' → g x (wipe σ vs) H' fun σ2 H2 => wipe σ2 vs = wipe σ vs ∧ tt σ2 H2 fun b H3 =>
        if b = true then te σ2 H3 fun y H4 => ∃ acc, H4 D = some (.lst acc) ∧ acc.length < sizeLine ∧ Nx (upd H4 D (.lst (acc ++ [y]))) else Nx H3)) := by
  rcases sq with q | q
  · exact .inl ⟨⟨_, q⟩, fun D hD => lc_list (Pv D) (h0 D hD) (fun i H _ p => SqL.sm (hl D hD i H p) q) (hs D hD) (hd D hD)⟩
  · exact .inr ⟨⟨_, q⟩, fun D hD => lc_tup (Pv D) (h0 D hD) (fun i H _ p => SqT.sm (hl D hD i H p) q) (hs D hD) (hd D hD)⟩
/-! ### what a row, prices, a bid are, by their data -/
def seqOf : PyData → Option (List PyData)
  | .list ds => some ds
  | .tuple ds => some ds
  | _ => none
def isRow (d : PyData) (n : Int) : Bool := match seqOf d with
  | some ds => decide ((ds.length : Int) = n)
  | none => false
def isZ (d : PyData) : Bool := isR d && decide (0 ≤ (ratOf d).1)
def areP (d : PyData) (n : Int) : Bool := match seqOf d with
  | some ds => decide ((ds.length : Int) = n) && ds.all isZ
  | none => false
def isBid (d : PyData) (n : Int) : Bool := match seqOf d with
  | some [x, y] => isW x && areP y n
  | _ => false
/-- the numbers in it are small -/
def smallS (d : PyData) : Prop := match seqOf d with
  | some ds => ds.length ≤ 1000 ∧ ∀ x ∈ ds, smallR x
  | none => True
def smallBid (d : PyData) : Prop := match seqOf d with
  | some [_, y] => smallS y
  | _ => True
theorem seq_none {d : PyData} (h : isSeq d = false) : seqOf d = none := by
  cases d <;> first | rfl | cases h
theorem Da.seq2 {K : PySem.W.Frag} {H : Hp} {v : V} {d : PyData} {ds : List PyData} (h : Da H v d) (s : seqOf d = some ds) : ∃ a xs, v = .ref a ∧ (SqL K H a xs ∨ SqT K H a xs) ∧ DaAll H xs ds ∧ xs.length = ds.length := by
  cases h with
  | lst e n t =>
    cases s
    exact ⟨_, _, rfl, .inl (.inl (.inl e)), t, t.length⟩
  | tup e t =>
    cases s
    exact ⟨_, _, rfl, .inr (.inl (.inl e)), t, t.length⟩
  | _ => cases s
theorem Same.stay' {H H' : Hp} (k : Same H H') : Stay H H' := Same.stay k
abbrev sRow : Stmt := topS 23
abbrev sZ : Stmt := topS 24
abbrev sPrices : Stmt := topS 25
abbrev sToldR : Stmt := topS 27
abbrev sBid : Stmt := topS 35
def spRow : Sp := fun vs H Q _ => ∃ v d n, vs = [v, .int n] ∧ Da H v d ∧ ∀ H', Same H H' → Q (.bl (isRow d n)) H'
def spZ : Sp := fun vs H Q _ => ∃ v d, vs = [v] ∧ Da H v d ∧ smallR d ∧ ∀ H', Same H H' → Q (.bl (isZ d)) H'
def spPrices : Sp := fun vs H Q _ => ∃ v d n, vs = [v, .int n] ∧ Da H v d ∧ smallS d ∧ ∀ H', Same H H' → Q (.bl (areP d n)) H'
def spBid : Sp := fun vs H Q _ => ∃ v d n, vs = [v, .int n] ∧ Da H v d ∧ smallBid d ∧ ∀ H', Same H H' → Q (.bl (isBid d n)) H'
section
variable {P : Program} {w : World} {K : PySem.W.Frag} {mg : Str → Option Value} {base : Heap}
theorem scRow : FnScope ["value", "many"] ["value", "many"] (defScope sRow) := ⟨rfl, rfl, rfl, by decide +kernel, rfl, by decide +kernel, by decide +kernel⟩
theorem kn_row (D : DefIs K mg "is_row" sRow) (T : RTxt K mg) : Kn P w K mg base "is_row" 1 ["value", "many"] spRow := by
  refine .of D (fun _ _ _ _ _ _ us hl => match us, hl with | [_, _], _ => rfl) fun _ _ F => ?_
  refine F.ok scRow (fun vs H Q E h => ?_) (fun cdv A outer s H vs Q E hr h => ?_)
  · obtain ⟨v, d, n, rfl, _⟩ := h
    rfl
  · obtain ⟨v, d, n, rfl, da, k⟩ := h
    refine ⟨_, pss_one (ps_ret (pe_and (pe_callB call_isiT (by rfl) T.isi bIsi (pa_cons (pv 0) (pa_cons (pe_tup (pa_cons (pe_bltn (v := .ty "tuple") rfl T.tuple bTuple rfl) (pa_cons (pe_bltn (v := .ty "list") rfl T.list bList rfl) pa_nil))) pa_nil)))
      (pe_one (pe_cmpR op_eq (pe_callB call_len_seq (by rfl) T.len PySem.boot_len (pa_cons (pv 0) pa_nil)) (pv 1) (nomark _))))), ?_⟩
    refine ⟨_, rfl, (by show 2 ≤ sizeLine; rw [sizeLine_eq]; decide), fun p np => ?_⟩
    have S1 := GG.Stay.new (Stay.refl (H := H)) np (o := .tup [.ty "tuple", .ty "list"])
    have da1 := da.stay S1
    have Sa : Same H (upd H p (.tup [.ty "tuple", .ty "list"])) := GG.Same.new (L2.Same.refl H) np
    refine ⟨v, p, _, _, _, _, rfl, upd_same, .cons (.ty _) (.cons (.ty _) .nil), da1.ty, kit_seq d, _, rfl, ?_⟩
    generalize (upd H p (.tup [.ty "tuple", .ty "list"])) = H1 at S1 da1 Sa ⊢
    cases hs : isSeq d with
    | false =>
      refine iteF ?_
      have e : isRow d n = false := by
        unfold isRow
        rw [seq_none hs]
      rw [e] at k
      exact k H1 Sa
    | true =>
      refine iteT ?_
      obtain ⟨a, xs, ds, rfl, sq, all, hd, hl⟩ := da1.seq (K := K) hs
      refine ⟨_, rfl, a, xs, rfl, sq, _, rfl, rfl, ?_⟩
      have e : isRow d n = decide (V.int (xs.length : Int) = V.int n) := by
        have q : seqOf d = some ds := by rcases hd with rfl | rfl <;> rfl
        unfold isRow
        rw [q, hl]
        show decide ((ds.length : Int) = n) = _
        by_cases z : (ds.length : Int) = n
        · rw [decide_eq_true z, decide_eq_true (by rw [z])]
        · rw [decide_eq_false z, decide_eq_false (fun q => z (V.int.inj q))]
      rw [e] at k
      exact k H1 Sa
theorem scZ : FnScope ["value"] ["value"] (defScope sZ) := ⟨rfl, rfl, rfl, by decide +kernel, rfl, by decide +kernel, by decide +kernel⟩
theorem kn_z {CN : Addr} (D : DefIs K mg "is_from_zero" sZ) (B2 : Kn P w K mg base "is_ratio" 2 ["value"] spRatio) (B4 : KnX P w K mg base "told" 3 ["value", "what"] (spTold CN)) : Kn P w K mg base "is_from_zero" 4 ["value"] spZ := by
  refine .of D (fun _ _ _ _ _ _ us hl => match us, hl with | [_], _ => rfl) fun _ _ F => ?_
  refine F.ok scZ (fun vs H Q E h => ?_) (fun cdv A outer s H vs Q E hr h => ?_)
  · obtain ⟨v, d, rfl, _⟩ := h
    rfl
  · obtain ⟨v, d, rfl, da, sm, k⟩ := h
    have hr2 : Room 2 _ := hr.mono (by decide)
    refine ⟨_, pss_one (ps_ret (pe_and (pe_kn B2 hr2 (pa_cons (pv 0) pa_nil)) (pe_one (pe_cmpR op_ge (pe_ix ix_tup (pe_knX B4 hr LamX.takes0 (E := fun _ _ _ => False) (fun _ _ _ _ z => z) (pa_cons (pv 0) (pa_cons pe_str pa_nil))) pe_int (fun _ _ => rfl)) pe_int (nomark _))))), ?_⟩
    refine ⟨_, rfl, v, d, rfl, da, fun H1 S1 => ⟨_, rfl, ?_⟩⟩
    cases hR : isR d with
    | false =>
      refine iteF ?_
      have e : isZ d = false := by
        unfold isZ
        rw [hR]
        rfl
      rw [e] at k
      exact k H1 S1
    | true =>
      refine iteT ?_
      refine ⟨_, rfl, v, .str "ratio", d, rfl, da.stay (Same.stay S1), sm, fun _ p H2 e2 S2 => ?_, fun z => absurd (hR.symm.trans z) (by decide)⟩
      refine ⟨p, _, _, _, rfl, rfl, .inl (.inl e2), atI_nat (j := 0) rfl, _, _, rfl, rfl, ?_⟩
      have e : isZ d = decide ((ratOf d).1 ≥ 0) := by
        unfold isZ
        rw [hR]
        rfl
      rw [e] at k
      exact k H2 (L2.Same.trans S1 S2)
theorem scPrices : FnScope ["value", "kinds", "item"] ["value", "kinds"] (defScope sPrices) := ⟨rfl, rfl, rfl, by decide +kernel, rfl, by decide +kernel, by decide +kernel⟩
theorem bAll : bootBuiltins "all" = some (.builtin "all") := by decide +kernel
theorem DaAll.get {H : Hp} : ∀ {vs : List V} {ds : List PyData} {i : Nat} {x : V}, DaAll H vs ds → vs[i]? = some x → ∃ d, ds[i]? = some d ∧ Da H x d
  | _, _, _, _, .nil, h => by cases h
  | _, _, 0, _, .cons a t, h => by
    cases h
    exact ⟨_, rfl, a⟩
  | _, _, i + 1, _, .cons a t, h => by
    obtain ⟨d, e, q⟩ := DaAll.get t (by simpa using h)
    exact ⟨d, by simpa using e, q⟩
theorem take_snoc {α : Type} {xs : List α} {i : Nat} {x : α} (h : xs[i]? = some x) : xs.take (i + 1) = xs.take i ++ [x] := by
  obtain ⟨lt, e⟩ := List.getElem?_eq_some_iff.mp h
  rw [List.take_succ_eq_append_getElem lt, e]
theorem kn_prices (D : DefIs K mg "are_prices" sPrices) (za : mg "all" = none) (B : Kn P w K mg base "is_row" 1 ["value", "many"] spRow) (BZ : Kn P w K mg base "is_from_zero" 4 ["value"] spZ) : Kn P w K mg base "are_prices" 5 ["value", "kinds"] spPrices := by
  refine .of D (fun _ _ _ _ _ _ us hl => match us, hl with | [_, _], _ => rfl) fun _ _ F => ?_
  refine F.ok scPrices (fun vs H Q E h => ?_) (fun cdv A outer s H vs Q E hr h => ?_)
  · obtain ⟨v, d, n, rfl, _⟩ := h
    rfl
  · obtain ⟨v, d, n, rfl, da, sm, k⟩ := h
    have hr1 : Room 1 _ := hr.mono (by decide)
    refine ⟨_, pss_one (ps_ret (pe_and (pe_kn B hr1 (pa_cons (pv 0) (pa_cons (pv 1) pa_nil)))
      (pe_one (pe_callB (cr_all rfl) (by rfl) za bAll (pa_cons (pe_lc (own := [("item", 2)]) (g := gName 2) (tt := tYes) rfl scPrices.nd (pi_ei (pv 0)) (blkOk_by (N := ["value", "kinds", "item"]) (sc := defScope sPrices) (by decide +kernel))
        (fun _ _ _ _ _ => pg_name (i := 2) scPrices.nd rfl (.inl rfl)) (fun _ _ _ _ _ => pts_nil) (fun _ _ _ _ _ => pe_kn BZ hr (pa_cons (pv 2) pa_nil))) pa_nil))))), ?_⟩
    refine ⟨_, rfl, _, rfl, v, d, n, rfl, da, fun H1 S1 => ⟨_, rfl, ?_⟩⟩
    have da1 := da.stay (Same.stay S1)
    cases hs : seqOf d with
    | none =>
      have e1 : isRow d n = false := by
        unfold isRow
        rw [hs]
      have e : areP d n = false := by
        unfold areP
        rw [hs]
      rw [e] at k
      rw [e1]
      exact iteF (k H1 S1)
    | some ds =>
      have e1 : isRow d n = decide ((ds.length : Int) = n) := by
        unfold isRow
        rw [hs]
      have e : areP d n = (decide ((ds.length : Int) = n) && ds.all isZ) := by
        unfold areP
        rw [hs]
      unfold smallS at sm
      rw [hs] at sm
      rw [e] at k
      rw [e1]
      refine ite2 (fun z => ?_) (fun z => ?_)
      · rw [z] at k
        obtain ⟨a, xs, rfl, sq, all, hl⟩ := da1.seq2 (K := K) hs
        refine ⟨_, rfl, a, rfl, ?_⟩
        refine lc_ei sq (fun D i H' => Same H1 H' ∧ H' D = some (.lst ((ds.take i).map fun x => V.bl (isZ x)))) (fun D hD => ⟨GG.Same.new (L2.Same.refl H1) hD, upd_same⟩) (fun D hD i H' p => p.1) (fun D hD i x H' hx p => ?_) (fun D hD H' p => ?_)
        · obtain ⟨dx, hdx, dax⟩ := all.get hx
          refine ⟨rfl, ?_⟩
          refine ⟨_, rfl, x, dx, rfl, dax.stay (Same.stay p.1), sm.2 _ (List.mem_of_getElem? hdx), fun H3 S3 => ?_⟩
          have e3 := S3 _ _ p.2
          refine ⟨_, e3, ?_, ?_, ?_⟩
          · rw [List.length_map, List.length_take, sizeLine_eq]
            have := sm.1
            omega
          · intro b o eb
            have nb : b ≠ D := ne_of_none eb hD
            rw [upd_ne nb]
            exact S3 _ _ (p.1 b o eb)
          · rw [upd_same, take_snoc hdx, List.map_append, List.map_cons, List.map_nil]
        · obtain ⟨p1, p2⟩ := p
          have q : xs.length = ds.length := hl
          rw [q, List.take_length] at p2
          refine ⟨D, ds.map isZ, rfl, .inl (.inl (by rw [p2, List.map_map]; rfl)), ?_⟩
          have ea : (ds.map isZ).all id = ds.all isZ := by
            rw [List.all_map]
            rfl
          rw [ea]
          rw [show (true && ds.all isZ) = ds.all isZ from Bool.true_and _] at k
          exact k H' (L2.Same.trans S1 p1)
      · have z' : decide ((ds.length : Int) = n) = false := by
          cases q : decide ((ds.length : Int) = n) with
          | false => rfl
          | true => exact absurd q z
        rw [z'] at k
        exact k H1 S1
theorem scBid : FnScope ["row", "kinds"] ["row", "kinds"] (defScope sBid) := ⟨rfl, rfl, rfl, by decide +kernel, rfl, by decide +kernel, by decide +kernel⟩
theorem kn_bid (D : DefIs K mg "is_bid" sBid) (B : Kn P w K mg base "is_row" 1 ["value", "many"] spRow) (BW : Kn P w K mg base "is_whole" 1 ["value"] spWhole) (BP : Kn P w K mg base "are_prices" 5 ["value", "kinds"] spPrices) : Kn P w K mg base "is_bid" 6 ["row", "kinds"] spBid := by
  refine .of D (fun _ _ _ _ _ _ us hl => match us, hl with | [_, _], _ => rfl) fun _ _ F => ?_
  refine F.ok scBid (fun vs H Q E h => ?_) (fun cdv A outer s H vs Q E hr h => ?_)
  · obtain ⟨v, d, n, rfl, _⟩ := h
    rfl
  · obtain ⟨v, d, n, rfl, da, sm, k⟩ := h
    have hr1 : Room 1 _ := hr.mono (by decide)
    refine ⟨_, pss_one (ps_ret (pe_and (pe_kn B hr1 (pa_cons (pv 0) (pa_cons pe_int pa_nil))) (pe_and (pe_kn BW hr1 (pa_cons (pe_ix ix_any (pv 0) pe_int (fun _ _ => rfl)) pa_nil)) (pe_one (pe_kn BP hr (pa_cons (pe_ix ix_any (pv 0) pe_int (fun _ _ => rfl)) (pa_cons (pv 1) pa_nil))))))), ?_⟩
    refine ⟨_, rfl, v, d, 2, rfl, da, fun H1 S1 => ⟨_, rfl, ?_⟩⟩
    have da1 := da.stay (Same.stay S1)
    have no : isRow d 2 = false → isBid d n = false := fun z => by
      unfold isRow at z
      unfold isBid
      split
      · rename_i q
        rw [q] at z
        simp at z
      · rfl
    cases h2 : isRow d 2 with
    | false =>
      rw [no h2] at k
      exact iteF (k H1 S1)
    | true =>
      refine iteT ?_
      obtain ⟨x, y, hs⟩ : ∃ x y, seqOf d = some [x, y] := by
        unfold isRow at h2
        split at h2
        · rename_i ds q
          have l : ds.length = 2 := by
            have := of_decide_eq_true h2
            omega
          match ds, l with
          | [x, y], _ => exact ⟨x, y, q⟩
        · cases h2
      have eb : isBid d n = (isW x && areP y n) := by
        unfold isBid
        rw [hs]
      unfold smallBid at sm
      rw [hs] at sm
      rw [eb] at k
      obtain ⟨a, xs, rfl, sq, all, hl⟩ := da1.seq2 (K := K) hs
      cases all with
      | @cons x0 xs' _ _ a0 all' =>
        cases all' with
        | @cons x1 xs'' _ _ a1 all'' =>
          cases all''
          have ix : ∀ (n : Nat) (x : V), [x0, x1][n]? = some x → ∀ (Q' : V → Hp → Prop), Q' x H1 → (rIxL K (.ref a) (.int (n : Int)) H1 Q' ∨ rIxT K (.ref a) (.int (n : Int)) H1 Q') := fun n x hx Q' q => by
            rcases sq with sq | sq
            · exact .inl ⟨a, _, _, x, rfl, rfl, sq, atI_nat hx, q⟩
            · exact .inr ⟨a, _, _, x, rfl, rfl, sq, atI_nat hx, q⟩
          refine ⟨_, rfl, ix 0 x0 rfl _ ⟨x0, x, rfl, a0, _, rfl, ?_⟩⟩
          cases hw : isW x with
          | false =>
            rw [hw] at k
            exact iteF (k H1 S1)
          | true =>
            rw [hw] at k
            refine iteT ?_
            exact ⟨_, rfl, ix 1 x1 rfl _ ⟨_, rfl, x1, y, n, rfl, a1, sm, fun H3 S3 => k H3 (L2.Same.trans S1 S3)⟩⟩
end
end GG

namespace GG
open PySem PySem.Spec PyProof.Rows L2
abbrev sBR : Stmt := inClass (topS 6) 0
abbrev sBL : Stmt := inClass (topS 4) 0
/-! ### BadRow, one field -/
def spBR (C : Addr) : Sp := fun vs H Q _ => ∃ (a : Addr) (y : V), vs = [.ref a, y] ∧ H a = some (exo a C none) ∧ ∀ (dx : Addr) (H' : Hp), H dx = none → dx ≠ a → H' a = some (exo a C (some dx)) → H' dx = some (exd dx [("row", y)]) → Keep a H H' → Q .non H'
structure BRTxt (P : Program) (w : World) (K : PySem.W.Frag) (mg : Str → Option Value) (base : Heap) (C : Addr) : Prop where
  m : mg "BadRow" = some (.ref C)
  t : ExT K C
  ini : ∃ fI fd, PySem.W.findIn K (.ref C) "__init__" = some (some (.ref fI)) ∧ PySem.W.typeIn K (.ref fI) = some (.type "function") ∧ Binds K fd ["self", "row"] [] ∧ FnOk P w K mg base CX0 1 fI fd ["self", "row"] (spBR C)
section
variable {P : Program} {w : World} {K : PySem.W.Frag} {mg : Str → Option Value} {base : Heap}
theorem scBR : FnScope ["self", "row"] ["self", "row"] (defScope sBR) := ⟨rfl, rfl, rfl, by decide +kernel, rfl, by decide +kernel, by decide +kernel⟩
theorem br_of {C fI : Addr} {fd : FuncData} (m : mg "BadRow" = some (.ref C)) (t : ExT K C) (n1 : PySem.W.findIn K (.ref C) "row" = some none)
    (i : PySem.W.findIn K (.ref C) "__init__" = some (some (.ref fI))) (ti : PySem.W.typeIn K (.ref fI) = some (.type "function")) (U : Fun K "__init__" "BadRow.__init__" sBR fI fd) : BRTxt P w K mg base C := by
  refine ⟨m, t, fI, fd, i, ti, U.binds fun _ _ _ _ _ _ us hl => match us, hl with | [_, _], _ => rfl, ?_⟩
  refine U.ok scBR (fun vs H Q E h => ?_) (fun cdv A outer s H vs Q E hr h => ?_)
  · obtain ⟨a, y1, rfl, _⟩ := h
    rfl
  · obtain ⟨a, y1, rfl, he, k⟩ := h
    refine ⟨_, pss_one (ps_ost (pv 0) (pv 1)), ?_⟩
    refine ⟨_, rfl, _, rfl, a, C, rfl, t.ox, n1, .inl ⟨he, fun dx hdx ne => ?_⟩⟩
    refine k dx _ hdx ne upd_same (by rw [upd_ne ne, upd_same]) fun b o nb e => ?_
    rw [upd_ne nb, upd_ne (ne_of_none e hdx)]
    exact e
/-- raise BadRow(a): what is left behind the argument -/
theorem raiseBR {C : Addr} {y : V} {H1 : Hp} {R : Value → Option Addr → Hp → Prop} (k : ∀ (d : Addr) (H' : Hp), H' d = some (.xd [("row", y)]) → Same H1 H' → R (.ref C) (some d) H') :
    [y].length ≤ 1000 ∧ ∀ a, H1 a = none → spBR C (.ref a :: ([y] ++ [])) (upd H1 a (exo a C none))
      (fun v H2 => v = .non ∧ ∃ (d : Addr) (fs : List (Str × V)), H2 a = some (exo a C (some d)) ∧ H2 d = some (exd d fs) ∧ H1 d = none ∧ R (.ref C) (some d) (upd (del H2 a) d (.xd fs))) (fun _ _ _ => False) := by
  refine ⟨(by show 1 ≤ 1000; decide), fun a na => ⟨a, y, rfl, upd_same, fun dx H2 hdx ne e1 e2 kp => ⟨rfl, dx, _, e1, e2, ?_, ?_⟩⟩⟩
  · rw [upd_ne ne] at hdx
    exact hdx
  · refine k dx _ upd_same fun b o z => ?_
    have nd : H1 dx = none := by
      rw [upd_ne ne] at hdx
      exact hdx
    rw [upd_ne (ne_of_none z nd), del_ne (ne_of_none z na)]
    exact kp b o (ne_of_none z na) (by rw [upd_ne (ne_of_none z na)]; exact z)
theorem ps_raiseBR {X : Cx} {C : Addr} {W : WX} {e1 : Expr} {ta : TA} {p pos pos2 : Pos} (hc : X.calm = true) (T : BRTxt X.prog X.w X.K X.mg X.base C) (hr : Room 2 X.A) (tk : Takes X W) (ha : PA X [e1] ta) (hg : Gl X "BadRow" := by rfl)
    (he : starEach (e1 :: []) X.env = (false, eval e1 X.env) :: starEach [] X.env := by rfl) (hpl : (backTo pos (starEach [] X.env)).any (·.1) = false := by rfl) :
    PS X (.Raise (some (.Call (.Name "BadRow" p) [e1] [] pos)) none pos2) (fun _ σ H => tMkO C (spBR C) [] ta σ H fun cls d H' => W cls d σ H') := by
  obtain ⟨fI, fd, i, ti, hb, G⟩ := T.ini
  exact ps_raise hc tk (pmk_oex (CX := CX0) T.t.ox i ti G hr hb .nil (fun _ _ _ _ _ _ _ z => z.elim) hg T.m ha (by decide) he hpl)
end
/-- BadLine's __init__ -/
def spBL (C : Addr) : Sp := fun vs H Q _ => ∃ (a : Addr) (y1 y2 : V), vs = [.ref a, y1, y2] ∧ H a = some (exo a C none) ∧ ∀ (dx : Addr) (H' : Hp), H dx = none → dx ≠ a → H' a = some (exo a C (some dx)) → H' dx = some (exd dx [("column", y2), ("line", y1)]) → Keep a H H' → Q .non H'
structure BLTxt (P : Program) (w : World) (K : PySem.W.Frag) (mg : Str → Option Value) (base : Heap) (C : Addr) : Prop where
  m : mg "BadLine" = some (.ref C)
  t : ExT K C
  ini : ∃ fI fd, PySem.W.findIn K (.ref C) "__init__" = some (some (.ref fI)) ∧ PySem.W.typeIn K (.ref fI) = some (.type "function") ∧ Binds K fd ["self", "line", "column"] [] ∧ FnOk P w K mg base CX0 1 fI fd ["self", "line", "column"] (spBL C)
section
variable {P : Program} {w : World} {K : PySem.W.Frag} {mg : Str → Option Value} {base : Heap}
theorem scBL : FnScope ["self", "line", "column"] ["self", "line", "column"] (defScope sBL) := ⟨rfl, rfl, rfl, by decide +kernel, rfl, by decide +kernel, by decide +kernel⟩
theorem bl_of {C fI : Addr} {fd : FuncData} (m : mg "BadLine" = some (.ref C)) (t : ExT K C) (n1 : PySem.W.findIn K (.ref C) "line" = some none) (n2 : PySem.W.findIn K (.ref C) "column" = some none)
    (i : PySem.W.findIn K (.ref C) "__init__" = some (some (.ref fI))) (ti : PySem.W.typeIn K (.ref fI) = some (.type "function")) (U : Fun K "__init__" "BadLine.__init__" sBL fI fd) : BLTxt P w K mg base C := by
  refine ⟨m, t, fI, fd, i, ti, U.binds fun _ _ _ _ _ _ us hl => match us, hl with | [_, _, _], _ => rfl, ?_⟩
  refine U.ok scBL (fun vs H Q E h => ?_) (fun cdv A outer s H vs Q E hr h => ?_)
  · obtain ⟨a, y1, y2, rfl, _⟩ := h
    rfl
  · obtain ⟨a, y1, y2, rfl, he, k⟩ := h
    refine ⟨_, pss_cons (ps_ost (pv 0) (pv 1)) (pss_one (ps_ost (pv 0) (pv 2))), ?_⟩
    refine ⟨_, rfl, _, rfl, a, C, rfl, t.ox, n1, .inl ⟨he, fun dx hdx ne => ?_⟩⟩
    refine ⟨_, rfl, _, rfl, a, C, rfl, t.ox, n2, .inr ⟨dx, [("line", y1)], upd_same, by rw [upd_ne ne, upd_same], (by show 1 ≤ 900; decide), ?_⟩⟩
    refine k dx _ hdx ne (by rw [upd_ne ne.symm, upd_same]) upd_same fun b o nb e => ?_
    rw [upd_ne (ne_of_none e hdx), upd_ne nb, upd_ne (ne_of_none e hdx)]
    exact e
/-- raise BadLine(a, b): what is left behind the arguments -/
theorem raiseBL {C : Addr} {y1 y2 : V} {H1 : Hp} {R : Value → Option Addr → Hp → Prop} (k : ∀ (d : Addr) (H' : Hp), H' d = some (.xd [("column", y2), ("line", y1)]) → Same H1 H' → R (.ref C) (some d) H') :
    [y1, y2].length ≤ 1000 ∧ ∀ a, H1 a = none → spBL C (.ref a :: ([y1, y2] ++ [])) (upd H1 a (exo a C none))
      (fun v H2 => v = .non ∧ ∃ (d : Addr) (fs : List (Str × V)), H2 a = some (exo a C (some d)) ∧ H2 d = some (exd d fs) ∧ H1 d = none ∧ R (.ref C) (some d) (upd (del H2 a) d (.xd fs))) (fun _ _ _ => False) := by
  refine ⟨(by show 2 ≤ 1000; decide), fun a na => ⟨a, y1, y2, rfl, upd_same, fun dx H2 hdx ne e1 e2 kp => ⟨rfl, dx, _, e1, e2, ?_, ?_⟩⟩⟩
  · rw [upd_ne ne] at hdx
    exact hdx
  · refine k dx _ upd_same fun b o z => ?_
    have nd : H1 dx = none := by
      rw [upd_ne ne] at hdx
      exact hdx
    rw [upd_ne (ne_of_none z nd), del_ne (ne_of_none z na)]
    exact kp b o (ne_of_none z na) (by rw [upd_ne (ne_of_none z na)]; exact z)
theorem ps_raiseBL {X : Cx} {C : Addr} {W : WX} {e1 e2 : Expr} {ta : TA} {p pos pos2 : Pos} (hc : X.calm = true) (T : BLTxt X.prog X.w X.K X.mg X.base C) (hr : Room 2 X.A) (tk : Takes X W) (ha : PA X [e1, e2] ta) (hg : Gl X "BadLine" := by rfl)
    (he : starEach (e1 :: [e2]) X.env = (false, eval e1 X.env) :: starEach [e2] X.env := by rfl) (hpl : (backTo pos (starEach [e2] X.env)).any (·.1) = false := by rfl) :
    PS X (.Raise (some (.Call (.Name "BadLine" p) [e1, e2] [] pos)) none pos2) (fun _ σ H => tMkO C (spBL C) [] ta σ H fun cls d H' => W cls d σ H') := by
  obtain ⟨fI, fd, i, ti, hb, G⟩ := T.ini
  exact ps_raise hc tk (pmk_oex (CX := CX0) T.t.ox i ti G hr hb .nil (fun _ _ _ _ _ _ _ z => z.elim) hg T.m ha (by decide) he hpl)
end
end GG

namespace GG
open PySem PySem.Spec PyProof.Rows L2
abbrev sCK : Stmt := topS 34
abbrev sPlain : Stmt := topS 36
def okK : PyData → Bool
  | .int i => decide (1 ≤ i) && decide (i ≤ 3)
  | _ => false
def spCK (CN : Addr) : Sp := fun vs H Q E => ∃ v d, vs = [v] ∧ Da H v d ∧ (okK d = true → Q .non H) ∧ (okK d = false → ∀ dd H', H' dd = some (.xd [("number", v), ("what", .str "kinds")]) → Same H H' → E (.ref CN) (some dd) H')
def kOf (d : PyData) : NestedKey := .tup [.num (ratOf d).1, .num (ratOf d).2]
def spToldR : Sp := fun vs H Q _ => ∃ v d ds, vs = [v] ∧ Da H v d ∧ seqOf d = some ds ∧ smallS d ∧ (∀ x ∈ ds, isR x = true) ∧ ∀ p xs H', H' p = some (.tup xs) → NKs H' xs (ds.map kOf) → Same H H' → Q (.ref p) H'
section
variable {P : Program} {w : World} {K : PySem.W.Frag} {mg : Str → Option Value} {base : Heap}
theorem scCK : FnScope ["kinds"] ["kinds"] (defScope sCK) := ⟨rfl, rfl, rfl, by decide +kernel, rfl, by decide +kernel, by decide +kernel⟩
theorem kn_ck {CN : Addr} (D : DefIs K mg "check_kinds" sCK) (N : BNTxt P w K mg base CN) (BW : Kn P w K mg base "is_whole" 1 ["value"] spWhole) : KnX P w K mg base "check_kinds" 3 ["kinds"] (spCK CN) := by
  refine .of D (fun _ _ _ _ _ _ us hl => match us, hl with | [_], _ => rfl) fun _ _ F => ?_
  refine F.okX scCK (fun vs H Q E h => ?_) (fun cdv A outer s H vs Q E hr h => ?_)
  · obtain ⟨v, d, rfl, _⟩ := h
    rfl
  · obtain ⟨v, d, rfl, da, kQ, kE⟩ := h
    have hr1 : Room 1 _ := hr.mono (by decide)
    refine ⟨_, pss_one (ps_if (PW.pt (pw_or (pt_not (pt_val (pe_kn BW hr1 (pa_cons (pv 0) pa_nil)))) (pw_or1 (pt_not (pt_chain op_le op_le pe_int (pv 0) pe_int)))))
      (pss_one (ps_raiseBN rfl N hr (takes_of rfl rfl rfl rfl) (pa_cons pe_str (pa_cons (pv 0) pa_nil)))) pss_nil), ?_⟩
    refine ⟨_, rfl, v, d, rfl, da, _, rfl, ?_⟩
    cases hw : isW d with
    | false =>
      refine iteT ?_
      have z : okK d = false := by cases d <;> first | rfl | cases hw
      exact ⟨_, rfl, raiseBN fun dd H' e S' => kE z dd H' e S'⟩
    | true =>
      refine iteF ?_
      cases d with
      | int i =>
        cases da
        have e : okK (.int i) = (decide (1 ≤ i) && decide (i ≤ 3)) := rfl
        refine ⟨_, rfl, _, _, rfl, rfl, _, rfl, ?_⟩
        by_cases h1 : (1 : Int) ≤ i
        · rw [if_pos (decide_eq_true h1)]
          refine ⟨_, _, rfl, rfl, _, rfl, ?_⟩
          by_cases h3 : i ≤ 3
          · rw [decide_eq_true h3]
            refine iteF ?_
            exact kQ (by rw [e, decide_eq_true h1, decide_eq_true h3]; rfl)
          · rw [decide_eq_false h3]
            refine iteT ?_
            have z : okK (.int i) = false := by rw [e, decide_eq_false h3, Bool.and_false]
            exact ⟨_, rfl, raiseBN fun dd H' e S' => kE z dd H' e S'⟩
        · rw [if_neg (by rw [decide_eq_false h1]; decide)]
          refine ⟨_, rfl, ?_⟩
          refine iteT ?_
          have z : okK (.int i) = false := by rw [e, decide_eq_false h1, Bool.false_and]
          exact ⟨_, rfl, raiseBN fun dd H' e S' => kE z dd H' e S'⟩
      | _ => cases hw
theorem scToldR : FnScope ["row", "item"] ["row"] (defScope sToldR) := ⟨rfl, rfl, rfl, by decide +kernel, rfl, by decide +kernel, by decide +kernel⟩
theorem kn_toldR {CN : Addr} (D : DefIs K mg "told_row" sToldR) (T : RTxt K mg) (B4 : KnX P w K mg base "told" 3 ["value", "what"] (spTold CN)) : Kn P w K mg base "told_row" 4 ["row"] spToldR := by
  refine .of D (fun _ _ _ _ _ _ us hl => match us, hl with | [_], _ => rfl) fun _ _ F => ?_
  refine F.ok scToldR (fun vs H Q E h => ?_) (fun cdv A outer s H vs Q E hr h => ?_)
  · obtain ⟨v, d, ds, rfl, _⟩ := h
    rfl
  · obtain ⟨v, d, ds, rfl, da, hs, sm, ra, k⟩ := h
    refine ⟨_, pss_one (ps_ret (pe_callTy call_tuple_of (by rfl) T.tuple bTuple (pa_cons (pe_lc (own := [("item", 1)]) (g := gName 1) (tt := tYes) rfl scToldR.nd (pi_ei (pv 0)) (blkOk_by (N := ["row", "item"]) (sc := defScope sToldR) (by decide +kernel))
        (fun _ _ _ _ _ => pg_name (i := 1) scToldR.nd rfl (.inl rfl)) (fun _ _ _ _ _ => pts_nil) (fun _ _ _ _ _ => pe_knX B4 hr LamX.takes0 (E := fun _ _ _ => False) (fun _ _ _ _ z => z) (pa_cons (pv 1) (pa_cons pe_str pa_nil)))) pa_nil))), ?_⟩
    unfold smallS at sm
    rw [hs] at sm
    obtain ⟨a, xs, rfl, sq, all, hl⟩ := da.seq2 (K := K) hs
    refine ⟨_, rfl, a, rfl, ?_⟩
    refine lc_ei sq (fun D i H' => Same H H' ∧ ∃ acc, H' D = some (.lst acc) ∧ acc.length = i ∧ NKs H' acc ((ds.take i).map kOf)) (fun D hD => ⟨GG.Same.new (L2.Same.refl H) hD, [], upd_same, rfl, .nil⟩) (fun D hD i H' p => p.1) (fun D hD i x H' hx p => ?_) (fun D hD H' p => ?_)
    · obtain ⟨dx, hdx, dax⟩ := all.get hx
      obtain ⟨S, acc, eD, la, nk⟩ := p
      have mem := List.mem_of_getElem? hdx
      refine ⟨rfl, ?_⟩
      refine ⟨_, rfl, x, .str "ratio", dx, rfl, dax.stay (Same.stay S), sm.2 _ mem, fun _ q H3 e3 S3 => ?_, fun z => absurd ((ra _ mem).symm.trans z) (by decide)⟩
      have eD3 := S3 _ _ eD
      have noT : ∀ ys, H3 D ≠ some (.tup ys) := fun ys z => by
        rw [eD3] at z
        cases z
      refine ⟨acc, eD3, ?_, ?_, acc ++ [.ref q], upd_same, ?_, ?_⟩
      · have l1 : i < xs.length := (List.getElem?_eq_some_iff.mp hx).1
        have := sm.1
        rw [la, sizeLine_eq]
        omega
      · intro b o eb
        rw [upd_ne (ne_of_none eb hD)]
        exact S3 _ _ (S b o eb)
      · rw [List.length_append, la]
        rfl
      · rw [take_snoc hdx, List.map_append, List.map_cons, List.map_nil]
        exact NKs.snoc ((NK.tup e3 (.cons (.int _) (.cons (.int _) .nil))).ext noT) ((nk.same S3).ext noT)
    · obtain ⟨S, acc, eD, la, nk⟩ := p
      rw [hl, List.take_length] at nk
      refine ⟨D, acc, rfl, .inl ⟨.inl (.inl eD), fun l nl => ?_⟩⟩
      have S' := GG.Same.new (o := .tup acc) (L2.Same.refl H') nl
      exact k l acc _ upd_same (nk.same S') (L2.Same.trans S S')
end
end GG

namespace GG
open PySem PySem.Spec PyProof.Rows L2
/-- rows of which the first one that is no bid stands behind n like ones -/
def spPlain (CR : Addr) : Sp := fun vs H Q E => ∃ (kinds : Int) (g : Addr) (n : Nat) (good odd : V) (rest : List V) (dg d : PyData), vs = [.int kinds, .ref g] ∧ H g = some (.lst (List.replicate n good ++ odd :: rest)) ∧ n ≤ 1000 ∧
  Da H good dg ∧ isBid dg kinds = true ∧ smallBid dg ∧ Da H odd d ∧ isBid d kinds = false ∧ smallBid d ∧ ∀ dd H', H' dd = some (.xd [("row", odd)]) → Same H H' → E (.ref CR) (some dd) H'
theorem bid_shape {d : PyData} {n : Int} (h : isBid d n = true) : ∃ m y ds, seqOf d = some [.int m, y] ∧ seqOf y = some ds ∧ ∀ x ∈ ds, isR x = true := by
  unfold isBid at h
  split at h
  · rename_i x y e
    rw [Bool.and_eq_true] at h
    obtain ⟨hx, hy⟩ := h
    cases x with
    | int m =>
      unfold areP at hy
      split at hy
      · rename_i ds e2
        rw [Bool.and_eq_true] at hy
        refine ⟨m, y, ds, e, e2, fun x hx => ?_⟩
        have z := List.all_eq_true.mp hy.2 x hx
        unfold isZ at z
        rw [Bool.and_eq_true] at z
        exact z.1
      · cases hy
    | _ => cases hx
  · cases h
theorem depth_k : ∀ ds : List PyData, NestedKey.depthAll (ds.map kOf) ≤ 1
  | [] => by simp [NestedKey.depthAll]
  | d :: ds => by
    have h := depth_k ds
    rw [List.map_cons]
    unfold NestedKey.depthAll
    have e : (kOf d).depth = 1 := rfl
    rw [e]
    omega
section
variable {P : Program} {w : World} {K : PySem.W.Frag} {mg : Str → Option Value} {base : Heap}
theorem scPlain : FnScope ["kinds", "rows", "weights", "row", "numbers", "kept"] ["kinds", "rows"] (defScope sPlain) := ⟨rfl, rfl, rfl, by decide +kernel, rfl, by decide +kernel, by decide +kernel⟩
theorem kn_plain {CR : Addr} (D : DefIs K mg "plain_rows" sPlain) (R : BRTxt P w K mg base CR) (B : Kn P w K mg base "is_bid" 6 ["row", "kinds"] spBid) (BT : Kn P w K mg base "told_row" 4 ["row"] spToldR) : KnX P w K mg base "plain_rows" 7 ["kinds", "rows"] (spPlain CR) := by
  refine .of D (fun _ _ _ _ _ _ us hl => match us, hl with | [_, _], _ => rfl) fun fa fd F => ?_
  refine F.okX scPlain (fun vs H Q E h => ?_) (fun cdv A outer s H vs Q E hr h => ?_)
  · obtain ⟨kinds, g, n, good, odd, rest, dg, d, rfl, _⟩ := h
    rfl
  · obtain ⟨kinds, g, n, good, odd, rest, dg, d, rfl, eg, n9, ag, bg, sg, ao, bo, so, k⟩ := h
    have hr2 : Room 2 _ := hr.mono (by decide)
    have hr4 : Room 4 _ := hr.mono (by decide)
    have hu := hu_of hr
    have hu10 : (A.deeper (envOfC "plain_rows" (defScope sPlain) s.heap.objs.size fa cdv)).units + 10 < cLine := by have := hr.un; omega
    refine ⟨_, pss_cons (ps_set (i := 2) scPlain.nd rfl (by first | exact .inl rfl | exact .inr rfl) pe_nnew)
      (pss_cons (ps_for PassesOwn.leaving rfl (pi_list (pv 1)) (pg_name (i := 3) scPlain.nd rfl (.inl rfl))
        (pss_cons (ps_if (pt_not (pt_val (pe_kn B hr (pa_cons (pv 3) (pa_cons (pv 0) pa_nil))))) (pss_one (ps_raiseBR rfl R hr2 (takes_of rfl rfl rfl rfl) (pa_cons (pv 3) pa_nil))) pss_nil)
        (pss_cons (ps_set (i := 4) scPlain.nd rfl (.inl rfl) (pe_kn BT hr4 (pa_cons (pe_ix ix_any (pv 3) pe_int (fun _ _ => rfl)) pa_nil)))
        (pss_one (ps_nput hu10 (pv 2) (pv 4) (pe_op op_add (pe_nget2 hu10 (pv 2) (pv 4) pe_int ⟨rfl, rfl, rfl, rfl⟩) (pe_ix ix_any (pv 3) pe_int (fun _ _ => rfl))) rfl)))))
      pss_never), ?_⟩
    intro wd nwd N0
    have S0 : Same H (upd H wd (.ext (ndP P w wd []))) := GG.Same.new (L2.Same.refl H) nwd
    refine ⟨_, rfl, g, rfl, ⟨_, SqL.of (S0 _ _ eg)⟩, for_list (xs := List.replicate n good ++ odd :: rest) (fun i σ H' => i ≤ n ∧ ∃ (kvs : List NE) (v3 v4 : Option V), σ = [some (.int kinds), some (.ref g), some (.ref wd), v3, v4, none] ∧ Same H H' ∧ ND P w H' wd kvs ∧ kvs.length ≤ i ∧ ∀ e ∈ kvs, ∃ z : Int, e.2.2 = .int z)
      ⟨Nat.zero_le _, [], none, none, rfl, S0, N0, Nat.le_refl _, fun e he => (nomatch he)⟩ (fun i σ H' _ p => ?_) (fun i x σ H' hx p => ?_) (fun σ H' p => ?_)⟩
    · obtain ⟨_, kvs, v3, v4, _, S, _⟩ := p
      exact SqL.of (S _ _ eg)
    · obtain ⟨hi, kvs, v3, v4, rfl, S, N, lk, intz⟩ := p
      by_cases q : i = n
      · -- the row that is no bid
        have ex : x = odd := by
          rw [q, List.getElem?_append_right (by rw [List.length_replicate]; exact Nat.le_refl _), List.length_replicate, Nat.sub_self] at hx
          exact (Option.some.inj hx).symm
        subst ex
        refine ⟨_, rfl, _, rfl, x, d, kinds, rfl, ao.stay (Same.stay S), so, fun H1 S1 => ⟨_, rfl, ?_⟩⟩
        rw [bo]
        refine iteT ?_
        exact ⟨_, rfl, raiseBR fun dd H2 e2 S2 => k dd H2 e2 (L2.Same.trans S (L2.Same.trans S1 S2))⟩
      · have lt : i < n := by omega
        have ex : x = good := by
          rw [List.getElem?_append_left (by rw [List.length_replicate]; exact lt), List.getElem?_replicate, if_pos lt] at hx
          exact (Option.some.inj hx).symm
        subst ex
        refine ⟨_, rfl, _, rfl, x, dg, kinds, rfl, ag.stay (Same.stay S), sg, fun H1 S1 => ⟨_, rfl, ?_⟩⟩
        rw [bg]
        refine iteF ?_
        obtain ⟨m, y, ds, s1, s2, ra⟩ := bid_shape bg
        have S01 := L2.Same.trans S S1
        have ag1 := ag.stay (Same.stay S01)
        unfold smallBid at sg
        rw [s1] at sg
        obtain ⟨a, xs, rfl, sq, all, hl⟩ := ag1.seq2 (K := K) s1
        cases all with
        | @cons x0 xs' _ _ a0 all' =>
        cases all' with
        | @cons x1 xs'' _ _ a1 all'' =>
        cases all''
        cases a0
        have ix : ∀ (G : Hp), Same H1 G → ∀ (n : Nat) (x : V), [V.int m, x1][n]? = some x → ∀ (Q' : V → Hp → Prop), Q' x G → (rIxL K (.ref a) (.int (n : Int)) G Q' ∨ rIxT K (.ref a) (.int (n : Int)) G Q') := fun G SG n x hx Q' q => by
          rcases sq with sq | sq
          · exact .inl ⟨a, _, _, x, rfl, rfl, SqL.sm SG sq, atI_nat hx, q⟩
          · exact .inr ⟨a, _, _, x, rfl, rfl, SqT.sm SG sq, atI_nat hx, q⟩
        refine ⟨_, rfl, ix H1 (L2.Same.refl H1) 1 x1 rfl _ ⟨x1, y, ds, rfl, a1, s2, sg, ra, fun p ks H2 e2 nk S2 => ?_⟩⟩
        have N2 := (N.same S1).same S2
        have key : NK H2 (.ref p) (.tup (ds.map kOf)) := .tup e2 nk
        have dk : (NestedKey.tup (ds.map kOf)).depth ≤ 8 := by
          have := depth_k ds
          unfold NestedKey.depth
          omega
        refine ⟨_, rfl, wd, rfl, ⟨kvs, N2⟩, _, rfl, kvs, _, p, N2, rfl, key, dk, ?_⟩
        obtain ⟨z, hz⟩ : ∃ z : Int, (atN kvs (.tup (ds.map kOf))).getD (.int 0) = .int z := by
          cases e : atN kvs (.tup (ds.map kOf)) with
          | none => exact ⟨0, rfl⟩
          | some v =>
            unfold atN at e
            obtain ⟨en, hen, rfl⟩ := Option.map_eq_some_iff.mp e
            obtain ⟨z, hz⟩ := intz en (List.mem_of_find?_eq_some hen)
            exact ⟨z, hz⟩
        rw [hz]
        refine ⟨_, rfl, ix H2 S2 0 (.int m) rfl _ ⟨_, _, rfl, rfl, _, rfl, _, rfl, wd, kvs, _, p, rfl, N2, ?_, rfl, key, dk, fun N3 => ?_⟩⟩
        · rw [sizeLine_eq]
          omega
        · refine ⟨lt, _, _, _, rfl, ?_, N3, Nat.le_trans (putN_len _ _ _ _) (by omega), ?_⟩
          · intro b o eb
            rw [upd_ne (ne_of_none eb nwd)]
            exact S2 _ _ (S01 b o eb)
          · intro e he
            unfold putN at he
            split at he
            · obtain ⟨x, hx, rfl⟩ := List.mem_map.mp he
              split
              · exact ⟨_, rfl⟩
              · exact intz x hx
            · rcases List.mem_append.mp he with q | q
              · exact intz e q
              · rw [List.mem_singleton.mp q]
                exact ⟨_, rfl⟩
    · obtain ⟨hi, _⟩ := p
      rw [List.length_append, List.length_replicate, List.length_cons] at hi
      omega
end
end GG

namespace GG
open PySem PySem.Spec PyProof.Rows L2
abbrev sInit : Stmt := inClass (topS 33) 0
abbrev sBOf : Stmt := topS 39
mutual
theorem Da.mv {H H' : Hp} (k : ∀ b o, H b = some o → (∀ C dx fs, o ≠ .ins C dx fs) → H' b = some o) : ∀ {v : V} {d : PyData}, Da H v d → Da H' v d
  | _, _, .non => .non
  | _, _, .bl b => .bl b
  | _, _, .int i => .int i
  | _, _, .str x => .str x
  | _, _, .lst e n t => .lst (k _ _ e (fun _ _ _ z => by cases z)) n (t.mv k)
  | _, _, .tup e t => .tup (k _ _ e (fun _ _ _ z => by cases z)) (t.mv k)
  | _, _, .dic e t => .dic (k _ _ e (fun _ _ _ z => by cases z)) (t.mv k)
  | _, _, .dic2 e => .dic2 (k _ _ e (fun _ _ _ z => by cases z))
theorem DaAll.mv {H H' : Hp} (k : ∀ b o, H b = some o → (∀ C dx fs, o ≠ .ins C dx fs) → H' b = some o) : ∀ {vs : List V} {ds : List PyData}, DaAll H vs ds → DaAll H' vs ds
  | _, _, .nil => .nil
  | _, _, .cons h t => .cons (h.mv k) (t.mv k)
end
/-- rows as plain_rows is asked of -/
def Odd (H : Hp) (kinds : Int) (g : Addr) (odd : V) : Prop := ∃ (n : Nat) (good : V) (rest : List V) (dg d : PyData), H g = some (.lst (List.replicate n good ++ odd :: rest)) ∧ n ≤ 1000 ∧ Da H good dg ∧ isBid dg kinds = true ∧ smallBid dg ∧ Da H odd d ∧ isBid d kinds = false ∧ smallBid d
theorem Odd.mv {H H' : Hp} {kinds : Int} {g : Addr} {odd : V} (k : ∀ b o, H b = some o → (∀ C dx fs, o ≠ .ins C dx fs) → H' b = some o) (h : Odd H kinds g odd) : Odd H' kinds g odd := by
  obtain ⟨n, good, rest, dg, d, e, n9, a1, b1, c1, a2, b2, c2⟩ := h
  exact ⟨n, good, rest, dg, d, k _ _ e (fun _ _ _ z => by cases z), n9, a1.mv k, b1, c1, a2.mv k, b2, c2⟩
def spInit (C CN CR : Addr) : Sp := fun vs H Q E => ∃ (x dx : Addr) (v gv : V), vs = [.ref x, v, gv] ∧ H x = some (.ins C dx []) ∧
  ((∃ d, Da H v d ∧ okK d = false ∧ ∀ dd H', H' dd = some (.xd [("number", v), ("what", .str "kinds")]) → Keep x H H' → E (.ref CN) (some dd) H') ∨
    (∃ (kinds : Int) (g : Addr) (odd : V), v = .int kinds ∧ gv = .ref g ∧ okK (.int kinds) = true ∧ Odd H kinds g odd ∧ ∀ dd H', H' dd = some (.xd [("row", odd)]) → Keep x H H' → E (.ref CR) (some dd) H'))
structure BiTxt (P : Program) (w : World) (K : PySem.W.Frag) (mg : Str → Option Value) (base : Heap) (C CN CR : Addr) : Prop where
  m : mg "Bids" = some (.ref C)
  ini : ∃ fI fd, Mk K C fI ∧ Binds K fd ["self", "kinds", "rows"] [] ∧ FnOk P w K mg base (L2.CX P w) 8 fI fd ["self", "kinds", "rows"] (spInit C CN CR)
def isS : PyData → Bool
  | .str _ => true
  | _ => false
theorem kit_str {K : PySem.W.Frag} (d : PyData) : PySem.W.kitOne K (.type (tyD d)) (.type "str") = some (isS d) := by
  cases d <;> exact kit_ty (by kernel_rfl)
def spBOf (CN C2 : Addr) : Sp := fun vs H Q E => ∃ (v t : V) (d dt : PyData), vs = [v, t] ∧ Da H v d ∧ Da H t dt ∧ isS dt = false ∧
  (okK d = false → ∀ dd H', H' dd = some (.xd [("number", v), ("what", .str "kinds")]) → Same H H' → E (.ref CN) (some dd) H') ∧
  (okK d = true → ∀ dd H', H' dd = some (.xd [("column", .int 0), ("line", .int 0)]) → Same H H' → E (.ref C2) (some dd) H')
section
variable {P : Program} {w : World} {K : PySem.W.Frag} {mg : Str → Option Value} {base : Heap}
theorem scInit : FnScope ["self", "kinds", "rows"] ["self", "kinds", "rows"] (defScope sInit) := ⟨rfl, rfl, rfl, by decide +kernel, rfl, by decide +kernel, by decide +kernel⟩
theorem bi_of {C CN CR fI : Addr} {fd : FuncData} (m : mg "Bids" = some (.ref C)) (M : Mk K C fI) (cl : Cls K C) (n1 : NoAttr K C "kinds") (U : Fun K "__init__" "Bids.__init__" sInit fI fd)
    (CK : KnX P w K mg base "check_kinds" 3 ["kinds"] (spCK CN)) (PL : KnX P w K mg base "plain_rows" 7 ["kinds", "rows"] (spPlain CR)) : BiTxt P w K mg base C CN CR := by
  refine ⟨m, fI, fd, M, U.binds fun _ _ _ _ _ _ us hl => match us, hl with | [_, _, _], _ => rfl, ?_⟩
  refine U.okX scInit (fun vs H Q E h => ?_) (fun cdv A outer s H vs Q E hr h => ?_)
  · obtain ⟨x, dx, v, gv, rfl, _⟩ := h
    rfl
  · obtain ⟨x, dx, v, gv, rfl, ex, h⟩ := h
    have hr3 : Room 3 _ := hr.mono (by decide)
    refine ⟨_, pss_cons (ps_expr (pe_knX CK hr3 (takes_of rfl rfl rfl rfl) (fun _ _ _ _ z => z) (pa_cons (pv 1) pa_nil)))
      (pss_cons (ps_fld (pv 0) (pv 1) rfl)
      (pss_one (ps_fld (pv 0) (pe_knX PL hr (takes_of rfl rfl rfl rfl) (fun _ _ _ _ z => z) (pa_cons (pv 1) (pa_cons (pv 2) pa_nil))) rfl))), ?_⟩
    rcases h with ⟨d, da, bad, k⟩ | ⟨kinds, g, odd, rfl, rfl, ok, od, k⟩
    · exact ⟨_, rfl, v, d, rfl, da, fun z => absurd (bad.symm.trans z) (by decide), fun _ dd H' e S => k dd H' e fun b o _ q => S b o q⟩
    · refine ⟨_, rfl, .int kinds, .int kinds, rfl, .int _, fun _ => ?_, fun z => absurd (ok.symm.trans z) (by decide)⟩
      refine ⟨_, rfl, _, rfl, x, C, dx, [], rfl, ex, cl, n1, (by show 0 < 1000; decide), ?_⟩
      have mv : ∀ b o, H b = some o → (∀ C dx fs, o ≠ .ins C dx fs) → upd H x (.ins C dx (putF "kinds" (.int kinds) [])) b = some o := fun b o q ne => by
        rw [upd_ne (fun z => by
          rw [z, ex] at q
          exact ne _ _ _ (Option.some.inj q).symm)]
        exact q
      obtain ⟨n, good, rest, dg, d, e, n9, a1, b1, c1, a2, b2, c2⟩ := od.mv mv
      refine ⟨_, rfl, _, rfl, kinds, g, n, good, odd, rest, dg, d, rfl, e, n9, a1, b1, c1, a2, b2, c2, fun dd H' ed S => k dd H' ed fun b o nb q => S b o (by rw [upd_ne nb]; exact q)⟩
theorem scBOf : FnScope ["kinds", "text", "rows", "at", "line"] ["kinds", "text"] (defScope sBOf) := ⟨rfl, rfl, rfl, by decide +kernel, rfl, by decide +kernel, by decide +kernel⟩
theorem bStr' : bootBuiltins "str" = some (.type "str") := by decide +kernel
theorem kn_bof {CN C2 : Addr} (D : DefIs K mg "bids_of" sBOf) (T : RTxt K mg) (zs : mg "str" = none) (L : BLTxt P w K mg base C2) (CK : KnX P w K mg base "check_kinds" 3 ["kinds"] (spCK CN)) : KnX P w K mg base "bids_of" 4 ["kinds", "text"] (spBOf CN C2) := by
  refine .of D (fun _ _ _ _ _ _ us hl => match us, hl with | [_, _], _ => rfl) fun _ _ F => ?_
  refine F.okX scBOf (fun vs H Q E h => ?_) (fun cdv A outer s H vs Q E hr h => ?_)
  · obtain ⟨v, t, d, dt, rfl, _⟩ := h
    rfl
  · obtain ⟨v, t, d, dt, rfl, da, dt', ns, k1, k2⟩ := h
    have hr2 : Room 2 _ := hr.mono (by decide)
    refine ⟨_, pss_cons (ps_expr (pe_knX CK hr (takes_of rfl rfl rfl rfl) (fun _ _ _ _ z => z) (pa_cons (pv 0) pa_nil)))
      (pss_cons (ps_if (pt_not (pt_val (pe_callB call_isi (by rfl) T.isi bIsi (pa_cons (pv 1) (pa_cons (pe_bltn (v := .ty "str") rfl zs bStr' rfl) pa_nil))))) (pss_one (ps_raiseBL rfl L hr2 (takes_of rfl rfl rfl rfl) (pa_cons pe_int (pa_cons pe_int pa_nil)))) pss_nil)
      pss_never), ?_⟩
    refine ⟨_, rfl, v, d, rfl, da, fun ok => ?_, k1⟩
    refine ⟨_, rfl, t, .ty "str", _, _, _, rfl, .ty _, dt'.ty, kit_str dt, _, rfl, ?_⟩
    rw [ns]
    refine iteT ?_
    exact raiseBL fun dd H' e S => k2 ok dd H' e S
end
end GG

namespace GG
open PySem PySem.Spec PyProof.Rows L2 LamX
/-! ### _law_why, of calls that raise BadLine, BadNumber, BadRow -/
def RepL (d : PyData) : Prop := d.showable = true ∧ d.depth ≤ 60 ∧ d.shown.length ≤ sizeLine
structure WTxt3 (K : PySem.W.Frag) (C1 C2 CN C4 : Addr) : Prop where
  t2 : ExT K C2
  l1 : PySem.W.findIn K (.ref C2) "line" = some none
  l2 : PySem.W.findIn K (.ref C2) "column" = some none
  t4 : ExT K C4
  r1 : PySem.W.findIn K (.ref C4) "row" = some none
  a1 : PySem.W.exmOne K (.ref C2) (.ref C1) = some false
  a2 : PySem.W.exmOne K (.ref C2) (.ref C2) = some true
  b1 : PySem.W.exmOne K (.ref C4) (.ref C1) = some false
  b2 : PySem.W.exmOne K (.ref C4) (.ref C2) = some false
  b3 : PySem.W.exmOne K (.ref C4) (.ref CN) = some false
  b4 : PySem.W.exmOne K (.ref C4) (.ref C4) = some true
def TWhy3 (C2 CN C4 : Addr) : (XK → Hp → VK → Prop) → Hp → VK → Prop := fun tl H Q =>
  tl (fun cls d H' => (cls = .ref C2 ∧ ∃ (dd : Addr) (y1 y2 : V), d = some dd ∧ H' dd = some (.xd [("column", y2), ("line", y1)]) ∧ ∀ (p : Addr) (H'' : Hp), H'' p = some (.tup [.str "line", y1, y2]) → Same H' H'' → Q (.ref p) H'') ∨
    (cls = .ref CN ∧ ∃ (dd : Addr) (v wv : V) (dv : PyData), d = some dd ∧ H' dd = some (.xd [("number", v), ("what", wv)]) ∧ Da H' v dv ∧ RepL dv ∧
      ∀ (p : Addr) (H'' : Hp), H'' p = some (.tup [.str "number", wv, .str dv.shown]) → Same H' H'' → Q (.ref p) H'') ∨
    (cls = .ref C4 ∧ ∃ (dd : Addr) (v : V) (dv : PyData), d = some dd ∧ H' dd = some (.xd [("row", v)]) ∧ Da H' v dv ∧ RepL dv ∧
      ∀ (p : Addr) (H'' : Hp), H'' p = some (.tup [.str "row", .str dv.shown]) → Same H' H'' → Q (.ref p) H'')) H (fun _ H' => Q .non H')
theorem why_gives3 {X : Cx} {g CN C1 C2 C4 C5 C6 C7 : Addr} {cdg : Value} {q : Str} (T : WTxt X.K X.mg CN C1 C2 C4 C5 C6 C7) (T3 : WTxt3 X.K C1 C2 CN C4) (hg : X.A.guards = some []) (hu : X.A.units + 100 < cLine) :
    GivesTo X ["_law_call", "e"] "_law_why" (defScope sWhy) g cdg (defBody sWhy) "_law_call" q (TWhy3 C2 CN C4) := by
  intro f c' s H Q tl act hc h
  refine ⟨_, pss_cons (ps_try_asMany (X := (cxOf C8.CX0 X.prog X.w X.K X.mg X.base ["_law_call", "e"] "_law_why" (defScope sWhy) g cdg X.A X.stack s H C8.E0).nox) (i := 1) (n := "e")
      (tb := fun W D σ H => ∃ Ech : XK, (∀ cls d σ' H', Ech cls d H' → W cls d σ' H') ∧ σ[0]? = some (some (.ref f)) ∧ H c' = some (CodeO c' q) ∧ tl Ech H (fun _ H1 => D.nx σ H1))
      rfl rfl scWhy.nd rfl rfl LamX.takes0 (fun W pn xe tk _ => ?_)
      (.cons ⟨rfl, by decide, .inl T.m1⟩ (fun _ _ _ _ _ _ _ => pss_false)
        (.cons ⟨rfl, by decide, .inl T.m2⟩ (fun a oe cls d pn hz hf => pss_one (ps_ret (pe_tup (pa_cons pe_str (pa_cons (pe_xf (XfC.of T3.t2) T3.l1 hz hf (pv 1) rfl) (pa_cons (pe_xf (XfC.of T3.t2) T3.l2 hz hf (pv 1) rfl) pa_nil))))))
        (.cons ⟨rfl, by decide, .inl T.m3⟩ (fun a oe cls d pn hz hf => pss_one (ps_ret (pe_tup (pa_cons pe_str (pa_cons (pe_xf (XfC.of T.t) T.n1 hz hf (pv 1) rfl) (pa_cons (pe_callB (call_reprD hg (by show X.A.units + 3 + 80 < cLine; omega)) (by rfl) T.repr bRepr (pa_cons (pe_xf (XfC.of T.t) T.n2 hz hf (pv 1) rfl) pa_nil)) pa_nil))))))
        (.cons ⟨rfl, by decide, .inl T.m4⟩ (fun a oe cls d pn hz hf => pss_one (ps_ret (pe_tup (pa_cons pe_str (pa_cons (pe_callB (call_reprD hg (by show X.A.units + 3 + 80 < cLine; omega)) (by rfl) T.repr bRepr (pa_cons (pe_xf (XfC.of T3.t4) T3.r1 hz hf (pv 1) rfl) pa_nil)) pa_nil)))))
        (.cons ⟨rfl, by decide, .inl T.m5⟩ (fun _ _ _ _ _ _ _ => pss_false) (.cons ⟨rfl, by decide, .inl T.m6⟩ (fun _ _ _ _ _ _ _ => pss_false) (.cons ⟨rfl, by decide, .inl T.m7⟩ (fun _ _ _ _ _ _ _ => pss_false) .nil))))))))
      (pss_one (ps_ret pe_non)), ?_⟩
  · refine ⟨fun pins s' σ H' D I h' => ?_⟩
    obtain ⟨Ech, hW, h1, h2, h3⟩ := h'
    exact PSs.run (pss_one (ps_expr (act W pn xe Ech _ _ tk hW))) pins s' σ H' D I ⟨h1, h2, h3⟩
  · refine ⟨_, fun cls d σ' H' e => ?_, rfl, hc, h⟩
    have two : ∀ len : σ'.length = 2, ∃ x0 x1, σ' = [x0, x1] := fun len => by
      match σ', len with
      | [x0, x1], _ => exact ⟨_, _, rfl⟩
    rcases e with ⟨rfl, dd, y1, y2, rfl, ed, k⟩ | ⟨rfl, dd, v, wv, dv, rfl, ed, da, rp, k⟩ | ⟨rfl, dd, v, dv, rfl, ed, da, rp, k⟩
    · refine ⟨false, T3.a1, fun z => (nomatch z), fun _ => ⟨true, T3.a2, fun _ len a na => ?_, fun z => (nomatch z)⟩⟩
      obtain ⟨x0, x1, rfl⟩ := two len
      refine ⟨_, rfl, rfl, rfl, dd, _, y1, rfl, ed, by kernel_rfl, _, rfl, rfl, rfl, dd, _, y2, rfl, ed, by kernel_rfl, (by show 3 ≤ sizeLine; rw [sizeLine_eq]; decide), fun p np => ?_⟩
      exact k p _ upd_same (Same.new (L2.Same.refl H') np)
    · refine ⟨false, T.e1, fun z => (nomatch z), fun _ => ⟨false, T.e2, fun z => (nomatch z), fun _ => ⟨true, T.e3, fun _ len a na => ?_, fun z => (nomatch z)⟩⟩⟩
      obtain ⟨x0, x1, rfl⟩ := two len
      refine ⟨_, rfl, rfl, rfl, dd, _, wv, rfl, ed, by kernel_rfl, _, rfl, rfl, rfl, dd, _, v, rfl, ed, by kernel_rfl, v, dv, rfl, da, rp.1, rp.2.1, rp.2.2, (by show 3 ≤ sizeLine; rw [sizeLine_eq]; decide), fun p np => ?_⟩
      exact k p _ upd_same (Same.new (L2.Same.refl H') np)
    · refine ⟨false, T3.b1, fun z => (nomatch z), fun _ => ⟨false, T3.b2, fun z => (nomatch z), fun _ => ⟨false, T3.b3, fun z => (nomatch z), fun _ => ⟨true, T3.b4, fun _ len a na => ?_, fun z => (nomatch z)⟩⟩⟩⟩
      obtain ⟨x0, x1, rfl⟩ := two len
      refine ⟨_, rfl, rfl, rfl, dd, _, v, rfl, ed, by kernel_rfl, v, dv, rfl, da, rp.1, rp.2.1, rp.2.2, (by show 2 ≤ sizeLine; rw [sizeLine_eq]; decide), fun p np => ?_⟩
      exact k p _ upd_same (Same.new (L2.Same.refl H') np)
end GG

namespace GG
open PySem PySem.Spec PyProof.Rows L2
/-! ### texts that are right all through -/
theorem ok_of {s : String} : PyData.strOk (Str.ofString s) = true := by
  unfold PyData.strOk
  rw [Str.ofString_eq_toList]
  rw [Array.all_eq_true']
  intro c hc
  rw [List.mem_toArray] at hc
  obtain ⟨x, _, rfl⟩ := List.mem_map.mp hc
  have v := x.valid
  refine decide_eq_true ?_
  show x.val.toNat < 0x110000
  rcases v with v | v
  · exact Nat.lt_trans v (by decide)
  · exact v.2
theorem ok_app {x y : Str} (hx : PyData.strOk x = true) (hy : PyData.strOk y = true) : PyData.strOk (x ++ y) = true := by
  unfold PyData.strOk at *
  show (x.cps ++ y.cps).all _ = true
  rw [Array.all_append, hx, hy]
  rfl
theorem ok_join {sep : Str} (hs : PyData.strOk sep = true) : ∀ {l : List Str}, (∀ x ∈ l, PyData.strOk x = true) → PyData.strOk (Str.join sep l) = true
  | [], _ => (by decide +kernel : PyData.strOk Str.empty = true)
  | [x], h => h x List.mem_cons_self
  | x :: y :: r, h => ok_app (ok_app (h x List.mem_cons_self) hs) (ok_join hs fun z hz => h z (List.mem_cons_of_mem _ hz))
/-- what may be shown, and compared as a text -/
structure Sw (k n : Nat) (d : PyData) : Prop where
  sh : d.showable = true
  dp : d.depth ≤ k
  ln : d.shown.length ≤ n
  st : PyData.strOk d.shown = true
theorem Sw.mono {k k' n n' : Nat} {d : PyData} (h : Sw k n d) (a : k ≤ k') (b : n ≤ n') : Sw k' n' d := ⟨h.sh, Nat.le_trans h.dp a, Nat.le_trans h.ln b, h.st⟩
theorem all_shown {ds : List PyData} (h : ∀ d ∈ ds, PyData.strOk d.shown = true) : ∀ x ∈ PyData.shownAll ds, PyData.strOk x = true := by
  induction ds with
  | nil => intro x hx; simp [PyData.shownAll] at hx
  | cons d ds ih =>
    intro x hx
    rw [PyData.shownAll_cons] at hx
    rcases List.mem_cons.mp hx with rfl | m
    · exact h d List.mem_cons_self
    · exact ih (fun z hz => h z (List.mem_cons_of_mem _ hz)) x m
theorem sh_all {ds : List PyData} (h : ∀ d ∈ ds, d.showable = true) : PyData.showableAll ds = true := by
  induction ds with
  | nil => simp [PyData.showableAll]
  | cons d ds ih =>
    simp only [PyData.showableAll, Bool.and_eq_true]
    exact ⟨h d List.mem_cons_self, ih fun z hz => h z (List.mem_cons_of_mem _ hz)⟩
theorem dp_all {k : Nat} {ds : List PyData} (h : ∀ d ∈ ds, d.depth ≤ k) : PyData.depthAll ds ≤ k := by
  induction ds with
  | nil => simp [PyData.depthAll]
  | cons d ds ih =>
    simp only [PyData.depthAll]
    have h1 := h d List.mem_cons_self
    have h2 := ih fun z hz => h z (List.mem_cons_of_mem _ hz)
    omega
theorem Sw.tuple {k n : Nat} {ds : List PyData} (h : ∀ d ∈ ds, Sw k n d) : Sw (k + 1) ((n + 2) * ds.length + 4) (.tuple ds) := by
  refine ⟨?_, ?_, tuple_len ds n fun d hd => (h d hd).ln, ?_⟩
  · simp only [PyData.showable]
    exact sh_all fun d hd => (h d hd).sh
  · have := dp_all fun d hd => (h d hd).dp
    simp only [PyData.depth]
    omega
  · rw [PyData.shown_tuple]
    exact ok_app (ok_app ok_of (ok_join ok_of (all_shown fun d hd => (h d hd).st))) ok_of
theorem Sw.list {k n : Nat} {ds : List PyData} (h : ∀ d ∈ ds, Sw k n d) : Sw (k + 1) ((n + 2) * ds.length + 4) (.list ds) := by
  refine ⟨?_, ?_, list_len ds n fun d hd => (h d hd).ln, ?_⟩
  · simp only [PyData.showable]
    exact sh_all fun d hd => (h d hd).sh
  · have := dp_all fun d hd => (h d hd).dp
    simp only [PyData.depth]
    omega
  · rw [PyData.shown_list]
    exact ok_app (ok_app ok_of (ok_join ok_of (all_shown fun d hd => (h d hd).st))) ok_of
theorem Sw.int {i : Int} (h : i.natAbs < 2 ^ 250) : Sw 0 2000 (.int i) := by
  refine ⟨?_, ?_, ?_, ?_⟩
  · simp only [PyData.showable, decide_eq_true_eq]
    exact log250 h
  · simp [PyData.depth]
  · rw [PyData.shown_int]
    exact Nat.le_trans (int_text_len_1921 (log250 h)) (by decide)
  · rw [PyData.shown_int]
    exact ok_of
theorem Sw.non : Sw 0 2000 .none := ⟨by decide +kernel, by decide +kernel, by decide +kernel, by decide +kernel⟩
theorem Sw.bl (b : Bool) : Sw 0 2000 (.bool b) := by
  cases b <;> exact ⟨by decide +kernel, by decide +kernel, by decide +kernel, by decide +kernel⟩
theorem Sw.str1 : Sw 0 2000 (.str "1") := ⟨by decide +kernel, by decide +kernel, by decide +kernel, by decide +kernel⟩
theorem Sw.str2 : Sw 0 2000 (.str "2") := ⟨by decide +kernel, by decide +kernel, by decide +kernel, by decide +kernel⟩
theorem Sw.strab : Sw 0 2000 (.str "ab") := ⟨by decide +kernel, by decide +kernel, by decide +kernel, by decide +kernel⟩
theorem Sw.dict2 : Sw 20 2000 (.dict [(.str "a", .int 1), (.str "b", .int 2)]) := ⟨by decide +kernel, by decide +kernel, by decide +kernel, by decide +kernel⟩
theorem Sw.odd : ∀ d ∈ oddD, Sw 8 2000 d := by
  intro d hd
  have h := odd_ok d hd
  have l := odd_len d hd
  refine ⟨h.2.2.1, h.2.2.2, Nat.le_trans l (by decide), ?_⟩
  clear h l
  simp only [oddD, List.mem_cons, List.not_mem_nil, or_false] at hd
  rcases hd with rfl | rfl | rfl | rfl | rfl | rfl | rfl | rfl | rfl | rfl | rfl | rfl | rfl | rfl | rfl <;> decide +kernel
/-! ### the rows that are no bids -/
def rowsD (ns : List Int) (ms : List PyData) : List PyData :=
  [.none, .int 5, .str "ab", .tuple [], .tuple [.int 1], .tuple [.int 1, .tuple (ns.map .int), .int 2], .tuple [.bool true, .tuple (ns.map .int)], .tuple [.str "1", .tuple (ns.map .int)], .tuple [.none, .tuple (ns.map .int)], .tuple [.int 2, .none],
    .tuple [.int 1, .tuple (ns.map .int ++ [.int 0])], .tuple [.int 1, .tuple ((ns.map .int).drop 1)], .list [.int 1, .list ms], .tuple [.int 1, .tuple ms], .tuple [.int 1, .int 5], .dict [(.str "a", .int 1), (.str "b", .int 2)]]
/-- a row that is no bid, and may be shown -/
structure OddR (kinds : Int) (d : PyData) : Prop where
  no : isBid d kinds = false
  sm : smallBid d
  sw : Sw 20 200000 d
theorem small_int {i : Int} (h : i.natAbs < 2 ^ 120) : smallR (.int i) := h
theorem smalls {ds : List PyData} (l : ds.length ≤ 4) (h : ∀ x ∈ ds, smallR x) : smallS (.tuple ds) ∧ smallS (.list ds) := ⟨⟨by omega, h⟩, ⟨by omega, h⟩⟩
theorem rows_odd {kinds : Int} {ns : List Int} {ms : List PyData} (k1 : 1 ≤ kinds) (k3 : kinds ≤ 3) (ln : (ns.length : Int) = kinds) (lm : ms.length ≤ 4) (hn : ∀ i ∈ ns, 0 ≤ i ∧ i ≤ 9) (hm : ∀ d ∈ ms, smallR d ∧ Sw 8 2000 d) (bad : ∃ d ∈ ms, isZ d = false) :
    ∀ d ∈ rowsD ns ms, OddR kinds d := by
  have l4 : ns.length ≤ 3 := by omega
  have si : ∀ i : Int, i.natAbs ≤ 100 → smallR (.int i) ∧ Sw 8 2000 (.int i) := fun i h => by
    refine ⟨small_int (Nat.lt_of_le_of_lt h ?_), (Sw.int (Nat.lt_of_le_of_lt h ?_)).mono (by decide) (Nat.le_refl _)⟩
    · exact Nat.lt_of_lt_of_le (show 100 < 2 ^ 7 by decide) (Nat.pow_le_pow_right (by decide) (by decide))
    · exact Nat.lt_of_lt_of_le (show 100 < 2 ^ 7 by decide) (Nat.pow_le_pow_right (by decide) (by decide))
  have sn : ∀ d ∈ ns.map PyData.int, smallR d ∧ Sw 8 2000 d := fun d hd => by
    obtain ⟨i, hi, rfl⟩ := List.mem_map.mp hd
    exact si i (by have := hn i hi; omega)
  have tp : ∀ {ds : List PyData}, ds.length ≤ 4 → (∀ d ∈ ds, smallR d ∧ Sw 8 2000 d) → smallS (.tuple ds) ∧ smallS (.list ds) ∧ Sw 9 20000 (.tuple ds) ∧ Sw 9 20000 (.list ds) := fun {ds} l h => by
    obtain ⟨a, b⟩ := smalls l fun x hx => (h x hx).1
    refine ⟨a, b, (Sw.tuple fun d hd => (h d hd).2).mono (Nat.le_refl _) ?_, (Sw.list fun d hd => (h d hd).2).mono (Nat.le_refl _) ?_⟩
    · have := Nat.mul_le_mul_left (2000 + 2) l
      omega
    · have := Nat.mul_le_mul_left (2000 + 2) l
      omega
  have tT := tp (ds := ns.map PyData.int) (by rw [List.length_map]; omega) sn
  have t0 := tp (ds := ns.map PyData.int ++ [.int 0]) (by rw [List.length_append, List.length_map]; show ns.length + 1 ≤ 4; omega) (fun d hd => by
    rcases List.mem_append.mp hd with q | q
    · exact sn d q
    · rw [List.mem_singleton.mp q]
      exact si 0 (by decide))
  have t1 := tp (ds := (ns.map PyData.int).drop 1) (by rw [List.length_drop, List.length_map]; omega) (fun d hd => sn d (List.mem_of_mem_drop hd))
  have tm := tp lm hm
  have up : ∀ {d : PyData}, Sw 0 2000 d → Sw 9 20000 d := fun h => h.mono (by decide) (by decide)
  have s1 : Sw 9 20000 (.int 1) := up (Sw.int (by decide))
  have s2 : Sw 9 20000 (.int 2) := up (Sw.int (by decide))
  have s5 : Sw 9 20000 (.int 5) := up (Sw.int (by decide))
  have row : ∀ {ds : List PyData}, ds.length ≤ 3 → (∀ d ∈ ds, Sw 9 20000 d) → Sw 20 200000 (.tuple ds) ∧ Sw 20 200000 (.list ds) := fun {ds} l h => by
    refine ⟨(Sw.tuple h).mono (by decide) ?_, (Sw.list h).mono (by decide) ?_⟩
    · have := Nat.mul_le_mul_left (20000 + 2) l
      omega
    · have := Nat.mul_le_mul_left (20000 + 2) l
      omega
  have mem2 : ∀ {x y : PyData}, Sw 9 20000 x → Sw 9 20000 y → ∀ d ∈ [x, y], Sw 9 20000 d := fun hx hy d hd => by
    simp only [List.mem_cons, List.not_mem_nil, or_false] at hd
    rcases hd with rfl | rfl
    · exact hx
    · exact hy
  obtain ⟨dz, mz, hz⟩ := bad
  have nm : ∀ n : Int, areP (.tuple ms) n = false ∧ areP (.list ms) n = false := fun n => by
    have q : ms.all isZ = false := by
      cases e : ms.all isZ with
      | false => rfl
      | true => exact absurd (List.all_eq_true.mp e dz mz) (by rw [hz]; decide)
    exact ⟨show (decide ((ms.length : Int) = n) && ms.all isZ) = false by rw [q, Bool.and_false], show (decide ((ms.length : Int) = n) && ms.all isZ) = false by rw [q, Bool.and_false]⟩
  intro d hd
  simp only [rowsD, List.mem_cons, List.not_mem_nil, or_false] at hd
  rcases hd with rfl | rfl | rfl | rfl | rfl | rfl | rfl | rfl | rfl | rfl | rfl | rfl | rfl | rfl | rfl | rfl
  · exact ⟨rfl, trivial, Sw.non.mono (by decide) (by decide)⟩
  · exact ⟨rfl, trivial, s5.mono (by decide) (by decide)⟩
  · exact ⟨rfl, trivial, Sw.strab.mono (by decide) (by decide)⟩
  · exact ⟨rfl, trivial, (row (ds := []) (by decide) (fun d hd => nomatch hd)).1⟩
  · exact ⟨rfl, trivial, (row (ds := [PyData.int 1]) (by decide) (fun d hd => by rw [List.mem_singleton.mp hd]; exact s1)).1⟩
  · exact ⟨rfl, trivial, (row (ds := [PyData.int 1, .tuple (ns.map PyData.int), .int 2]) (by show 3 ≤ 3; decide) (fun d hd => by
      simp only [List.mem_cons, List.not_mem_nil, or_false] at hd
      rcases hd with rfl | rfl | rfl
      · exact s1
      · exact tT.2.2.1
      · exact s2)).1⟩
  · exact ⟨rfl, tT.1, (row (by show 2 ≤ 3; decide) (mem2 (up (Sw.bl true)) tT.2.2.1)).1⟩
  · exact ⟨rfl, tT.1, (row (by show 2 ≤ 3; decide) (mem2 (up Sw.str1) tT.2.2.1)).1⟩
  · exact ⟨rfl, tT.1, (row (by show 2 ≤ 3; decide) (mem2 (up Sw.non) tT.2.2.1)).1⟩
  · exact ⟨rfl, trivial, (row (by show 2 ≤ 3; decide) (mem2 s2 (up Sw.non))).1⟩
  · refine ⟨?_, t0.1, (row (by show 2 ≤ 3; decide) (mem2 s1 t0.2.2.1)).1⟩
    show (decide ((((ns.map PyData.int ++ [PyData.int 0]).length : Nat) : Int) = kinds) && _) = false
    rw [decide_eq_false (by rw [List.length_append, List.length_map]; show ¬ ((ns.length + 1 : Nat) : Int) = kinds; omega), Bool.false_and]
  · refine ⟨?_, t1.1, (row (by show 2 ≤ 3; decide) (mem2 s1 t1.2.2.1)).1⟩
    show (decide ((((ns.map PyData.int).drop 1).length : Int) = kinds) && _) = false
    rw [decide_eq_false (by rw [List.length_drop, List.length_map]; omega), Bool.false_and]
  · exact ⟨(nm kinds).2, tm.2.1, (row (by show 2 ≤ 3; decide) (mem2 s1 tm.2.2.2)).2⟩
  · exact ⟨(nm kinds).1, tm.1, (row (by show 2 ≤ 3; decide) (mem2 s1 tm.2.2.1)).1⟩
  · exact ⟨rfl, trivial, (row (by show 2 ≤ 3; decide) (mem2 s1 s5)).1⟩
  · exact ⟨rfl, trivial, Sw.dict2.mono (by decide) (by decide)⟩
/-- what is no number of kinds -/
def badKD : List PyData := [.int 0, .int 4, .int (-1), .bool true, .none, .str "2", .tuple [.int 1], .list [.int 2], .int 100000000000000000000]
theorem badK : ∀ d ∈ badKD, okK d = false ∧ Sw 20 200000 d := by
  have s1 : ∀ d ∈ [PyData.int 1], Sw 0 2000 d := fun d hd => by
    rw [List.mem_singleton.mp hd]
    exact Sw.int (by decide)
  have s2 : ∀ d ∈ [PyData.int 2], Sw 0 2000 d := fun d hd => by
    rw [List.mem_singleton.mp hd]
    exact Sw.int (by decide)
  intro d hd
  simp only [badKD, List.mem_cons, List.not_mem_nil, or_false] at hd
  rcases hd with rfl | rfl | rfl | rfl | rfl | rfl | rfl | rfl | rfl
  · exact ⟨by decide, (Sw.int (by decide)).mono (by decide) (by decide)⟩
  · exact ⟨by decide, (Sw.int (by decide)).mono (by decide) (by decide)⟩
  · exact ⟨by decide, (Sw.int (by decide)).mono (by decide) (by decide)⟩
  · exact ⟨rfl, (Sw.bl true).mono (by decide) (by decide)⟩
  · exact ⟨rfl, Sw.non.mono (by decide) (by decide)⟩
  · exact ⟨rfl, Sw.str2.mono (by decide) (by decide)⟩
  · exact ⟨rfl, (Sw.tuple s1).mono (by decide) (by decide)⟩
  · exact ⟨rfl, (Sw.list s2).mono (by decide) (by decide)⟩
  · exact ⟨by decide +kernel, (Sw.int (by decide +kernel)).mono (by decide) (by decide)⟩
end GG

namespace GG
open PySem PySem.Spec PyProof.Rows L2
/-- what of G is new since H -/
def mask (H G : Hp) : Hp := fun b => match H b with
  | some _ => none
  | none => G b
theorem mask_at {H G : Hp} {a : Addr} {o : HO} (z : H a = none) (e : G a = some o) : mask H G a = some o := by
  unfold mask
  rw [z]
  exact e
theorem mask_in {H G : Hp} {a : Addr} {o : HO} (e : mask H G a = some o) : H a = none ∧ G a = some o := by
  unfold mask at e
  cases q : H a with
  | some x => rw [q] at e; cases e
  | none => rw [q] at e; exact ⟨rfl, e⟩
theorem mask_stay {H G G' : Hp} (k : Stay G G') : Stay (mask H G) (mask H G') := fun b o e n => by
  obtain ⟨z, e2⟩ := mask_in e
  exact mask_at z (k b o e2 n)
theorem free_of {H G : Hp} {p l t : Addr} {c : Int} (K : Keep p H G) (P : PenAt G p l c) (n : G t = none) : H t = none := by
  cases e : H t with
  | none => rfl
  | some o =>
    exfalso
    by_cases q : t = p
    · obtain ⟨_, _, _, _, I⟩ := P
      rw [q, I.obj] at n
      cases n
    · rw [K t o q e] at n
      cases n
def spAny2 : Sp := fun vs H Q _ => ∃ (p l : Addr) (c : Int), vs = [.ref p] ∧ PenAt H p l c ∧ c < 10000000 ∧ ∀ (v : V) (d : PyData) (H' : Hp), PenAt H' p l (c + 1) → Keep p H H' → Da (mask H H') v d → d ∈ oddD → Q v H'
section
variable {P : Program} {w : World} {K : PySem.W.Frag} {mg : Str → Option Value} {base : Heap}
theorem kn_any2 (D : DefIs K mg "_law_any" sAny) (B : Kn P w K mg base "_law_pick" 2 ["_law_pen_here", "_law_some"] (spPick K)) : Kn P w K mg base "_law_any" 3 ["_law_pen_here"] spAny2 := by
  refine .of D (fun _ _ _ _ _ _ us hl => match us, hl with | [_], _ => rfl) fun _ _ F => ?_
  refine F.ok scAny (fun vs H Q E h => ?_) (fun cdv A outer s H vs Q E hr h => ?_)
  · obtain ⟨p, l, c, rfl, _⟩ := h
    rfl
  · obtain ⟨p, l, c, rfl, P0, c0, k⟩ := h
    refine ⟨_, pss_cons (ps_set (i := 1) scAny.nd rfl (.inl rfl) (pe_lst (pa_cons pe_non (pa_cons pe_bl (pa_cons pe_str (pa_cons (pe_tup (pa_cons pe_int (pa_cons pe_int pa_nil))) (pa_cons (pe_tup (pa_cons pe_int (pa_cons (pe_un un_neg pe_int) pa_nil))) (pa_cons (pe_tup (pa_cons pe_int (pa_cons pe_bl pa_nil))) (pa_cons (pe_lstM (pa_cons pe_int pa_nil)) (pa_cons (pe_tup (pa_cons pe_int (pa_cons pe_int (pa_cons pe_int pa_nil)))) (pa_cons (pe_disp (pps_cons pe_str pe_int pps_nil) rfl rfl (by intro z; cases z) (by decide)) (pa_cons (pe_tup (pa_cons pe_str (pa_cons pe_int pa_nil))) (pa_cons (pe_tup (pa_cons pe_non (pa_cons pe_int pa_nil))) pa_nil)))))))))))))
      (pss_one (ps_ret (pe_kn B hr (pa_cons (pv 0) (pa_cons (pe_op op_cat (pv 1) (pe_lst (pa_cons (pe_tup (pa_cons pe_bl (pa_cons pe_int pa_nil))) (pa_cons (pe_lstM (pa_cons pe_int (pa_cons pe_bl pa_nil))) (pa_cons (pe_tup pa_nil) (pa_cons (pe_tup (pa_cons (pe_tup (pa_cons pe_int (pa_cons pe_int pa_nil))) (pa_cons pe_int pa_nil))) pa_nil)))))) pa_nil))))), ?_⟩
    have K0 : Keep p H H := Keep.refl
    have AL : DaAll (mask H H) [] [] := .nil
    replace AL := AL.snoc (v := .non) (d := .none) .non
    replace AL := AL.snoc (v := .bl true) (d := .bool true) (.bl _)
    replace AL := AL.snoc (v := .str "1") (d := .str "1") (.str _)
    refine ⟨(by show 2 ≤ sizeLine; rw [sizeLine_eq]; decide), fun t0 nt0 => ?_⟩
    have zt0 := free_of K0 P0 nt0
    replace P0 := P0.new nt0 (o := (.tup [.int 1, .int 0]))
    replace K0 := K0.new nt0 (o := (.tup [.int 1, .int 0]))
    have st := Stay.new (Stay.refl (H := H)) nt0 (o := (.tup [.int 1, .int 0]))
    replace AL := AL.stay (mask_stay st)
    have et0 : mask H (upd H t0 (.tup [.int 1, .int 0])) t0 = some (.tup [.int 1, .int 0]) := mask_at zt0 upd_same
    clear st
    generalize (upd H t0 (.tup [.int 1, .int 0])) = Ht0 at P0 K0 AL et0 ⊢
    have at0 : Da (mask H Ht0) (.ref t0) (.tuple [.int 1, .int 0]) := .tup et0 (.cons (.int _) (.cons (.int _) .nil))
    replace AL := AL.snoc (v := .ref t0) (d := .tuple [.int 1, .int 0]) at0
    refine ⟨_, rfl, (by show 2 ≤ sizeLine; rw [sizeLine_eq]; decide), fun t1 nt1 => ?_⟩
    have zt1 := free_of K0 P0 nt1
    replace P0 := P0.new nt1 (o := (.tup [.int 1, .int (-2)]))
    replace K0 := K0.new nt1 (o := (.tup [.int 1, .int (-2)]))
    have st := Stay.new (Stay.refl (H := Ht0)) nt1 (o := (.tup [.int 1, .int (-2)]))
    replace AL := AL.stay (mask_stay st)
    have et1 : mask H (upd Ht0 t1 (.tup [.int 1, .int (-2)])) t1 = some (.tup [.int 1, .int (-2)]) := mask_at zt1 upd_same
    clear st
    generalize (upd Ht0 t1 (.tup [.int 1, .int (-2)])) = Ht1 at P0 K0 AL et1 ⊢
    have at1 : Da (mask H Ht1) (.ref t1) (.tuple [.int 1, .int (-2)]) := .tup et1 (.cons (.int _) (.cons (.int _) .nil))
    replace AL := AL.snoc (v := .ref t1) (d := .tuple [.int 1, .int (-2)]) at1
    refine ⟨(by show 2 ≤ sizeLine; rw [sizeLine_eq]; decide), fun t2 nt2 => ?_⟩
    have zt2 := free_of K0 P0 nt2
    replace P0 := P0.new nt2 (o := (.tup [.int 1, .bl true]))
    replace K0 := K0.new nt2 (o := (.tup [.int 1, .bl true]))
    have st := Stay.new (Stay.refl (H := Ht1)) nt2 (o := (.tup [.int 1, .bl true]))
    replace AL := AL.stay (mask_stay st)
    have et2 : mask H (upd Ht1 t2 (.tup [.int 1, .bl true])) t2 = some (.tup [.int 1, .bl true]) := mask_at zt2 upd_same
    clear st
    generalize (upd Ht1 t2 (.tup [.int 1, .bl true])) = Ht2 at P0 K0 AL et2 ⊢
    have at2 : Da (mask H Ht2) (.ref t2) (.tuple [.int 1, .bool true]) := .tup et2 (.cons (.int _) (.cons (.bl _) .nil))
    replace AL := AL.snoc (v := .ref t2) (d := .tuple [.int 1, .bool true]) at2
    refine ⟨(by show 1 ≤ sizeLine; rw [sizeLine_eq]; decide), fun t3 nt3 mt3 => ?_⟩
    have zt3 := free_of K0 P0 nt3
    replace P0 := P0.new nt3 (o := (.lst [.int 1]))
    replace K0 := K0.new nt3 (o := (.lst [.int 1]))
    have st := Stay.new (Stay.refl (H := Ht2)) nt3 (o := (.lst [.int 1]))
    replace AL := AL.stay (mask_stay st)
    have et3 : mask H (upd Ht2 t3 (.lst [.int 1])) t3 = some (.lst [.int 1]) := mask_at zt3 upd_same
    clear st
    generalize (upd Ht2 t3 (.lst [.int 1])) = Ht3 at P0 K0 AL et3 ⊢
    have at3 : Da (mask H Ht3) (.ref t3) (.list [.int 1]) := .lst et3 mt3 (.cons (.int _) .nil)
    replace AL := AL.snoc (v := .ref t3) (d := .list [.int 1]) at3
    refine ⟨(by show 3 ≤ sizeLine; rw [sizeLine_eq]; decide), fun t4 nt4 => ?_⟩
    have zt4 := free_of K0 P0 nt4
    replace P0 := P0.new nt4 (o := (.tup [.int 1, .int 2, .int 3]))
    replace K0 := K0.new nt4 (o := (.tup [.int 1, .int 2, .int 3]))
    have st := Stay.new (Stay.refl (H := Ht3)) nt4 (o := (.tup [.int 1, .int 2, .int 3]))
    replace AL := AL.stay (mask_stay st)
    have et4 : mask H (upd Ht3 t4 (.tup [.int 1, .int 2, .int 3])) t4 = some (.tup [.int 1, .int 2, .int 3]) := mask_at zt4 upd_same
    clear st
    generalize (upd Ht3 t4 (.tup [.int 1, .int 2, .int 3])) = Ht4 at P0 K0 AL et4 ⊢
    have at4 : Da (mask H Ht4) (.ref t4) (.tuple [.int 1, .int 2, .int 3]) := .tup et4 (.cons (.int _) (.cons (.int _) (.cons (.int _) .nil)))
    replace AL := AL.snoc (v := .ref t4) (d := .tuple [.int 1, .int 2, .int 3]) at4
    intro t5 nt5
    refine ⟨upd_same, [(.inr "a", .int 1)], rfl, (by show 1 ≤ 15; decide), ?_⟩
    rw [show upd (upd Ht4 t5 (.dK [])) t5 (.dK (mergeK [] [((.inr "a" : Key), V.int 1)])) = upd Ht4 t5 (.dK [(.inr "a", .int 1)]) from by rw [show mergeK [] [((.inr "a" : Key), V.int 1)] = [(.inr "a", .int 1)] from by kernel_rfl, upd_upd]]
    have zt5 := free_of K0 P0 nt5
    replace P0 := P0.new nt5 (o := (.dK [(.inr "a", .int 1)]))
    replace K0 := K0.new nt5 (o := (.dK [(.inr "a", .int 1)]))
    have st := Stay.new (Stay.refl (H := Ht4)) nt5 (o := (.dK [(.inr "a", .int 1)]))
    replace AL := AL.stay (mask_stay st)
    have et5 : mask H (upd Ht4 t5 (.dK [(.inr "a", .int 1)])) t5 = some (.dK [(.inr "a", .int 1)]) := mask_at zt5 upd_same
    clear st
    generalize (upd Ht4 t5 (.dK [(.inr "a", .int 1)])) = Ht5 at P0 K0 AL et5 ⊢
    have at5 : Da (mask H Ht5) (.ref t5) (.dict [(.str "a", .int 1)]) := .dic et5 (.int 1)
    replace AL := AL.snoc (v := .ref t5) (d := .dict [(.str "a", .int 1)]) at5
    refine ⟨(by show 2 ≤ sizeLine; rw [sizeLine_eq]; decide), fun t6 nt6 => ?_⟩
    have zt6 := free_of K0 P0 nt6
    replace P0 := P0.new nt6 (o := (.tup [.str "1", .int 2]))
    replace K0 := K0.new nt6 (o := (.tup [.str "1", .int 2]))
    have st := Stay.new (Stay.refl (H := Ht5)) nt6 (o := (.tup [.str "1", .int 2]))
    replace AL := AL.stay (mask_stay st)
    have et6 : mask H (upd Ht5 t6 (.tup [.str "1", .int 2])) t6 = some (.tup [.str "1", .int 2]) := mask_at zt6 upd_same
    clear st
    generalize (upd Ht5 t6 (.tup [.str "1", .int 2])) = Ht6 at P0 K0 AL et6 ⊢
    have at6 : Da (mask H Ht6) (.ref t6) (.tuple [.str "1", .int 2]) := .tup et6 (.cons (.str _) (.cons (.int _) .nil))
    replace AL := AL.snoc (v := .ref t6) (d := .tuple [.str "1", .int 2]) at6
    refine ⟨(by show 2 ≤ sizeLine; rw [sizeLine_eq]; decide), fun t7 nt7 => ?_⟩
    have zt7 := free_of K0 P0 nt7
    replace P0 := P0.new nt7 (o := (.tup [.non, .int 1]))
    replace K0 := K0.new nt7 (o := (.tup [.non, .int 1]))
    have st := Stay.new (Stay.refl (H := Ht6)) nt7 (o := (.tup [.non, .int 1]))
    replace AL := AL.stay (mask_stay st)
    have et7 : mask H (upd Ht6 t7 (.tup [.non, .int 1])) t7 = some (.tup [.non, .int 1]) := mask_at zt7 upd_same
    clear st
    generalize (upd Ht6 t7 (.tup [.non, .int 1])) = Ht7 at P0 K0 AL et7 ⊢
    have at7 : Da (mask H Ht7) (.ref t7) (.tuple [.none, .int 1]) := .tup et7 (.cons .non (.cons (.int _) .nil))
    replace AL := AL.snoc (v := .ref t7) (d := .tuple [.none, .int 1]) at7
    refine ⟨(by show 11 ≤ sizeLine; rw [sizeLine_eq]; decide), fun L1 nL1 => ?_⟩
    have zL1 := free_of K0 P0 nL1
    replace P0 := P0.new nL1 (o := (.lst [.non, .bl true, .str "1", .ref t0, .ref t1, .ref t2, .ref t3, .ref t4, .ref t5, .ref t6, .ref t7]))
    replace K0 := K0.new nL1 (o := (.lst [.non, .bl true, .str "1", .ref t0, .ref t1, .ref t2, .ref t3, .ref t4, .ref t5, .ref t6, .ref t7]))
    have st := Stay.new (Stay.refl (H := Ht7)) nL1 (o := (.lst [.non, .bl true, .str "1", .ref t0, .ref t1, .ref t2, .ref t3, .ref t4, .ref t5, .ref t6, .ref t7]))
    replace AL := AL.stay (mask_stay st)
    have eL1 : (upd Ht7 L1 (.lst [.non, .bl true, .str "1", .ref t0, .ref t1, .ref t2, .ref t3, .ref t4, .ref t5, .ref t6, .ref t7])) L1 = some (.lst [.non, .bl true, .str "1", .ref t0, .ref t1, .ref t2, .ref t3, .ref t4, .ref t5, .ref t6, .ref t7]) := upd_same
    clear st
    generalize (upd Ht7 L1 (.lst [.non, .bl true, .str "1", .ref t0, .ref t1, .ref t2, .ref t3, .ref t4, .ref t5, .ref t6, .ref t7])) = HL1 at P0 K0 AL eL1 ⊢
    refine ⟨_, rfl, _, rfl, (by show 2 ≤ sizeLine; rw [sizeLine_eq]; decide), fun t8 nt8 => ?_⟩
    have zt8 := free_of K0 P0 nt8
    replace P0 := P0.new nt8 (o := (.tup [.bl true, .int 2]))
    replace K0 := K0.new nt8 (o := (.tup [.bl true, .int 2]))
    have st := Stay.new (Stay.refl (H := HL1)) nt8 (o := (.tup [.bl true, .int 2]))
    replace AL := AL.stay (mask_stay st)
    replace eL1 := st _ _ eL1 (by intro _ _ _ _ _ z; cases z)
    have et8 : mask H (upd HL1 t8 (.tup [.bl true, .int 2])) t8 = some (.tup [.bl true, .int 2]) := mask_at zt8 upd_same
    clear st
    generalize (upd HL1 t8 (.tup [.bl true, .int 2])) = Ht8 at P0 K0 AL et8 eL1 ⊢
    have at8 : Da (mask H Ht8) (.ref t8) (.tuple [.bool true, .int 2]) := .tup et8 (.cons (.bl _) (.cons (.int _) .nil))
    replace AL := AL.snoc (v := .ref t8) (d := .tuple [.bool true, .int 2]) at8
    refine ⟨(by show 2 ≤ sizeLine; rw [sizeLine_eq]; decide), fun t9 nt9 mt9 => ?_⟩
    have zt9 := free_of K0 P0 nt9
    replace P0 := P0.new nt9 (o := (.lst [.int 2, .bl false]))
    replace K0 := K0.new nt9 (o := (.lst [.int 2, .bl false]))
    have st := Stay.new (Stay.refl (H := Ht8)) nt9 (o := (.lst [.int 2, .bl false]))
    replace AL := AL.stay (mask_stay st)
    replace eL1 := st _ _ eL1 (by intro _ _ _ _ _ z; cases z)
    have et9 : mask H (upd Ht8 t9 (.lst [.int 2, .bl false])) t9 = some (.lst [.int 2, .bl false]) := mask_at zt9 upd_same
    clear st
    generalize (upd Ht8 t9 (.lst [.int 2, .bl false])) = Ht9 at P0 K0 AL et9 eL1 ⊢
    have at9 : Da (mask H Ht9) (.ref t9) (.list [.int 2, .bool false]) := .lst et9 mt9 (.cons (.int _) (.cons (.bl _) .nil))
    replace AL := AL.snoc (v := .ref t9) (d := .list [.int 2, .bool false]) at9
    refine ⟨(by show 0 ≤ sizeLine; rw [sizeLine_eq]; decide), fun t10 nt10 => ?_⟩
    have zt10 := free_of K0 P0 nt10
    replace P0 := P0.new nt10 (o := (.tup []))
    replace K0 := K0.new nt10 (o := (.tup []))
    have st := Stay.new (Stay.refl (H := Ht9)) nt10 (o := (.tup []))
    replace AL := AL.stay (mask_stay st)
    replace eL1 := st _ _ eL1 (by intro _ _ _ _ _ z; cases z)
    have et10 : mask H (upd Ht9 t10 (.tup [])) t10 = some (.tup []) := mask_at zt10 upd_same
    clear st
    generalize (upd Ht9 t10 (.tup [])) = Ht10 at P0 K0 AL et10 eL1 ⊢
    have at10 : Da (mask H Ht10) (.ref t10) (.tuple []) := .tup et10 .nil
    replace AL := AL.snoc (v := .ref t10) (d := .tuple []) at10
    refine ⟨(by show 2 ≤ sizeLine; rw [sizeLine_eq]; decide), fun t11 nt11 => ?_⟩
    have zt11 := free_of K0 P0 nt11
    replace P0 := P0.new nt11 (o := (.tup [.int 1, .int 2]))
    replace K0 := K0.new nt11 (o := (.tup [.int 1, .int 2]))
    have st := Stay.new (Stay.refl (H := Ht10)) nt11 (o := (.tup [.int 1, .int 2]))
    replace AL := AL.stay (mask_stay st)
    replace eL1 := st _ _ eL1 (by intro _ _ _ _ _ z; cases z)
    have et11 : mask H (upd Ht10 t11 (.tup [.int 1, .int 2])) t11 = some (.tup [.int 1, .int 2]) := mask_at zt11 upd_same
    clear st
    generalize (upd Ht10 t11 (.tup [.int 1, .int 2])) = Ht11 at P0 K0 AL et11 eL1 ⊢
    have at11 : Da (mask H Ht11) (.ref t11) (.tuple [.int 1, .int 2]) := .tup et11 (.cons (.int _) (.cons (.int _) .nil))
    refine ⟨(by show 2 ≤ sizeLine; rw [sizeLine_eq]; decide), fun t12 nt12 => ?_⟩
    have zt12 := free_of K0 P0 nt12
    replace P0 := P0.new nt12 (o := (.tup [.ref t11, .int 3]))
    replace K0 := K0.new nt12 (o := (.tup [.ref t11, .int 3]))
    have st := Stay.new (Stay.refl (H := Ht11)) nt12 (o := (.tup [.ref t11, .int 3]))
    replace AL := AL.stay (mask_stay st)
    replace eL1 := st _ _ eL1 (by intro _ _ _ _ _ z; cases z)
    replace at11 := at11.stay (mask_stay st)
    have et12 : mask H (upd Ht11 t12 (.tup [.ref t11, .int 3])) t12 = some (.tup [.ref t11, .int 3]) := mask_at zt12 upd_same
    clear st
    generalize (upd Ht11 t12 (.tup [.ref t11, .int 3])) = Ht12 at P0 K0 AL et12 eL1 at11 ⊢
    have at12 : Da (mask H Ht12) (.ref t12) (.tuple [.tuple [.int 1, .int 2], .int 3]) := .tup et12 (.cons at11 (.cons (.int _) .nil))
    replace AL := AL.snoc (v := .ref t12) (d := .tuple [.tuple [.int 1, .int 2], .int 3]) at12
    refine ⟨(by show 4 ≤ sizeLine; rw [sizeLine_eq]; decide), fun L2 nL2 => ?_⟩
    have zL2 := free_of K0 P0 nL2
    replace P0 := P0.new nL2 (o := (.lst [.ref t8, .ref t9, .ref t10, .ref t12]))
    replace K0 := K0.new nL2 (o := (.lst [.ref t8, .ref t9, .ref t10, .ref t12]))
    have st := Stay.new (Stay.refl (H := Ht12)) nL2 (o := (.lst [.ref t8, .ref t9, .ref t10, .ref t12]))
    replace AL := AL.stay (mask_stay st)
    replace eL1 := st _ _ eL1 (by intro _ _ _ _ _ z; cases z)
    have eL2 : (upd Ht12 L2 (.lst [.ref t8, .ref t9, .ref t10, .ref t12])) L2 = some (.lst [.ref t8, .ref t9, .ref t10, .ref t12]) := upd_same
    clear st
    generalize (upd Ht12 L2 (.lst [.ref t8, .ref t9, .ref t10, .ref t12])) = HL2 at P0 K0 AL eL2 eL1 ⊢
    refine ⟨L1, L2, _, _, rfl, rfl, eL1, eL2, (by show 15 ≤ sizeLine; rw [sizeLine_eq]; decide), fun L3 nL3 => ?_⟩
    refine ⟨p, l, L3, c, [.non, .bl true, .str "1", .ref t0, .ref t1, .ref t2, .ref t3, .ref t4, .ref t5, .ref t6, .ref t7, .ref t8, .ref t9, .ref t10, .ref t12], rfl, P0.new nL3, .inl (.inl upd_same), (by show 0 < 15; decide), (by show 15 < 1000000; decide), by omega, fun x H' hx P4 K4 => ?_⟩
    have K5 := K0.new nL3 (o := .lst [.non, .bl true, .str "1", .ref t0, .ref t1, .ref t2, .ref t3, .ref t4, .ref t5, .ref t6, .ref t7, .ref t8, .ref t9, .ref t10, .ref t12])
    have AM := (AL.stay (mask_stay (Stay.new (Stay.refl (H := HL2)) nL3 (o := .lst [.non, .bl true, .str "1", .ref t0, .ref t1, .ref t2, .ref t3, .ref t4, .ref t5, .ref t6, .ref t7, .ref t8, .ref t9, .ref t10, .ref t12])))).stay (mask_stay (K4.stay (P0.new nL3)))
    obtain ⟨d, md, da⟩ := AM.mem hx
    exact k x d H' P4 (K5.trans K4) da md
end
end GG


namespace GG
open PySem PySem.Spec PyProof.Rows L2 LamX
abbrev sLaw : Stmt := topS 50
def qLam : Str := (envOfC "law" (defScope sLaw) 0 0 .none).qual ++ "<lambda>"
def spLaw (K : PySem.W.Frag) (T : Addr) : Sp := fun vs H Q _ => ∃ (a : Addr) (ns : List Int), vs = [.ref a] ∧ SqL K H a (ns.map V.int) ∧ ns.length ≤ 63 ∧ H T = some (.tbl #[]) ∧ ∀ H', Q (.bl true) H'
abbrev N13 : List Str := ["_law_script", "_law_pen_here", "_law_lap", "_law_kinds", "_law_bad", "_law_good", "_law_numbers", "_law_rows", "_law_odd", "_law_more", "_law_given", "_law_text", "_law_k"]
theorem scLaw : FnScope N13 ["_law_script"] (defScope sLaw) := ⟨rfl, rfl, rfl, by decide +kernel, rfl, by decide +kernel, by decide +kernel⟩
/-- list(xs), a place that is not that of sys.modules -/
theorem call_list_ofM {X : Cx} : CallR X (.type "list") (fun xs H Q => ∃ p ys, xs = [.ref p] ∧ (SqL X.K H p ys ∨ SqT X.K H p ys) ∧ ∀ l, H l = none → l ≠ sysModules → Q (.ref l) (upd H l (.lst ys))) := by
  intro pins s σ H xs us Q I r h
  obtain ⟨p, ys, rfl, hq, q⟩ := h
  obtain ⟨u, rfl, rx⟩ := vals1 r
  cases rx
  have fin : ∀ (its : List Value), Vals ys its → ys.length ≤ sizeLine → ∀ (h' : Heap) (c' : Nat), (∀ b o', s.heap.get? b = some o' → h'.get? b = some o') →
      h'.get? s.heap.objs.size = some { cls := .type "list", dict := none, data := .seq its.toArray c', slots := #[] } → EP X pins σ Q (.ref s.heap.objs.size) { s with heap := h' } := fun its r' hz h' c' kp e =>
    ⟨.ref s.heap.objs.size, _, I.laid (t' := s.toks) kp (Nat.le_refl _) (show ObjOk X.prog X.w _ h' _ (.lst ys) from ⟨hz, its, c', r', e⟩), rfl, q _ (I.hok.fresh (Nat.le_refl _)) (Nat.ne_of_gt I.big)⟩
  rcases hq with hq | hq
  · obtain ⟨its, r', pl, hz⟩ := I.list hq
    have hlen := r'.length
    obtain ⟨o, ho, hc, n, hd⟩ := pl.isList
    exact call_list_seq p (.inl rfl) ho hc hd (fun h' c' kp e => fin its r' hz h' c' kp e) (by simp only [List.size_toArray] <;> omega)
  · obtain ⟨its, r', pl, hz⟩ := I.tuple hq
    have hlen := r'.length
    obtain ⟨o, ho, hc, n, hd⟩ := pl
    exact call_list_seq p (.inr rfl) ho hc hd (fun h' c' kp e => fin its r' hz h' c' kp e) (by simp only [List.size_toArray] <;> omega)
theorem PenAt.put {H : Hp} {p l D : Addr} {c : Int} {o : HO} (h : PenAt H p l c) (np : p ≠ D) (nl : l ≠ D) : PenAt (upd H D o) p l c := by
  obtain ⟨ns, a, d, f, I⟩ := h
  exact ⟨ns, a, d, f, by rw [upd_ne np]; exact I.obj, by rw [upd_ne nl]; exact I.cel, I.len, I.a0, I.d0, I.c0, I.f0, I.f1⟩
theorem PenAt.ne {H : Hp} {p l D : Addr} {c : Int} (h : PenAt H p l c) (n : H D = none) : p ≠ D ∧ l ≠ D := by
  obtain ⟨ns, a, d, f, I⟩ := h
  exact ⟨ne_of_none I.obj n, ne_of_none I.cel n⟩
theorem Tabs.put {T : List (Addr × Str)} {H : Hp} {D : Addr} {xs : List V} {o : HO} (t : Tabs T H) (e : H D = some (.lst xs)) : Tabs T (upd H D o) := fun z hz => by
  obtain ⟨ps, ez, ok, all⟩ := t z hz
  have n : z.1 ≠ D := fun q => by
    rw [q, e] at ez
    cases ez
  refine ⟨ps, by rw [upd_ne n]; exact ez, ok, fun pos cv hc => ?_⟩
  obtain ⟨c', rfl, ec⟩ := all pos cv hc
  have n2 : c' ≠ D := fun q => by
    rw [q, e] at ec
    unfold CodeO at ec
    cases ec
  exact ⟨c', rfl, by rw [upd_ne n2]; exact ec⟩
theorem DaAll.set {H : Hp} {v : V} {d : PyData} (h : Da H v d) : ∀ {vs : List V} {ds : List PyData} {i : Nat}, DaAll H vs ds → DaAll H (vs.set i v) (ds.set i d)
  | _, _, _, .nil => .nil
  | _, _, 0, .cons a t => .cons h t
  | _, _, i + 1, .cons a t => .cons a (DaAll.set h t)
theorem DaAll.ints {H : Hp} : ∀ ns : List Int, DaAll H (ns.map V.int) (ns.map PyData.int)
  | [] => .nil
  | n :: ns => .cons (.int n) (DaAll.ints ns)
theorem DaAll.app {H : Hp} : ∀ {vs ws : List V} {ds es : List PyData}, DaAll H vs ds → DaAll H ws es → DaAll H (vs ++ ws) (ds ++ es)
  | _, _, _, _, .nil, h => h
  | _, _, _, _, .cons a t, h => .cons a (t.app h)
theorem cut1 {xs : List V} (h : xs ≠ []) : cutV xs (some 1) none = xs.drop 1 := by
  unfold cutV
  have e : HT.sIx xs.length 0 (some 1) = 1 := by
    have q := HT.sIx_nat xs.length 0 1
    have l : 1 ≤ xs.length := by
      cases xs with
      | nil => exact absurd rfl h
      | cons _ _ => exact Nat.le_add_left _ _
    rw [show (some (1 : Int)) = some ((1 : Nat) : Int) from rfl, q]
    omega
  rw [e, HT.sIx_none, List.take_of_length_le]
  rw [List.length_drop]
  exact Nat.le_refl _
theorem given_eq (n : Nat) (x : V) (r : List V) : (List.replicate n [x]).flatten ++ r = List.replicate n x ++ r := by
  induction n with
  | zero => rfl
  | succ n ih =>
    rw [List.replicate_succ, List.flatten_cons, List.append_assoc, ih, List.replicate_succ]
    rfl
def yD (d : PyData) : Prop := isZ d = false ∧ smallR d ∧ Sw 8 2000 d
theorem y_odd {d : PyData} (h : d ∈ oddD) : yD d := by
  have o := odd_ok d h
  refine ⟨?_, o.2.1, Sw.odd d h⟩
  unfold isZ
  rw [o.1]
  rfl
theorem y_m1 : yD (.int (-1)) := ⟨by decide, by show (-1 : Int).natAbs < 2 ^ 120; decide, (Sw.int (by decide)).mono (by decide) (Nat.le_refl _)⟩
theorem y_m12 : yD (.tuple [.int (-1), .int 2]) := ⟨by decide +kernel, ⟨by decide, by decide⟩, ⟨by decide +kernel, by decide +kernel, by decide +kernel, by decide +kernel⟩⟩
/-! ### tuples of texts and numbers, held against one another -/
theorem ok_lit (s : String) : PyData.strOk (Str.ofString s) = true := ok_of
def dNum (x y : Str) : PyData := .tuple [.str "number", .str x, .str y]
theorem num_dp {K : PySem.W.Frag} {H : Hp} {t : Addr} {x y : Str} (e : H t = some (.tup [.str "number", .str x, .str y])) : Dp K H (.ref t) (dNum x y) := .tup (.inl (.inl e)) (.cons (.str _) (.cons (.str _) (.cons (.str _) .nil)))
theorem num_shaped {x y : Str} (hx : PyData.strOk x = true) (hy : PyData.strOk y = true) : SeqAt.shaped (dNum x y) = true := by
  have h2 : PyData.depth (dNum x y) ≤ 64 := by simp [dNum, PyData.depth, PyData.depthAll]
  have h1 : PyData.strOk "number" = true := ok_of
  show (PyData.canLay0 _ && decide (PyData.depth (dNum x y) ≤ 64)) = true
  rw [Bool.and_eq_true]
  exact ⟨by simp [dNum, PyData.canLay0, PyData.canLayAll0, h1, hx, hy], decide_eq_true h2⟩
theorem num_eqv (x y : Str) : PyData.eqv (dNum x y) (dNum x y) = true := by simp [dNum, PyData.eqv, PyData.eqvAll]
def dRow (y : Str) : PyData := .tuple [.str "row", .str y]
theorem row_dp {K : PySem.W.Frag} {H : Hp} {t : Addr} {y : Str} (e : H t = some (.tup [.str "row", .str y])) : Dp K H (.ref t) (dRow y) := .tup (.inl (.inl e)) (.cons (.str _) (.cons (.str _) .nil))
theorem row_shaped {y : Str} (hy : PyData.strOk y = true) : SeqAt.shaped (dRow y) = true := by
  have h2 : PyData.depth (dRow y) ≤ 64 := by simp [dRow, PyData.depth, PyData.depthAll]
  have h1 : PyData.strOk "row" = true := ok_of
  show (PyData.canLay0 _ && decide (PyData.depth (dRow y) ≤ 64)) = true
  rw [Bool.and_eq_true]
  exact ⟨by simp [dRow, PyData.canLay0, PyData.canLayAll0, h1, hy], decide_eq_true h2⟩
theorem row_eqv (y : Str) : PyData.eqv (dRow y) (dRow y) = true := by simp [dRow, PyData.eqv, PyData.eqvAll]
def dLine : PyData := .tuple [.str "line", .int 0, .int 0]
theorem line_dp {K : PySem.W.Frag} {H : Hp} {t : Addr} (e : H t = some (.tup [.str "line", .int 0, .int 0])) : Dp K H (.ref t) dLine := .tup (.inl (.inl e)) (.cons (.str _) (.cons (.int _) (.cons (.int _) .nil)))
theorem line_shaped : SeqAt.shaped dLine = true := by decide +kernel
theorem line_eqv : PyData.eqv dLine dLine = true := by decide +kernel
/-- what stands behind a name, for the law -/
structure LTxt (P : Program) (w : World) (K : PySem.W.Frag) (mg : Str → Option Value) (base : Heap) (C C2 CN CR : Addr) : Prop where
  range : mg "range" = none
  repr : mg "repr" = none
  list : mg "list" = none
  tuple : mg "tuple" = none
  pen : Kn P w K mg base "_law_pen" 1 ["_law_script"] (spPen K)
  draw : Kn P w K mg base "_law_draw" 1 ["_law_pen_here", "_law_many"] spDraw
  pick : Kn P w K mg base "_law_pick" 2 ["_law_pen_here", "_law_some"] (spPick K)
  any : Kn P w K mg base "_law_any" 3 ["_law_pen_here"] spAny2
  bids : BiTxt P w K mg base C CN CR
  bof : KnX P w K mg base "bids_of" 4 ["kinds", "text"] (spBOf CN C2)
/-- what is known ahead of the calls -/
structure Fx (H : Hp) (T : List (Addr × Str)) (p l g : Addr) (c : Int) (kinds : Nat) (odd bad : V) (dO dB : PyData) : Prop where
  pen : PenAt H p l c
  tabs : Tabs T H
  od : Odd H kinds g odd
  ao : Da H odd dO
  ab : Da H bad dB
  k1 : 1 ≤ kinds
  k3 : kinds ≤ 3
  so : Sw 20 200000 dO
  nb : okK dB = false
  sb : Sw 20 200000 dB
theorem Fx.same {H H' : Hp} {T : List (Addr × Str)} {p l g : Addr} {c : Int} {kinds : Nat} {odd bad : V} {dO dB : PyData} (k : Same H H') (f : Fx H T p l g c kinds odd bad dO dB) : Fx H' T p l g c kinds odd bad dO dB :=
  ⟨f.pen.same k, Tabs.same f.tabs k, f.od.mv fun b o e _ => k b o e, f.ao.stay (Same.stay k), f.ab.stay (Same.stay k), f.k1, f.k3, f.so, f.nb, f.sb⟩
theorem Odd.ext {H H' : Hp} {kinds : Int} {g : Addr} {odd : V} (k : ExtN H H') (h : Odd H kinds g odd) : Odd H' kinds g odd := by
  obtain ⟨n, good, rest, dg, d, e, n9, a1, b1, c1, a2, b2, c2⟩ := h
  exact ⟨n, good, rest, dg, d, k _ _ e (fun _ z => by cases z), n9, a1.ext k, b1, c1, a2.ext k, b2, c2⟩
theorem Fx.ext {H H' : Hp} {T : List (Addr × Str)} {p l g : Addr} {c : Int} {kinds : Nat} {odd bad : V} {dO dB : PyData} (k : ExtN H H') (t : Tabs T H') (f : Fx H T p l g c kinds odd bad dO dB) : Fx H' T p l g c kinds odd bad dO dB :=
  ⟨f.pen.ext k, t, f.od.ext k, f.ao.ext k, f.ab.ext k, f.k1, f.k3, f.so, f.nb, f.sb⟩
theorem okK_of {k : Nat} (k1 : 1 ≤ k) (k3 : k ≤ 3) : okK (.int (k : Int)) = true := by
  show (decide (1 ≤ (k : Int)) && decide ((k : Int) ≤ 3)) = true
  rw [decide_eq_true (by omega), decide_eq_true (by omega)]
  rfl
theorem Sw.rep {d : PyData} (h : Sw 20 200000 d) : RepL d := ⟨h.sh, Nat.le_trans h.dp (by decide), Nat.le_trans h.ln (by rw [sizeLine_eq]; decide)⟩
/-- what is new stands beside: a new instance and its dict -/
theorem made_same {H : Hp} {x dx C : Addr} (nx : H x = none) (ndx : H dx = none) (ne : dx ≠ x) : Same H (upd (upd H dx (.own x)) x (.ins C dx [])) :=
  GG.Same.new (GG.Same.new (L2.Same.refl H) ndx) (by rw [upd_ne ne.symm]; exact nx)
theorem keep_same {H Hm H' : Hp} {x : Addr} (S : Same H Hm) (n : H x = none) (K : Keep x Hm H') : Same H H' := fun b o e => K b o (ne_of_none e n) (S b o e)
section
variable {P : Program} {w : World} {K : PySem.W.Frag} {mg : Str → Option Value} {base : Heap}
theorem ok_law {f c Tb g C CN C1 C2 C4 C5 C6 C7 : Addr} {oc kV doc pm ct goc gkV gdoc gpm gcdv gct : Value} {an od gan god : Option Addr} {osl gosl : Array (Option Value)}
    (look : K.lookup f = some ⟨oc, od, .func (PySem.W.fnOf "law" "law" (defArgs sLaw) (defBody sLaw) (defScope sLaw) .none kV doc pm an (.ref c) ct), osl⟩) (code : PySem.W.codeIn K (.ref c) "law" = true)
    (T : LTxt P w K mg base C C2 CN C4) (WT : WTxt K mg CN C1 C2 C4 C5 C6 C7) (W3 : WTxt3 K C1 C2 CN C4)
    (mW : mg "_law_why" = some (.ref g)) (kW : PySem.W.keepIn K (.ref g) = true) (lkW : K.lookup g = some ⟨goc, god, .func (PySem.W.fnOf "_law_why" "_law_why" (defArgs sWhy) (defBody sWhy) (defScope sWhy) .none gkV gdoc gpm gan gcdv gct), gosl⟩) (cW : PySem.W.codeIn K gcdv "_law_why" = true)
    (bW : Binds K (PySem.W.fnOf "_law_why" "_law_why" (defArgs sWhy) (defBody sWhy) (defScope sWhy) .none gkV gdoc gpm gan gcdv gct) ["_law_call"] [])
    (TB : TabB base mg c Tb) :
    FnG P w K mg base 13 f (PySem.W.fnOf "law" "law" (defArgs sLaw) (defBody sLaw) (defScope sLaw) .none kV doc pm an (.ref c) ct) ["_law_script"] (spLaw K Tb) := by
  refine fnGC look code scLaw (fun vs H Q E h => ?_) (fun A outer s H vs Q E noG hr h => ?_)
  · obtain ⟨a, ns, rfl, _⟩ := h
    rfl
  · obtain ⟨a, ns, rfl, S, hl, tb, want⟩ := h
    obtain ⟨fI, fdI, MI, bI, GI⟩ := T.bids.ini
    have hr1 : Room 1 _ := hr.mono (by decide)
    have hr2 : Room 2 _ := hr.mono (by decide)
    have hr3 : Room 3 _ := hr.mono (by decide)
    have hr11 : Room (9 + 2) _ := hr.mono (by decide)
    have hr6 : Room (4 + 2) _ := hr.mono (by decide)
    have hu64 : (A.deeper (envOfC "law" (defScope sLaw) s.heap.objs.size f (.ref c))).units + 64 < cLine := by have := hr.un; omega
    have hu80 : (A.deeper (envOfC "law" (defScope sLaw) s.heap.objs.size f (.ref c))).units + 80 < cLine := by have := hr.un; omega
    have hu100 : (A.deeper (envOfC "law" (defScope sLaw) s.heap.objs.size f (.ref c))).units + 100 < cLine := by have := hr.un; omega
    have hg : (A.deeper (envOfC "law" (defScope sLaw) s.heap.objs.size f (.ref c))).guards = some [] := noG
    refine ⟨_, pss_cons (ps_set (i := 1) scLaw.nd rfl (.inr rfl) (pe_kn T.pen hr1 (pa_cons (pv 0) pa_nil)))
      (pss_cons (ps_for PassesOwn.never rfl (pi_range1 rfl T.range (pa_cons pe_int pa_nil)) (pg_name (i := 2) scLaw.nd rfl (.inl rfl))
        (pss_cons (ps_set (i := 3) scLaw.nd rfl (.inr rfl) (pe_op op_add pe_int (pe_kn T.draw hr1 (pa_cons (pv 1) (pa_cons pe_int pa_nil)))))
        (pss_cons (ps_set (i := 4) scLaw.nd rfl (.inr rfl) (pe_kn T.pick hr2 (pa_cons (pv 1) (pa_cons (pe_lst (pa_cons pe_int (pa_cons pe_int (pa_cons (pe_un un_neg pe_int) (pa_cons pe_bl (pa_cons pe_non (pa_cons pe_str (pa_cons (pe_tup (pa_cons pe_int pa_nil)) (pa_cons (pe_lstM (pa_cons pe_int pa_nil)) (pa_cons (pe_op op_pow pe_int pe_int) pa_nil)))))))))) pa_nil))))
        (pss_cons (ps_set (i := 5) scLaw.nd rfl (.inl rfl) (pe_tup (pa_cons (pe_op op_add pe_int (pe_kn T.draw hr1 (pa_cons (pv 1) (pa_cons pe_int pa_nil)))) (pa_cons (pe_callTy call_tuple_of (by rfl) T.tuple bTuple (pa_cons (pe_lc (own := [("_law_k", 12)]) (g := gName 12) (tt := tYes) rfl scLaw.nd (pi_range1 rfl T.range (pa_cons (pv 3) pa_nil)) (blkOk_by (N := N13) (sc := defScope sLaw) (by decide +kernel)) (fun _ _ _ _ _ => pg_name (i := 12) scLaw.nd rfl (.inl rfl)) (fun _ _ _ _ _ => pts_nil) (fun _ _ _ _ _ => (pe_kn T.draw hr1 (pa_cons (pv 1) (pa_cons pe_int pa_nil))))) pa_nil)) pa_nil))))
        (pss_cons (ps_set (i := 6) scLaw.nd rfl (.inl rfl) (pe_callTy call_list_ofM (by rfl) T.list bList (pa_cons (pe_ix ix_tup (pv 5) pe_int (fun _ _ => rfl)) pa_nil)))
        (pss_cons (ps_asg (pe_kn T.pick hr2 (pa_cons (pv 1) (pa_cons (pe_lst (pa_cons (pe_un un_neg pe_int) (pa_cons (pe_tup (pa_cons (pe_un un_neg pe_int) (pa_cons pe_int pa_nil))) (pa_cons (pe_kn T.any hr3 (pa_cons (pv 1) pa_nil)) pa_nil)))) pa_nil))) (pg_sub (pv 6) (pe_kn T.draw hr1 (pa_cons (pv 1) (pa_cons (pv 3) pa_nil))) set_list))
        (pss_cons (ps_set (i := 7) scLaw.nd rfl (.inl rfl) (pe_lst (pa_cons pe_non (pa_cons pe_int (pa_cons pe_str (pa_cons (pe_tup pa_nil) (pa_cons (pe_tup (pa_cons pe_int pa_nil)) (pa_cons (pe_tup (pa_cons pe_int (pa_cons (pe_ix ix_tup (pv 5) pe_int (fun _ _ => rfl)) (pa_cons pe_int pa_nil)))) (pa_cons (pe_tup (pa_cons pe_bl (pa_cons (pe_ix ix_tup (pv 5) pe_int (fun _ _ => rfl)) pa_nil))) (pa_cons (pe_tup (pa_cons pe_str (pa_cons (pe_ix ix_tup (pv 5) pe_int (fun _ _ => rfl)) pa_nil))) (pa_cons (pe_tup (pa_cons pe_non (pa_cons (pe_ix ix_tup (pv 5) pe_int (fun _ _ => rfl)) pa_nil))) pa_nil)))))))))))
        (pss_cons (ps_expr (pe_bm PySem.F.plainAttrs_list PySem.F.slot_list_append PySem.F.type_list_append mt_append (pv 7) (pa_cons (pe_tup (pa_cons pe_int (pa_cons pe_non pa_nil))) pa_nil)))
        (pss_cons (ps_set (i := 7) scLaw.nd rfl (.inl rfl) (pe_op op_cat (pv 7) (pe_lst (pa_cons (pe_tup (pa_cons pe_int (pa_cons (pe_op op_catT (pe_ix ix_tup (pv 5) pe_int (fun _ _ => rfl)) (pe_tup (pa_cons pe_int pa_nil))) pa_nil))) (pa_cons (pe_tup (pa_cons pe_int (pa_cons (pe_slice sl_tup (pe_ix ix_tup (pv 5) pe_int (fun _ _ => rfl)) (po_some pe_int) po_none) pa_nil))) (pa_cons (pe_lstM (pa_cons pe_int (pa_cons (pv 6) pa_nil))) (pa_cons (pe_tup (pa_cons pe_int (pa_cons (pe_callTy call_tuple_of (by rfl) T.tuple bTuple (pa_cons (pv 6) pa_nil)) pa_nil))) (pa_cons (pe_tup (pa_cons pe_int (pa_cons pe_int pa_nil))) pa_nil))))))))
        (pss_cons (ps_expr (pe_bm PySem.F.plainAttrs_list PySem.F.slot_list_append PySem.F.type_list_append mt_append (pv 7) (pa_cons (pe_disp (pps_cons pe_str pe_int (pps_cons pe_str pe_int pps_nil)) rfl rfl (by intro z; cases z) (by decide)) pa_nil)))
        (pss_cons (ps_par (i := 8) (j := 9) rfl scLaw.nd rfl rfl (by decide) rfl rfl (pa_cons (pe_kn T.pick hr2 (pa_cons (pv 1) (pa_cons (pv 7) pa_nil))) (pa_cons (pe_kn T.pick hr2 (pa_cons (pv 1) (pa_cons (pv 7) pa_nil))) pa_nil)) rfl)
        (pss_cons (ps_set (i := 10) scLaw.nd rfl (.inr rfl) (pe_op op_cat (pe_op op_rep (pe_lst (pa_cons (pv 5) pa_nil)) (pe_kn T.draw hr1 (pa_cons (pv 1) (pa_cons pe_int pa_nil)))) (pe_lst (pa_cons (pv 8) (pa_cons (pv 5) (pa_cons (pv 9) pa_nil))))))
        (pss_cons (ps_if (pt_cmpR (op_neD hu64) (pe_lamcall (T := [(Tb, qLam)]) (t := fun E => tMake C (spInit C CN C4) [] E (tCons (tVar 4) (tCons (tVar 10) tNil))) rfl mW kW lkW cW bW scWhy rfl (.inl rfl) (why_gives3 WT W3 hg hu100) TB rfl (List.mem_singleton.mpr rfl) (fun p hp _ => by rw [List.mem_singleton.mp hp]; rfl) hr11 (lamS_by (by kernel_rfl)) rfl (fun _ _ _ _ _ => rfl)
              (fun A outer s H E f c' hr' => pe_make MI GI (hr'.mono (by decide)) rfl T.bids.m bI .nil (passes_call (takes_of rfl rfl rfl rfl) (fun _ _ _ _ z => z)) (pa_cons (pv 4) (pa_cons (pv 10) pa_nil)))) (pe_tup (pa_cons pe_str (pa_cons pe_str (pa_cons (pe_callB (call_reprD hg hu80) (by rfl) T.repr bRepr (pa_cons (pv 4) pa_nil)) pa_nil)))) (nomark _)) (pss_one (ps_ret pe_bl)) pss_nil)
        (pss_cons (ps_if (pt_cmpR (op_neD hu64) (pe_lamcall (T := [(Tb, qLam)]) (t := fun E => tMake C (spInit C CN C4) [] E (tCons (tVar 3) (tCons (tVar 10) tNil))) rfl mW kW lkW cW bW scWhy rfl (.inl rfl) (why_gives3 WT W3 hg hu100) TB rfl (List.mem_singleton.mpr rfl) (fun p hp _ => by rw [List.mem_singleton.mp hp]; rfl) hr11 (lamS_by (by kernel_rfl)) rfl (fun _ _ _ _ _ => rfl)
              (fun A outer s H E f c' hr' => pe_make MI GI (hr'.mono (by decide)) rfl T.bids.m bI .nil (passes_call (takes_of rfl rfl rfl rfl) (fun _ _ _ _ z => z)) (pa_cons (pv 3) (pa_cons (pv 10) pa_nil)))) (pe_tup (pa_cons pe_str (pa_cons (pe_callB (call_reprD hg hu80) (by rfl) T.repr bRepr (pa_cons (pv 8) pa_nil)) pa_nil))) (nomark _)) (pss_one (ps_ret pe_bl)) pss_nil)
        (pss_cons (ps_set (i := 11) scLaw.nd rfl (.inr rfl) (pe_kn T.pick hr2 (pa_cons (pv 1) (pa_cons (pe_lst (pa_cons pe_non (pa_cons pe_int (pa_cons (pe_lstM pa_nil) (pa_cons (pe_tup (pa_cons pe_str pa_nil)) (pa_cons pe_bl (pa_cons (pe_disp (pps_cons pe_str pe_int pps_nil) rfl rfl (by intro z; cases z) (by decide)) pa_nil))))))) pa_nil))))
        (pss_cons (ps_if (pt_cmpR (op_neD hu64) (pe_lamcall (T := [(Tb, qLam)]) (t := fun E => tCall (spBOf CN C2) [] E (tCons (tVar 4) (tCons (tVar 11) tNil))) rfl mW kW lkW cW bW scWhy rfl (.inl rfl) (why_gives3 WT W3 hg hu100) TB rfl (List.mem_singleton.mpr rfl) (fun p hp _ => by rw [List.mem_singleton.mp hp]; rfl) hr6 (lamS_by (by kernel_rfl)) rfl (fun _ _ _ _ _ => rfl)
              (fun A outer s H E f c' hr' => pe_knX T.bof (hr'.mono (by decide)) (takes_of rfl rfl rfl rfl) (fun _ _ _ _ z => z) (pa_cons (pv 4) (pa_cons (pv 11) pa_nil)))) (pe_tup (pa_cons pe_str (pa_cons pe_str (pa_cons (pe_callB (call_reprD hg hu80) (by rfl) T.repr bRepr (pa_cons (pv 4) pa_nil)) pa_nil)))) (nomark _)) (pss_one (ps_ret pe_bl)) pss_nil)
        (pss_one (ps_if (pt_cmpR (op_neD hu64) (pe_lamcall (T := [(Tb, qLam)]) (t := fun E => tCall (spBOf CN C2) [] E (tCons (tVar 3) (tCons (tVar 11) tNil))) rfl mW kW lkW cW bW scWhy rfl (.inl rfl) (why_gives3 WT W3 hg hu100) TB rfl (List.mem_singleton.mpr rfl) (fun p hp _ => by rw [List.mem_singleton.mp hp]; rfl) hr6 (lamS_by (by kernel_rfl)) rfl (fun _ _ _ _ _ => rfl)
              (fun A outer s H E f c' hr' => pe_knX T.bof (hr'.mono (by decide)) (takes_of rfl rfl rfl rfl) (fun _ _ _ _ z => z) (pa_cons (pv 3) (pa_cons (pv 11) pa_nil)))) (pe_tup (pa_cons pe_str (pa_cons pe_int (pa_cons pe_int pa_nil)))) (nomark _)) (pss_one (ps_ret pe_bl)) pss_nil))))))))))))))))))
      (pss_one (ps_ret pe_bl))), ?_⟩
    refine ⟨_, rfl, a, ns, rfl, S, hl, fun p l H1 P1 np nl S1 => ?_⟩
    have Q1 : Tabs [(Tb, qLam)] H1 := fun z hz => by
      rw [List.mem_singleton.mp hz]
      exact TabS.nil (S1 _ _ tb)
    refine ⟨6, rfl, by decide, by decide, for_range (n := 6) (fun i σ H' => ∃ (c : Int) (v2 v3 v4 v5 v6 v7 v8 v9 v10 v11 : Option V), σ = [some (.ref a), some (.ref p), v2, v3, v4, v5, v6, v7, v8, v9, v10, v11, none] ∧ PenAt H' p l c ∧ c ≤ 30 * i ∧ Tabs [(Tb, qLam)] H')
      ⟨0, none, none, none, none, none, none, none, none, none, none, rfl, P1, by decide, Q1⟩ ?_ ?_⟩
    · rintro i σ H2 hi ⟨c0, v2, v3, v4, v5, v6, v7, v8, v9, v10, v11, rfl, P, hc, Q⟩
      clear P1 Q1 S1 tb S
      -- kinds
      refine ⟨_, rfl, p, l, c0, 3, rfl, P, by decide, by decide, by omega, fun m H3 m0 m1 P3 K3 => ⟨_, _, rfl, rfl, ?_⟩⟩
      replace Q := Tabs.keep Q K3 P
      replace P := P3
      clear P3 K3
      obtain ⟨k, rfl⟩ : ∃ k : Nat, m = (k : Int) - 1 := ⟨(m + 1).toNat, by omega⟩
      have ek : 1 + ((k : Int) - 1) = (k : Int) := by omega
      dsimp only
      rw [ek]
      have k1 : 1 ≤ k := by omega
      have k3 : k ≤ 3 := by omega
      clear m0 m1 ek
      have SS := L2.Same.refl H3
      -- bad
      refine ⟨_, rfl, _, rfl, (by show 1 ≤ sizeLine; rw [sizeLine_eq]; decide), fun b1 nb1 => ?_⟩
      have st := GG.Same.new (L2.Same.refl H3) nb1 (o := (.tup [.int 1]))
      replace SS := L2.Same.trans SS st
      have eb1 : (upd H3 b1 (.tup [.int 1])) b1 = some (.tup [.int 1]) := upd_same
      clear st nb1
      generalize (upd H3 b1 (.tup [.int 1])) = Hb1 at SS eb1 ⊢
      refine ⟨(by show 1 ≤ sizeLine; rw [sizeLine_eq]; decide), fun b2 nb2 mb2 => ?_⟩
      have st := GG.Same.new (L2.Same.refl Hb1) nb2 (o := (.lst [.int 2]))
      replace SS := L2.Same.trans SS st
      replace eb1 := st _ _ eb1
      have eb2 : (upd Hb1 b2 (.lst [.int 2])) b2 = some (.lst [.int 2]) := upd_same
      clear st nb2
      generalize (upd Hb1 b2 (.lst [.int 2])) = Hb2 at SS eb2 eb1 ⊢
      refine ⟨_, _, rfl, rfl, ⟨by decide, by decide, by decide⟩, (by show 9 ≤ sizeLine; rw [sizeLine_eq]; decide), fun b3 nb3 => ?_⟩
      have e20 : (10 : Int) ^ (20 : Int).toNat = 100000000000000000000 := by decide +kernel
      dsimp only
      rw [e20]
      have st := GG.Same.new (L2.Same.refl Hb2) nb3 (o := (.lst [.int 0, .int 4, .int (-1), .bl true, .non, .str "2", .ref b1, .ref b2, .int 100000000000000000000]))
      replace SS := L2.Same.trans SS st
      replace eb1 := st _ _ eb1
      replace eb2 := st _ _ eb2
      have eb3 : (upd Hb2 b3 (.lst [.int 0, .int 4, .int (-1), .bl true, .non, .str "2", .ref b1, .ref b2, .int 100000000000000000000])) b3 = some (.lst [.int 0, .int 4, .int (-1), .bl true, .non, .str "2", .ref b1, .ref b2, .int 100000000000000000000]) := upd_same
      clear st nb3
      generalize (upd Hb2 b3 (.lst [.int 0, .int 4, .int (-1), .bl true, .non, .str "2", .ref b1, .ref b2, .int 100000000000000000000])) = Hb3 at SS eb3 eb1 eb2 ⊢
      have AB : DaAll Hb3 [.int 0, .int 4, .int (-1), .bl true, .non, .str "2", .ref b1, .ref b2, .int 100000000000000000000] badKD :=
        .cons (.int _) (.cons (.int _) (.cons (.int _) (.cons (.bl _) (.cons .non (.cons (.str _) (.cons (.tup eb1 (.cons (.int _) .nil)) (.cons (.lst eb2 mb2 (.cons (.int _) .nil)) (.cons (.int _) .nil))))))))
      refine ⟨p, l, b3, _, _, rfl, P.same SS, .inl (.inl eb3), (by show 0 < 9; decide), (by show 9 < 1000000; decide), by omega, fun bad H4 hx P4 K4 => ?_⟩
      clear eb1 eb2 eb3
      have st := K4.stay (P.same SS)
      replace AB := AB.stay st
      replace Q := Tabs.keep (Tabs.same Q SS) K4 (P.same SS)
      replace P := P4
      clear st P4 K4 SS
      have SS := L2.Same.refl H4
      obtain ⟨dB, mB, ab⟩ := AB.mem hx
      obtain ⟨nbB, sB⟩ := badK dB mB
      clear AB hx mB e20 mb2
      -- good
      refine ⟨_, rfl, p, l, _, 9, rfl, P, by decide, by decide, by omega, fun m5 H5 m50 m51 P5 K5 => ⟨_, _, rfl, rfl, ?_⟩⟩
      have st := K5.stay (P.same SS)
      replace ab := ab.stay st
      replace Q := Tabs.keep (Tabs.same Q SS) K5 (P.same SS)
      replace P := P5
      clear st P5 K5 SS
      have SS := L2.Same.refl H5
      refine ⟨_, rfl, (k : Int), rfl, by omega, by omega, fun D nD => ?_⟩
      rw [Int.toNat_natCast]
      obtain ⟨pD, lD⟩ := P.ne nD
      refine lc_range (lo := 0) (n := k) (fun j H' => ∃ (c' : Int) (ns : List Int), PenAt H' p l c' ∧ c' ≤ c0 + 3 + j ∧ Keep p H5 H' ∧ H' D = some (.lst (ns.map V.int)) ∧ ns.length = j ∧ ∀ z ∈ ns, 0 ≤ z ∧ z ≤ 9) ⟨_, [], P.new nD, by omega, Keep.refl.new nD, upd_same, rfl, fun z hz => (nomatch hz)⟩ ?_ ?_
      · rintro j H' hj ⟨c', ns', P', hc', K', eD, ln, bn⟩
        refine ⟨rfl, ?_⟩
        refine ⟨_, rfl, p, l, _, 9, rfl, P', by decide, by decide, by omega, fun r H'' r0 r1 P'' K'' => ?_⟩
        refine ⟨_, K'' D _ pD.symm eD, by rw [List.length_map, ln, sizeLine_eq]; omega, _, ns' ++ [r], P''.put pD lD, by omega, ?_, ?_, ?_, ?_⟩
        · intro b o nb e
          rw [upd_ne (ne_of_none e nD)]
          exact K'' b o nb (K' b o nb e)
        · rw [upd_same, List.map_append]
          rfl
        · rw [List.length_append, ln]
          rfl
        · intro z hz
          rcases List.mem_append.mp hz with q | q
          · exact bn z q
          · rw [List.mem_singleton.mp q]
            omega
      rintro H6 ⟨c6, gs, P6, hc6, K6, eD, ln, bn⟩
      clear nD pD lD
      have st := K6.stay (P.same SS)
      replace ab := ab.stay st
      replace Q := Tabs.keep (Tabs.same Q SS) K6 (P.same SS)
      replace P := P6
      clear st P6 K6 SS
      have SS := L2.Same.refl H6
      refine ⟨D, _, rfl, .inl ⟨.inl (.inl eD), fun gt ngt => ?_⟩⟩
      have st := GG.Same.new (L2.Same.refl H6) ngt (o := (.tup (gs.map V.int)))
      replace SS := L2.Same.trans SS st
      replace ab := ab.stay (Same.stay st)
      replace eD := st _ _ eD
      have egt : (upd H6 gt (.tup (gs.map V.int))) gt = some (.tup (gs.map V.int)) := upd_same
      clear st ngt
      generalize (upd H6 gt (.tup (gs.map V.int))) = Hgt at SS egt ab eD ⊢
      clear eD
      refine ⟨(by show 2 ≤ sizeLine; rw [sizeLine_eq]; decide), fun gd ngd => ?_⟩
      have st := GG.Same.new (L2.Same.refl Hgt) ngd (o := (.tup [.int (1 + m5), .ref gt]))
      replace SS := L2.Same.trans SS st
      replace ab := ab.stay (Same.stay st)
      replace egt := st _ _ egt
      have egd : (upd Hgt gd (.tup [.int (1 + m5), .ref gt])) gd = some (.tup [.int (1 + m5), .ref gt]) := upd_same
      clear st ngd
      generalize (upd Hgt gd (.tup [.int (1 + m5), .ref gt])) = Hgd at SS egd ab egt ⊢
      have ag : Da Hgd (.ref gd) (.tuple [.int (1 + m5), .tuple (gs.map PyData.int)]) := .tup egd (.cons (.int _) (.cons (.tup egt (DaAll.ints gs)) .nil))
      have bg : isBid (.tuple [.int (1 + m5), .tuple (gs.map PyData.int)]) (k : Int) = true := by
        show (true && (decide (((gs.map PyData.int).length : Int) = k) && (gs.map PyData.int).all isZ)) = true
        rw [List.length_map, ln, decide_eq_true rfl, Bool.true_and, Bool.true_and, List.all_eq_true]
        intro d hd
        obtain ⟨z, hz, rfl⟩ := List.mem_map.mp hd
        have := bn z hz
        show (true && decide (0 ≤ z)) = true
        rw [decide_eq_true this.1]
        rfl
      have sg : smallBid (.tuple [.int (1 + m5), .tuple (gs.map PyData.int)]) := by
        refine ⟨?_, fun d hd => ?_⟩
        · rw [List.length_map]
          omega
        · obtain ⟨z, hz, rfl⟩ := List.mem_map.mp hd
          have := bn z hz
          show z.natAbs < 2 ^ 120
          exact Nat.lt_of_lt_of_le (show z.natAbs < 2 ^ 4 by omega) (Nat.pow_le_pow_right (by decide) (by decide))
      -- numbers
      refine ⟨_, rfl, gd, _, _, _, rfl, rfl, .inl (.inl egd), atI_nat (j := 1) rfl, gt, _, rfl, .inr (.inl (.inl egt)), fun nm nnm mnm => ?_⟩
      replace Q := Tabs.same Q SS
      replace P := P.same SS
      clear SS
      have SS := L2.Same.refl Hgd
      have nm0 := nnm
      have PH := P
      have egd0 := egd
      have egt0 := egt
      have ag0 := ag
      have ab0 := ab
      have st := GG.Same.new (L2.Same.refl Hgd) nnm (o := (.lst (gs.map V.int)))
      replace SS := L2.Same.trans SS st
      have enm : (upd Hgd nm (.lst (gs.map V.int))) nm = some (.lst (gs.map V.int)) := upd_same
      clear st nnm
      generalize (upd Hgd nm (.lst (gs.map V.int))) = Hnm at SS enm ⊢
      have enmN := enm
      have Hn0 : Stay Hgd Hnm := Same.stay SS
      refine ⟨_, rfl, _, rfl, _, rfl, (by show 2 ≤ sizeLine; rw [sizeLine_eq]; decide), fun y1 ny1 => ?_⟩
      have zy1 : Hnm y1 = none := ny1
      replace Q := Tabs.same Q SS
      replace P := P.same SS
      clear SS
      have SS := L2.Same.refl Hnm
      have C0 : Stay Hnm Hnm := Stay.refl
      replace C0 : Stay Hnm (upd Hnm y1 (.tup [.int (-1), .int 2])) := C0.new ny1
      have st := GG.Same.new (L2.Same.refl Hnm) ny1 (o := (.tup [.int (-1), .int 2]))
      replace SS := L2.Same.trans SS st
      replace enm := st _ _ enm
      have ey1 : (upd Hnm y1 (.tup [.int (-1), .int 2])) y1 = some (.tup [.int (-1), .int 2]) := upd_same
      clear st
      generalize (upd Hnm y1 (.tup [.int (-1), .int 2])) = Hy1 at SS C0 ey1 enm ⊢
      have Sy : Same Hnm Hy1 := SS
      refine ⟨_, rfl, p, l, _, rfl, P.same SS, by omega, fun yv dv H7 P7 K7 av mv => ?_⟩
      have st := K7.stay (P.same SS)
      replace C0 := C0.trans st
      replace enm := st _ _ enm (by intro _ _ _ _ _ z; cases z)
      replace ey1 := st _ _ ey1 (by intro _ _ _ _ _ z; cases z)
      replace Q := Tabs.keep (Tabs.same Q SS) K7 (P.same SS)
      replace P := P7
      clear st P7 K7 SS
      have SS := L2.Same.refl H7
      have av1 : Da (mask Hnm H7) yv dv := av.stay fun b o e n => by
        obtain ⟨z, e2⟩ := mask_in e
        refine mask_at ?_ e2
        cases q : Hnm b with
        | none => rfl
        | some u =>
          rw [Sy _ _ q] at z
          cases z
      clear av Sy
      refine ⟨(by show 3 ≤ sizeLine; rw [sizeLine_eq]; decide), fun y2 ny2 => ?_⟩
      replace C0 : Stay Hnm (upd H7 y2 (.lst [.int (-1), .ref y1, yv])) := C0.new ny2
      have st := GG.Same.new (L2.Same.refl H7) ny2 (o := (.lst [.int (-1), .ref y1, yv]))
      replace SS := L2.Same.trans SS st
      replace enm := st _ _ enm
      replace ey1 := st _ _ ey1
      replace av1 := av1.stay (mask_stay (Same.stay st))
      have ey2 : (upd H7 y2 (.lst [.int (-1), .ref y1, yv])) y2 = some (.lst [.int (-1), .ref y1, yv]) := upd_same
      clear st
      generalize (upd H7 y2 (.lst [.int (-1), .ref y1, yv])) = Hy2 at SS C0 ey2 enm ey1 av1 ⊢
      refine ⟨p, l, y2, _, _, rfl, P.same SS, .inl (.inl ey2), (by show 0 < 3; decide), (by show 3 < 1000000; decide), by omega, fun y H8 hy P8 K8 => ?_⟩
      have st := K8.stay (P.same SS)
      replace C0 := C0.trans st
      replace enm := st _ _ enm (by intro _ _ _ _ _ z; cases z)
      replace ey1 := st _ _ ey1 (by intro _ _ _ _ _ z; cases z)
      replace av1 := av1.stay (mask_stay st)
      replace ey2 := st _ _ ey2 (by intro _ _ _ _ _ z; cases z)
      replace Q := Tabs.keep (Tabs.same Q SS) K8 (P.same SS)
      replace P := P8
      clear st P8 K8 SS
      have SS := L2.Same.refl H8
      obtain ⟨dy, ay, yy⟩ : ∃ dy, Da (mask Hnm H8) y dy ∧ yD dy := by
        simp only [List.mem_cons, List.not_mem_nil, or_false] at hy
        rcases hy with rfl | rfl | rfl
        · exact ⟨_, .int _, y_m1⟩
        · exact ⟨_, .tup (mask_at zy1 ey1) (.cons (.int _) (.cons (.int _) .nil)), y_m12⟩
        · exact ⟨dv, av1, y_odd mv⟩
      clear ey1 ey2 av1 hy mv zy1 ny1 ny2
      refine ⟨_, rfl, _, rfl, _, rfl, p, l, _, _, rfl, P, by omega, by omega, by omega, fun j9 H9 j90 j91 P9 K9 => ?_⟩
      have st := K9.stay (P.same SS)
      replace C0 := C0.trans st
      replace ay := ay.stay (mask_stay st)
      replace Q := Tabs.keep (Tabs.same Q SS) K9 (P.same SS)
      replace P := P9
      clear st P9 K9 SS
      have SS := L2.Same.refl H9
      obtain ⟨jn, rfl⟩ : ∃ jn : Nat, j9 = (jn : Int) := ⟨j9.toNat, by omega⟩
      have jl : jn < (gs.map V.int).length := by rw [List.length_map, ln]; omega
      have en9 := C0 _ _ enmN (by intro _ _ _ _ _ z; cases z)
      refine ⟨nm, _, _, jn, rfl, rfl, en9, Evl.ixN_nat jl, ?_⟩

      have np : p ≠ nm := fun z => by
        obtain ⟨_, _, _, _, I⟩ := P
        rw [← z, I.obj] at en9
        cases en9
      have nl2 : l ≠ nm := (PenAt.ne PH nm0).2
      replace P := P.put np nl2 (o := .lst ((gs.map V.int).set jn y))
      replace Q := Tabs.put Q en9 (o := .lst ((gs.map V.int).set jn y))
      have CC : Stay Hgd (upd H9 nm (.lst ((gs.map V.int).set jn y))) := fun b o e n => by
        rw [upd_ne (ne_of_none e nm0)]
        exact C0 b o (Hn0 b o e n) n
      have AY : Da (upd H9 nm (.lst ((gs.map V.int).set jn y))) y dy := ay.stay fun b o e n => by
        obtain ⟨z, e2⟩ := mask_in e
        rw [upd_ne (fun q => by rw [q, enmN] at z; cases z)]
        exact e2
      have egd := CC _ _ egd0 (by intro _ _ _ _ _ z; cases z)
      have egt := CC _ _ egt0 (by intro _ _ _ _ _ z; cases z)
      have ag := ag0.stay CC
      have ab := ab0.stay CC
      have en : (upd H9 nm (.lst ((gs.map V.int).set jn y))) nm = some (.lst ((gs.map V.int).set jn y)) := upd_same
      have AN : DaAll (upd H9 nm (.lst ((gs.map V.int).set jn y))) ((gs.map V.int).set jn y) ((gs.map PyData.int).set jn dy) := (DaAll.ints gs).set AY
      clear CC AY ay C0 Hn0 egd0 egt0 ag0 ab0 enm enmN en9 np nl2 PH SS nm0
      have rows := rows_odd (kinds := (k : Int)) (ns := gs) (ms := (gs.map PyData.int).set jn dy) (by omega) (by omega) (by rw [ln]) (by rw [List.length_set, List.length_map, ln]; omega) bn (fun d hd => by
        rcases List.mem_or_eq_of_mem_set hd with q | rfl
        · obtain ⟨z, hz, rfl⟩ := List.mem_map.mp q
          have := bn z hz
          refine ⟨?_, (Sw.int ?_).mono (by decide) (Nat.le_refl _)⟩
          · show z.natAbs < 2 ^ 120
            exact Nat.lt_of_lt_of_le (show z.natAbs < 2 ^ 4 by omega) (Nat.pow_le_pow_right (by decide) (by decide))
          · exact Nat.lt_of_lt_of_le (show z.natAbs < 2 ^ 4 by omega) (Nat.pow_le_pow_right (by decide) (by decide))
        · exact yy.2) ⟨dy, List.mem_set (by rw [List.length_map] at jl ⊢; exact jl) dy, yy.1⟩
      have gne : gs.map V.int ≠ [] := fun q => by
        have q2 := congrArg List.length q
        rw [List.length_map, ln] at q2
        have q3 : ([] : List V).length = 0 := rfl
        omega
      have gl : (gs.map V.int).length = k := by rw [List.length_map, ln]
      generalize (upd H9 nm (.lst ((gs.map V.int).set jn y))) = H10 at P Q egd egt ag ab en AN ⊢
      generalize (gs.map V.int).set jn y = nv at en AN ⊢
      generalize (gs.map PyData.int).set jn dy = nd at AN rows
      clear yy jl j90 j91 y dy
      have SS := L2.Same.refl H10
      -- rows
      refine ⟨(by show 0 ≤ sizeLine; rw [sizeLine_eq]; decide), fun r1 nr1 => ?_⟩
      have st := GG.Same.new (L2.Same.refl H10) nr1 (o := (.tup []))
      replace SS := L2.Same.trans SS st
      replace egd := st _ _ egd
      replace egt := st _ _ egt
      replace ag := ag.stay (Same.stay st)
      replace ab := ab.stay (Same.stay st)
      replace en := st _ _ en
      replace AN := AN.stay (Same.stay st)
      have er1 : (upd H10 r1 (.tup [])) r1 = some (.tup []) := upd_same
      clear st nr1
      generalize (upd H10 r1 (.tup [])) = Hr1 at SS er1 egd egt ag ab en AN ⊢
      refine ⟨(by show 1 ≤ sizeLine; rw [sizeLine_eq]; decide), fun r2 nr2 => ?_⟩
      have st := GG.Same.new (L2.Same.refl Hr1) nr2 (o := (.tup [.int 1]))
      replace SS := L2.Same.trans SS st
      replace egd := st _ _ egd
      replace egt := st _ _ egt
      replace ag := ag.stay (Same.stay st)
      replace ab := ab.stay (Same.stay st)
      replace en := st _ _ en
      replace AN := AN.stay (Same.stay st)
      replace er1 := st _ _ er1
      have er2 : (upd Hr1 r2 (.tup [.int 1])) r2 = some (.tup [.int 1]) := upd_same
      clear st nr2
      generalize (upd Hr1 r2 (.tup [.int 1])) = Hr2 at SS er2 egd egt ag ab en AN er1 ⊢
      refine ⟨_, rfl, gd, _, _, _, rfl, rfl, .inl (.inl egd), atI_nat (j := 1) rfl, (by show 3 ≤ sizeLine; rw [sizeLine_eq]; decide), fun r3 nr3 => ?_⟩
      have st := GG.Same.new (L2.Same.refl Hr2) nr3 (o := (.tup [.int 1, .ref gt, .int 2]))
      replace SS := L2.Same.trans SS st
      replace egd := st _ _ egd
      replace egt := st _ _ egt
      replace ag := ag.stay (Same.stay st)
      replace ab := ab.stay (Same.stay st)
      replace en := st _ _ en
      replace AN := AN.stay (Same.stay st)
      replace er1 := st _ _ er1
      replace er2 := st _ _ er2
      have er3 : (upd Hr2 r3 (.tup [.int 1, .ref gt, .int 2])) r3 = some (.tup [.int 1, .ref gt, .int 2]) := upd_same
      clear st nr3
      generalize (upd Hr2 r3 (.tup [.int 1, .ref gt, .int 2])) = Hr3 at SS er3 egd egt ag ab en AN er1 er2 ⊢
      refine ⟨_, rfl, gd, _, _, _, rfl, rfl, .inl (.inl egd), atI_nat (j := 1) rfl, (by show 2 ≤ sizeLine; rw [sizeLine_eq]; decide), fun r4 nr4 => ?_⟩
      have st := GG.Same.new (L2.Same.refl Hr3) nr4 (o := (.tup [.bl true, .ref gt]))
      replace SS := L2.Same.trans SS st
      replace egd := st _ _ egd
      replace egt := st _ _ egt
      replace ag := ag.stay (Same.stay st)
      replace ab := ab.stay (Same.stay st)
      replace en := st _ _ en
      replace AN := AN.stay (Same.stay st)
      replace er1 := st _ _ er1
      replace er2 := st _ _ er2
      replace er3 := st _ _ er3
      have er4 : (upd Hr3 r4 (.tup [.bl true, .ref gt])) r4 = some (.tup [.bl true, .ref gt]) := upd_same
      clear st nr4
      generalize (upd Hr3 r4 (.tup [.bl true, .ref gt])) = Hr4 at SS er4 egd egt ag ab en AN er1 er2 er3 ⊢
      refine ⟨_, rfl, gd, _, _, _, rfl, rfl, .inl (.inl egd), atI_nat (j := 1) rfl, (by show 2 ≤ sizeLine; rw [sizeLine_eq]; decide), fun r5 nr5 => ?_⟩
      have st := GG.Same.new (L2.Same.refl Hr4) nr5 (o := (.tup [.str "1", .ref gt]))
      replace SS := L2.Same.trans SS st
      replace egd := st _ _ egd
      replace egt := st _ _ egt
      replace ag := ag.stay (Same.stay st)
      replace ab := ab.stay (Same.stay st)
      replace en := st _ _ en
      replace AN := AN.stay (Same.stay st)
      replace er1 := st _ _ er1
      replace er2 := st _ _ er2
      replace er3 := st _ _ er3
      replace er4 := st _ _ er4
      have er5 : (upd Hr4 r5 (.tup [.str "1", .ref gt])) r5 = some (.tup [.str "1", .ref gt]) := upd_same
      clear st nr5
      generalize (upd Hr4 r5 (.tup [.str "1", .ref gt])) = Hr5 at SS er5 egd egt ag ab en AN er1 er2 er3 er4 ⊢
      refine ⟨_, rfl, gd, _, _, _, rfl, rfl, .inl (.inl egd), atI_nat (j := 1) rfl, (by show 2 ≤ sizeLine; rw [sizeLine_eq]; decide), fun r6 nr6 => ?_⟩
      have st := GG.Same.new (L2.Same.refl Hr5) nr6 (o := (.tup [.non, .ref gt]))
      replace SS := L2.Same.trans SS st
      replace egd := st _ _ egd
      replace egt := st _ _ egt
      replace ag := ag.stay (Same.stay st)
      replace ab := ab.stay (Same.stay st)
      replace en := st _ _ en
      replace AN := AN.stay (Same.stay st)
      replace er1 := st _ _ er1
      replace er2 := st _ _ er2
      replace er3 := st _ _ er3
      replace er4 := st _ _ er4
      replace er5 := st _ _ er5
      have er6 : (upd Hr5 r6 (.tup [.non, .ref gt])) r6 = some (.tup [.non, .ref gt]) := upd_same
      clear st nr6
      generalize (upd Hr5 r6 (.tup [.non, .ref gt])) = Hr6 at SS er6 egd egt ag ab en AN er1 er2 er3 er4 er5 ⊢
      refine ⟨(by show 9 ≤ sizeLine; rw [sizeLine_eq]; decide), fun L1 nL1 => ?_⟩
      have nL0 := nL1
      refine ⟨_, rfl, .inl ⟨rfl, _, SqL.of upd_same⟩, (by show 2 ≤ sizeLine; rw [sizeLine_eq]; decide), fun r7 nr7 => ?_⟩
      have n7 : Hr6 r7 = none := by
        cases q : Hr6 r7 with
        | none => rfl
        | some u =>
          rw [upd_ne (ne_of_none q nL1), q] at nr7
          cases nr7
      have d7 : r7 ≠ L1 := fun q => by
        rw [q, upd_same] at nr7
        cases nr7
      refine ⟨L1, _, _, rfl, rfl, (by rw [upd_ne d7.symm, upd_same]), (by show 9 < sizeLine; rw [sizeLine_eq]; decide), ?_⟩
      have st : Same Hr6 (upd (upd (upd Hr6 L1 (.lst [.non, .int 5, .str "ab", .ref r1, .ref r2, .ref r3, .ref r4, .ref r5, .ref r6])) r7 (.tup [.int 2, .non])) L1 (.lst ([.non, .int 5, .str "ab", .ref r1, .ref r2, .ref r3, .ref r4, .ref r5, .ref r6] ++ [.ref r7]))) := fun b o e => by
        rw [upd_ne (ne_of_none e nL1), upd_ne (ne_of_none e n7), upd_ne (ne_of_none e nL1)]
        exact e
      have eL1 : (upd (upd (upd Hr6 L1 (.lst [.non, .int 5, .str "ab", .ref r1, .ref r2, .ref r3, .ref r4, .ref r5, .ref r6])) r7 (.tup [.int 2, .non])) L1 (.lst ([.non, .int 5, .str "ab", .ref r1, .ref r2, .ref r3, .ref r4, .ref r5, .ref r6] ++ [.ref r7]))) L1 = some (.lst ([.non, .int 5, .str "ab", .ref r1, .ref r2, .ref r3, .ref r4, .ref r5, .ref r6] ++ [.ref r7])) := upd_same
      have er7 : (upd (upd (upd Hr6 L1 (.lst [.non, .int 5, .str "ab", .ref r1, .ref r2, .ref r3, .ref r4, .ref r5, .ref r6])) r7 (.tup [.int 2, .non])) L1 (.lst ([.non, .int 5, .str "ab", .ref r1, .ref r2, .ref r3, .ref r4, .ref r5, .ref r6] ++ [.ref r7]))) r7 = some (.tup [.int 2, .non]) := by rw [upd_ne d7, upd_same]
      replace SS := L2.Same.trans SS st
      replace egd := st _ _ egd
      replace egt := st _ _ egt
      replace ag := ag.stay (Same.stay st)
      replace ab := ab.stay (Same.stay st)
      replace en := st _ _ en
      replace AN := AN.stay (Same.stay st)
      replace er1 := st _ _ er1
      replace er2 := st _ _ er2
      replace er3 := st _ _ er3
      replace er4 := st _ _ er4
      replace er5 := st _ _ er5
      replace er6 := st _ _ er6
      clear st n7 d7 nr7 nL1 nL0
      generalize (upd (upd (upd Hr6 L1 (.lst [.non, .int 5, .str "ab", .ref r1, .ref r2, .ref r3, .ref r4, .ref r5, .ref r6])) r7 (.tup [.int 2, .non])) L1 (.lst ([.non, .int 5, .str "ab", .ref r1, .ref r2, .ref r3, .ref r4, .ref r5, .ref r6] ++ [.ref r7]))) = H11 at SS eL1 er7 egd egt ag ab en AN er1 er2 er3 er4 er5 er6 ⊢
      refine ⟨_, rfl, _, rfl, gd, _, _, _, rfl, rfl, .inl (.inl egd), atI_nat (j := 1) rfl, (by show 1 ≤ sizeLine; rw [sizeLine_eq]; decide), fun s1 ns1 => ?_⟩
      have st := GG.Same.new (L2.Same.refl H11) ns1 (o := (.tup [.int 0]))
      replace SS := L2.Same.trans SS st
      replace egd := st _ _ egd
      replace egt := st _ _ egt
      replace ag := ag.stay (Same.stay st)
      replace ab := ab.stay (Same.stay st)
      replace en := st _ _ en
      replace AN := AN.stay (Same.stay st)
      replace er1 := st _ _ er1
      replace er2 := st _ _ er2
      replace er3 := st _ _ er3
      replace er4 := st _ _ er4
      replace er5 := st _ _ er5
      replace er6 := st _ _ er6
      replace eL1 := st _ _ eL1
      replace er7 := st _ _ er7
      have es1 : (upd H11 s1 (.tup [.int 0])) s1 = some (.tup [.int 0]) := upd_same
      clear st ns1
      generalize (upd H11 s1 (.tup [.int 0])) = Hs1 at SS es1 egd egt ag ab en AN er1 er2 er3 er4 er5 er6 eL1 er7 ⊢
      refine ⟨gt, s1, _, _, rfl, rfl, .inl (.inl egt), .inl (.inl es1), gne, (by rw [gl, sizeLine_eq]; show k + 1 ≤ _; omega), (fun z => by cases z), fun _ s2 ns2 => ?_⟩
      have st := GG.Same.new (L2.Same.refl Hs1) ns2 (o := (.tup (gs.map V.int ++ [.int 0])))
      replace SS := L2.Same.trans SS st
      replace egd := st _ _ egd
      replace egt := st _ _ egt
      replace ag := ag.stay (Same.stay st)
      replace ab := ab.stay (Same.stay st)
      replace en := st _ _ en
      replace AN := AN.stay (Same.stay st)
      replace er1 := st _ _ er1
      replace er2 := st _ _ er2
      replace er3 := st _ _ er3
      replace er4 := st _ _ er4
      replace er5 := st _ _ er5
      replace er6 := st _ _ er6
      replace eL1 := st _ _ eL1
      replace er7 := st _ _ er7
      replace es1 := st _ _ es1
      have es2 : (upd Hs1 s2 (.tup (gs.map V.int ++ [.int 0]))) s2 = some (.tup (gs.map V.int ++ [.int 0])) := upd_same
      clear st ns2
      generalize (upd Hs1 s2 (.tup (gs.map V.int ++ [.int 0]))) = Hs2 at SS es2 egd egt ag ab en AN er1 er2 er3 er4 er5 er6 eL1 er7 es1 ⊢
      refine ⟨(by show 2 ≤ sizeLine; rw [sizeLine_eq]; decide), fun s3 ns3 => ?_⟩
      have st := GG.Same.new (L2.Same.refl Hs2) ns3 (o := (.tup [.int 1, .ref s2]))
      replace SS := L2.Same.trans SS st
      replace egd := st _ _ egd
      replace egt := st _ _ egt
      replace ag := ag.stay (Same.stay st)
      replace ab := ab.stay (Same.stay st)
      replace en := st _ _ en
      replace AN := AN.stay (Same.stay st)
      replace er1 := st _ _ er1
      replace er2 := st _ _ er2
      replace er3 := st _ _ er3
      replace er4 := st _ _ er4
      replace er5 := st _ _ er5
      replace er6 := st _ _ er6
      replace eL1 := st _ _ eL1
      replace er7 := st _ _ er7
      replace es1 := st _ _ es1
      replace es2 := st _ _ es2
      have es3 : (upd Hs2 s3 (.tup [.int 1, .ref s2])) s3 = some (.tup [.int 1, .ref s2]) := upd_same
      clear st ns3
      generalize (upd Hs2 s3 (.tup [.int 1, .ref s2])) = Hs3 at SS es3 egd egt ag ab en AN er1 er2 er3 er4 er5 er6 eL1 er7 es1 es2 ⊢
      refine ⟨_, rfl, gd, _, _, _, rfl, rfl, .inl (.inl egd), atI_nat (j := 1) rfl, _, rfl, gt, _, rfl, .inl (.inl egt), ?_, fun s4 ns4 => ?_⟩
      · rw [gl]
        have q := HT.sIx_nat k 0 1
        rw [show (some (1 : Int)) = some ((1 : Nat) : Int) from rfl, q]
        omega
      rw [cut1 gne]
      have st := GG.Same.new (L2.Same.refl Hs3) ns4 (o := (.tup ((gs.map V.int).drop 1)))
      replace SS := L2.Same.trans SS st
      replace egd := st _ _ egd
      replace egt := st _ _ egt
      replace ag := ag.stay (Same.stay st)
      replace ab := ab.stay (Same.stay st)
      replace en := st _ _ en
      replace AN := AN.stay (Same.stay st)
      replace er1 := st _ _ er1
      replace er2 := st _ _ er2
      replace er3 := st _ _ er3
      replace er4 := st _ _ er4
      replace er5 := st _ _ er5
      replace er6 := st _ _ er6
      replace eL1 := st _ _ eL1
      replace er7 := st _ _ er7
      replace es1 := st _ _ es1
      replace es2 := st _ _ es2
      replace es3 := st _ _ es3
      have es4 : (upd Hs3 s4 (.tup ((gs.map V.int).drop 1))) s4 = some (.tup ((gs.map V.int).drop 1)) := upd_same
      clear st ns4
      generalize (upd Hs3 s4 (.tup ((gs.map V.int).drop 1))) = Hs4 at SS es4 egd egt ag ab en AN er1 er2 er3 er4 er5 er6 eL1 er7 es1 es2 es3 ⊢
      refine ⟨(by show 2 ≤ sizeLine; rw [sizeLine_eq]; decide), fun s5 ns5 => ?_⟩
      have st := GG.Same.new (L2.Same.refl Hs4) ns5 (o := (.tup [.int 1, .ref s4]))
      replace SS := L2.Same.trans SS st
      replace egd := st _ _ egd
      replace egt := st _ _ egt
      replace ag := ag.stay (Same.stay st)
      replace ab := ab.stay (Same.stay st)
      replace en := st _ _ en
      replace AN := AN.stay (Same.stay st)
      replace er1 := st _ _ er1
      replace er2 := st _ _ er2
      replace er3 := st _ _ er3
      replace er4 := st _ _ er4
      replace er5 := st _ _ er5
      replace er6 := st _ _ er6
      replace eL1 := st _ _ eL1
      replace er7 := st _ _ er7
      replace es1 := st _ _ es1
      replace es2 := st _ _ es2
      replace es3 := st _ _ es3
      replace es4 := st _ _ es4
      have es5 : (upd Hs4 s5 (.tup [.int 1, .ref s4])) s5 = some (.tup [.int 1, .ref s4]) := upd_same
      clear st ns5
      generalize (upd Hs4 s5 (.tup [.int 1, .ref s4])) = Hs5 at SS es5 egd egt ag ab en AN er1 er2 er3 er4 er5 er6 eL1 er7 es1 es2 es3 es4 ⊢
      refine ⟨_, rfl, (by show 2 ≤ sizeLine; rw [sizeLine_eq]; decide), fun s6 ns6 ms6 => ?_⟩
      have st := GG.Same.new (L2.Same.refl Hs5) ns6 (o := (.lst [.int 1, .ref nm]))
      replace SS := L2.Same.trans SS st
      replace egd := st _ _ egd
      replace egt := st _ _ egt
      replace ag := ag.stay (Same.stay st)
      replace ab := ab.stay (Same.stay st)
      replace en := st _ _ en
      replace AN := AN.stay (Same.stay st)
      replace er1 := st _ _ er1
      replace er2 := st _ _ er2
      replace er3 := st _ _ er3
      replace er4 := st _ _ er4
      replace er5 := st _ _ er5
      replace er6 := st _ _ er6
      replace eL1 := st _ _ eL1
      replace er7 := st _ _ er7
      replace es1 := st _ _ es1
      replace es2 := st _ _ es2
      replace es3 := st _ _ es3
      replace es4 := st _ _ es4
      replace es5 := st _ _ es5
      have es6 : (upd Hs5 s6 (.lst [.int 1, .ref nm])) s6 = some (.lst [.int 1, .ref nm]) := upd_same
      clear st ns6
      generalize (upd Hs5 s6 (.lst [.int 1, .ref nm])) = Hs6 at SS es6 egd egt ag ab en AN er1 er2 er3 er4 er5 er6 eL1 er7 es1 es2 es3 es4 es5 ⊢
      refine ⟨_, rfl, nm, _, rfl, .inl ⟨.inl (.inl en), fun s7 ns7 => ?_⟩⟩
      have st := GG.Same.new (L2.Same.refl Hs6) ns7 (o := (.tup nv))
      replace SS := L2.Same.trans SS st
      replace egd := st _ _ egd
      replace egt := st _ _ egt
      replace ag := ag.stay (Same.stay st)
      replace ab := ab.stay (Same.stay st)
      replace en := st _ _ en
      replace AN := AN.stay (Same.stay st)
      replace er1 := st _ _ er1
      replace er2 := st _ _ er2
      replace er3 := st _ _ er3
      replace er4 := st _ _ er4
      replace er5 := st _ _ er5
      replace er6 := st _ _ er6
      replace eL1 := st _ _ eL1
      replace er7 := st _ _ er7
      replace es1 := st _ _ es1
      replace es2 := st _ _ es2
      replace es3 := st _ _ es3
      replace es4 := st _ _ es4
      replace es5 := st _ _ es5
      replace es6 := st _ _ es6
      have es7 : (upd Hs6 s7 (.tup nv)) s7 = some (.tup nv) := upd_same
      clear st ns7
      generalize (upd Hs6 s7 (.tup nv)) = Hs7 at SS es7 egd egt ag ab en AN er1 er2 er3 er4 er5 er6 eL1 er7 es1 es2 es3 es4 es5 es6 ⊢
      refine ⟨(by show 2 ≤ sizeLine; rw [sizeLine_eq]; decide), fun s8 ns8 => ?_⟩
      have st := GG.Same.new (L2.Same.refl Hs7) ns8 (o := (.tup [.int 1, .ref s7]))
      replace SS := L2.Same.trans SS st
      replace egd := st _ _ egd
      replace egt := st _ _ egt
      replace ag := ag.stay (Same.stay st)
      replace ab := ab.stay (Same.stay st)
      replace en := st _ _ en
      replace AN := AN.stay (Same.stay st)
      replace er1 := st _ _ er1
      replace er2 := st _ _ er2
      replace er3 := st _ _ er3
      replace er4 := st _ _ er4
      replace er5 := st _ _ er5
      replace er6 := st _ _ er6
      replace eL1 := st _ _ eL1
      replace er7 := st _ _ er7
      replace es1 := st _ _ es1
      replace es2 := st _ _ es2
      replace es3 := st _ _ es3
      replace es4 := st _ _ es4
      replace es5 := st _ _ es5
      replace es6 := st _ _ es6
      replace es7 := st _ _ es7
      have es8 : (upd Hs7 s8 (.tup [.int 1, .ref s7])) s8 = some (.tup [.int 1, .ref s7]) := upd_same
      clear st ns8
      generalize (upd Hs7 s8 (.tup [.int 1, .ref s7])) = Hs8 at SS es8 egd egt ag ab en AN er1 er2 er3 er4 er5 er6 eL1 er7 es1 es2 es3 es4 es5 es6 es7 ⊢
      refine ⟨(by show 2 ≤ sizeLine; rw [sizeLine_eq]; decide), fun s9 ns9 => ?_⟩
      have st := GG.Same.new (L2.Same.refl Hs8) ns9 (o := (.tup [.int 1, .int 5]))
      replace SS := L2.Same.trans SS st
      replace egd := st _ _ egd
      replace egt := st _ _ egt
      replace ag := ag.stay (Same.stay st)
      replace ab := ab.stay (Same.stay st)
      replace en := st _ _ en
      replace AN := AN.stay (Same.stay st)
      replace er1 := st _ _ er1
      replace er2 := st _ _ er2
      replace er3 := st _ _ er3
      replace er4 := st _ _ er4
      replace er5 := st _ _ er5
      replace er6 := st _ _ er6
      replace eL1 := st _ _ eL1
      replace er7 := st _ _ er7
      replace es1 := st _ _ es1
      replace es2 := st _ _ es2
      replace es3 := st _ _ es3
      replace es4 := st _ _ es4
      replace es5 := st _ _ es5
      replace es6 := st _ _ es6
      replace es7 := st _ _ es7
      replace es8 := st _ _ es8
      have es9 : (upd Hs8 s9 (.tup [.int 1, .int 5])) s9 = some (.tup [.int 1, .int 5]) := upd_same
      clear st ns9
      generalize (upd Hs8 s9 (.tup [.int 1, .int 5])) = Hs9 at SS es9 egd egt ag ab en AN er1 er2 er3 er4 er5 er6 eL1 er7 es1 es2 es3 es4 es5 es6 es7 es8 ⊢
      refine ⟨(by show 5 ≤ sizeLine; rw [sizeLine_eq]; decide), fun L2' nL2' => ?_⟩
      have st := GG.Same.new (L2.Same.refl Hs9) nL2' (o := (.lst [.ref s3, .ref s5, .ref s6, .ref s8, .ref s9]))
      replace SS := L2.Same.trans SS st
      replace egd := st _ _ egd
      replace egt := st _ _ egt
      replace ag := ag.stay (Same.stay st)
      replace ab := ab.stay (Same.stay st)
      replace en := st _ _ en
      replace AN := AN.stay (Same.stay st)
      replace er1 := st _ _ er1
      replace er2 := st _ _ er2
      replace er3 := st _ _ er3
      replace er4 := st _ _ er4
      replace er5 := st _ _ er5
      replace er6 := st _ _ er6
      replace eL1 := st _ _ eL1
      replace er7 := st _ _ er7
      replace es1 := st _ _ es1
      replace es2 := st _ _ es2
      replace es3 := st _ _ es3
      replace es4 := st _ _ es4
      replace es5 := st _ _ es5
      replace es6 := st _ _ es6
      replace es7 := st _ _ es7
      replace es8 := st _ _ es8
      replace es9 := st _ _ es9
      have eL2' : (upd Hs9 L2' (.lst [.ref s3, .ref s5, .ref s6, .ref s8, .ref s9])) L2' = some (.lst [.ref s3, .ref s5, .ref s6, .ref s8, .ref s9]) := upd_same
      clear st nL2'
      generalize (upd Hs9 L2' (.lst [.ref s3, .ref s5, .ref s6, .ref s8, .ref s9])) = HL2' at SS eL2' egd egt ag ab en AN er1 er2 er3 er4 er5 er6 eL1 er7 es1 es2 es3 es4 es5 es6 es7 es8 es9 ⊢
      refine ⟨L1, L2', _, _, rfl, rfl, eL1, eL2', (by show 15 ≤ sizeLine; rw [sizeLine_eq]; decide), fun L3 nL3 => ?_⟩
      clear eL1 eL2'
      refine ⟨_, rfl, .inl ⟨rfl, _, SqL.of upd_same⟩, fun q1 nq1 => ?_⟩
      have n7 : HL2' q1 = none := by
        cases q : HL2' q1 with
        | none => rfl
        | some u =>
          rw [upd_ne (ne_of_none q nL3), q] at nq1
          cases nq1
      have d7 : q1 ≠ L3 := fun q => by
        rw [q, upd_same] at nq1
        cases nq1
      refine ⟨upd_same, [(.inr "a", .int 1), (.inr "b", .int 2)], rfl, (by show 2 ≤ 15; decide), ?_⟩
      have eqh : ∀ G : Hp, upd (upd G q1 (.dK [])) q1 (.dK (mergeK [] [((.inr "a" : Key), V.int 1), ((.inr "b" : Key), V.int 2)])) = upd G q1 (.dK [(.inr "a", .int 1), (.inr "b", .int 2)]) := fun G => by rw [show mergeK [] [((.inr "a" : Key), V.int 1), ((.inr "b" : Key), V.int 2)] = [(.inr "a", .int 1), (.inr "b", .int 2)] from by kernel_rfl, GG.upd_upd]
      rw [eqh]
      refine ⟨L3, _, _, rfl, rfl, (by rw [upd_ne d7.symm, upd_same]), (by show 15 < sizeLine; rw [sizeLine_eq]; decide), ?_⟩
      have st : Same HL2' (upd (upd (upd HL2' L3 (.lst ([.non, .int 5, .str "ab", .ref r1, .ref r2, .ref r3, .ref r4, .ref r5, .ref r6] ++ [.ref r7] ++ [.ref s3, .ref s5, .ref s6, .ref s8, .ref s9]))) q1 (.dK [(.inr "a", .int 1), (.inr "b", .int 2)])) L3 (.lst ([.non, .int 5, .str "ab", .ref r1, .ref r2, .ref r3, .ref r4, .ref r5, .ref r6] ++ [.ref r7] ++ [.ref s3, .ref s5, .ref s6, .ref s8, .ref s9] ++ [.ref q1]))) := fun b o e => by
        rw [upd_ne (ne_of_none e nL3), upd_ne (ne_of_none e n7), upd_ne (ne_of_none e nL3)]
        exact e
      have eL3 : (upd (upd (upd HL2' L3 (.lst ([.non, .int 5, .str "ab", .ref r1, .ref r2, .ref r3, .ref r4, .ref r5, .ref r6] ++ [.ref r7] ++ [.ref s3, .ref s5, .ref s6, .ref s8, .ref s9]))) q1 (.dK [(.inr "a", .int 1), (.inr "b", .int 2)])) L3 (.lst ([.non, .int 5, .str "ab", .ref r1, .ref r2, .ref r3, .ref r4, .ref r5, .ref r6] ++ [.ref r7] ++ [.ref s3, .ref s5, .ref s6, .ref s8, .ref s9] ++ [.ref q1]))) L3 = some (.lst ([.non, .int 5, .str "ab", .ref r1, .ref r2, .ref r3, .ref r4, .ref r5, .ref r6] ++ [.ref r7] ++ [.ref s3, .ref s5, .ref s6, .ref s8, .ref s9] ++ [.ref q1])) := upd_same
      have eq1 : (upd (upd (upd HL2' L3 (.lst ([.non, .int 5, .str "ab", .ref r1, .ref r2, .ref r3, .ref r4, .ref r5, .ref r6] ++ [.ref r7] ++ [.ref s3, .ref s5, .ref s6, .ref s8, .ref s9]))) q1 (.dK [(.inr "a", .int 1), (.inr "b", .int 2)])) L3 (.lst ([.non, .int 5, .str "ab", .ref r1, .ref r2, .ref r3, .ref r4, .ref r5, .ref r6] ++ [.ref r7] ++ [.ref s3, .ref s5, .ref s6, .ref s8, .ref s9] ++ [.ref q1]))) q1 = some (.dK [(.inr "a", .int 1), (.inr "b", .int 2)]) := by rw [upd_ne d7, upd_same]
      replace SS := L2.Same.trans SS st
      replace egd := st _ _ egd
      replace egt := st _ _ egt
      replace ag := ag.stay (Same.stay st)
      replace ab := ab.stay (Same.stay st)
      replace en := st _ _ en
      replace AN := AN.stay (Same.stay st)
      replace er1 := st _ _ er1
      replace er2 := st _ _ er2
      replace er3 := st _ _ er3
      replace er4 := st _ _ er4
      replace er5 := st _ _ er5
      replace er6 := st _ _ er6
      replace er7 := st _ _ er7
      replace es1 := st _ _ es1
      replace es2 := st _ _ es2
      replace es3 := st _ _ es3
      replace es4 := st _ _ es4
      replace es5 := st _ _ es5
      replace es6 := st _ _ es6
      replace es7 := st _ _ es7
      replace es8 := st _ _ es8
      replace es9 := st _ _ es9
      clear st n7 d7 nq1 nL3 eqh
      generalize (upd (upd (upd HL2' L3 (.lst ([.non, .int 5, .str "ab", .ref r1, .ref r2, .ref r3, .ref r4, .ref r5, .ref r6] ++ [.ref r7] ++ [.ref s3, .ref s5, .ref s6, .ref s8, .ref s9]))) q1 (.dK [(.inr "a", .int 1), (.inr "b", .int 2)])) L3 (.lst ([.non, .int 5, .str "ab", .ref r1, .ref r2, .ref r3, .ref r4, .ref r5, .ref r6] ++ [.ref r7] ++ [.ref s3, .ref s5, .ref s6, .ref s8, .ref s9] ++ [.ref q1]))) = H12 at SS eL3 eq1 egd egt ag ab en AN er1 er2 er3 er4 er5 er6 er7 es1 es2 es3 es4 es5 es6 es7 es8 es9 ⊢
      have aT : Da H12 (.ref gt) (.tuple (gs.map PyData.int)) := .tup egt (DaAll.ints gs)
      have AR : DaAll H12 ([.non, .int 5, .str "ab", .ref r1, .ref r2, .ref r3, .ref r4, .ref r5, .ref r6] ++ [.ref r7] ++ [.ref s3, .ref s5, .ref s6, .ref s8, .ref s9] ++ [.ref q1]) (rowsD gs nd) :=
        .cons .non (.cons (.int _) (.cons (.str _) (.cons (.tup er1 .nil) (.cons (.tup er2 (.cons (.int _) .nil)) (.cons (.tup er3 (.cons (.int _) (.cons aT (.cons (.int _) .nil)))) (.cons (.tup er4 (.cons (.bl _) (.cons aT .nil))) (.cons (.tup er5 (.cons (.str _) (.cons aT .nil))) (.cons (.tup er6 (.cons .non (.cons aT .nil)))
          (.cons (.tup er7 (.cons (.int _) (.cons .non .nil))) (.cons (.tup es3 (.cons (.int _) (.cons (.tup es2 ((DaAll.ints gs).app (.cons (.int _) .nil))) .nil))) (.cons (.tup es5 (.cons (.int _) (.cons (.tup es4 (by rw [← List.map_drop, ← List.map_drop]; exact DaAll.ints _)) .nil))) (.cons (.lst es6 ms6 (.cons (.int _) (.cons (.lst en mnm AN) .nil)))
          (.cons (.tup es8 (.cons (.int _) (.cons (.tup es7 AN) .nil))) (.cons (.tup es9 (.cons (.int _) (.cons (.int _) .nil))) (.cons (.dic2 eq1) .nil)))))))))))))))
      clear egd egt en AN er1 er2 er3 er4 er5 er6 er7 es1 es2 es3 es4 es5 es6 es7 es8 es9 eq1 aT
      -- odd, more
      refine ⟨_, rfl, _, rfl, p, l, L3, _, _, rfl, P.same SS, .inl (.inl eL3), (by show 0 < 16; decide), (by show 16 < 1000000; decide), by omega, fun odd H13 ho P13 K13 => ?_⟩
      have st := K13.stay (P.same SS)
      replace ag := ag.stay st
      replace ab := ab.stay st
      replace eL3 := st _ _ eL3 (by intro _ _ _ _ _ z; cases z)
      replace AR := AR.stay st
      replace Q := Tabs.keep (Tabs.same Q SS) K13 (P.same SS)
      replace P := P13
      clear st P13 K13 SS
      have SS := L2.Same.refl H13
      obtain ⟨dO, mO, ao⟩ := AR.mem ho
      have oO := rows dO mO
      clear AR ho mO
      refine ⟨_, rfl, _, rfl, p, l, L3, _, _, rfl, P.same SS, .inl (.inl eL3), (by show 0 < 16; decide), (by show 16 < 1000000; decide), by omega, fun more H14 _ P14 K14 => ⟨_, _, rfl, ?_⟩⟩
      have st := K14.stay (P.same SS)
      replace ag := ag.stay st
      replace ab := ab.stay st
      replace eL3 := st _ _ eL3 (by intro _ _ _ _ _ z; cases z)
      replace ao := ao.stay st
      replace Q := Tabs.keep (Tabs.same Q SS) K14 (P.same SS)
      replace P := P14
      clear st P14 K14 SS
      have SS := L2.Same.refl H14
      clear eL3 rows
      -- given
      refine ⟨_, rfl, (by show 1 ≤ sizeLine; rw [sizeLine_eq]; decide), fun g1 ng1 => ?_⟩
      have st := GG.Same.new (L2.Same.refl H14) ng1 (o := (.lst [.ref gd]))
      replace SS := L2.Same.trans SS st
      replace ag := ag.stay (Same.stay st)
      replace ab := ab.stay (Same.stay st)
      replace ao := ao.stay (Same.stay st)
      have eg1 : (upd H14 g1 (.lst [.ref gd])) g1 = some (.lst [.ref gd]) := upd_same
      clear st ng1
      generalize (upd H14 g1 (.lst [.ref gd])) = Hg1 at SS eg1 ag ab ao ⊢
      refine ⟨_, rfl, p, l, _, 3, rfl, P.same SS, by decide, by decide, by omega, fun n15 H15 n0 n1 P15 K15 => ?_⟩
      have st := K15.stay (P.same SS)
      replace ag := ag.stay st
      replace ab := ab.stay st
      replace ao := ao.stay st
      replace eg1 := st _ _ eg1 (by intro _ _ _ _ _ z; cases z)
      replace Q := Tabs.keep (Tabs.same Q SS) K15 (P.same SS)
      replace P := P15
      clear st P15 K15 SS
      have SS := L2.Same.refl H15
      obtain ⟨n, rfl⟩ : ∃ n : Nat, n15 = (n : Int) := ⟨n15.toNat, by omega⟩
      refine ⟨g1, (n : Int), _, rfl, rfl, eg1, by omega, by omega, (by rw [Int.toNat_natCast, sizeLine_eq]; show 1 * n ≤ _; omega), fun g2 ng2 => ?_⟩
      rw [Int.toNat_natCast]
      have e9 : ((List.replicate n [V.ref gd]).flatten).length = n := by
        have q := congrArg List.length (given_eq n (V.ref gd) [])
        rw [List.append_nil, List.append_nil, List.length_replicate] at q
        exact q
      have st := GG.Same.new (L2.Same.refl H15) ng2 (o := (.lst (List.replicate n [V.ref gd]).flatten))
      replace SS := L2.Same.trans SS st
      replace ag := ag.stay (Same.stay st)
      replace ab := ab.stay (Same.stay st)
      replace ao := ao.stay (Same.stay st)
      replace eg1 := st _ _ eg1
      have eg2 : (upd H15 g2 (.lst (List.replicate n [V.ref gd]).flatten)) g2 = some (.lst (List.replicate n [V.ref gd]).flatten) := upd_same
      clear st ng2
      generalize (upd H15 g2 (.lst (List.replicate n [V.ref gd]).flatten)) = Hg2 at SS eg2 ag ab ao eg1 ⊢
      refine ⟨_, rfl, _, rfl, _, rfl, (by show 3 ≤ sizeLine; rw [sizeLine_eq]; decide), fun g3 ng3 => ?_⟩
      have st := GG.Same.new (L2.Same.refl Hg2) ng3 (o := (.lst [odd, .ref gd, more]))
      replace SS := L2.Same.trans SS st
      replace ag := ag.stay (Same.stay st)
      replace ab := ab.stay (Same.stay st)
      replace ao := ao.stay (Same.stay st)
      replace eg1 := st _ _ eg1
      replace eg2 := st _ _ eg2
      have eg3 : (upd Hg2 g3 (.lst [odd, .ref gd, more])) g3 = some (.lst [odd, .ref gd, more]) := upd_same
      clear st ng3
      generalize (upd Hg2 g3 (.lst [odd, .ref gd, more])) = Hg3 at SS eg3 ag ab ao eg1 eg2 ⊢
      refine ⟨g2, g3, _, _, rfl, rfl, eg2, eg3, (by rw [e9, sizeLine_eq]; show n + 3 ≤ _; omega), fun g4 ng4 => ?_⟩
      rw [given_eq]
      clear eg1 eg2 eg3 e9
      have st := GG.Same.new (L2.Same.refl Hg3) ng4 (o := (.lst (List.replicate n (V.ref gd) ++ [odd, .ref gd, more])))
      replace SS := L2.Same.trans SS st
      replace ag := ag.stay (Same.stay st)
      replace ab := ab.stay (Same.stay st)
      replace ao := ao.stay (Same.stay st)
      have eg4 : (upd Hg3 g4 (.lst (List.replicate n (V.ref gd) ++ [odd, .ref gd, more]))) g4 = some (.lst (List.replicate n (V.ref gd) ++ [odd, .ref gd, more])) := upd_same
      clear st ng4
      generalize (upd Hg3 g4 (.lst (List.replicate n (V.ref gd) ++ [odd, .ref gd, more]))) = Hg4 at SS eg4 ag ab ao ⊢
      have F : Fx Hg4 [(Tb, qLam)] p l g4 _ k odd bad dO dB := ⟨P.same SS, Tabs.same Q SS, ⟨n, .ref gd, [.ref gd, more], _, dO, eg4, by omega, ag, bg, sg, ao, oO.no, oO.sm⟩, ao, ab, k1, k3, oO.sw, nbB, sB⟩
      clear P Q SS eg4 ag bg sg ao oO ab nbB sB n0 n1
      -- Bids(bad, given)
      refine ⟨F.tabs, fun H20 X20 Q20 => ?_⟩
      replace F := F.ext X20 Q20
      clear X20 Q20
      refine ⟨_, rfl, _, rfl, fun x dx nx ndx ne => ?_⟩
      have Sm := made_same (C := C) nx ndx ne
      refine ⟨x, dx, bad, .ref g4, rfl, upd_same, .inl ⟨dB, F.ab.stay (Same.stay Sm), F.nb, fun dd H21 ed K21 => ?_⟩⟩
      have S1 := keep_same Sm nx K21
      refine .inr (.inl ⟨rfl, dd, bad, .str "kinds", dB, rfl, ed, F.ab.stay (Same.stay S1), F.sb.rep, fun u1 H22 eu S2 => ?_⟩)
      replace F := F.same (L2.Same.trans S1 S2)
      clear S1 S2 K21 Sm nx ndx ne ed
      refine ⟨_, rfl, bad, dB, rfl, F.ab, F.sb.rep.1, F.sb.rep.2.1, F.sb.rep.2.2, (by show 3 ≤ sizeLine; rw [sizeLine_eq]; decide), fun u2 nu2 => ?_⟩
      have S3 := GG.Same.new (L2.Same.refl H22) nu2 (o := .tup [.str "number", .str "kinds", .str dB.shown])
      refine ⟨_, _, num_dp (S3 _ _ eu), num_dp upd_same, num_shaped ok_of F.sb.st, num_shaped ok_of F.sb.st, _, rfl, ?_⟩
      rw [num_eqv]
      refine iteF ?_
      replace F := F.same S3
      generalize (upd H22 u2 (.tup [.str "number", .str "kinds", .str dB.shown])) = H23 at F ⊢
      clear S3 eu nu2
      -- Bids(kinds, given)
      refine ⟨F.tabs, fun H24 X24 Q24 => ?_⟩
      replace F := F.ext X24 Q24
      clear X24 Q24
      refine ⟨_, rfl, _, rfl, fun x dx nx ndx ne => ?_⟩
      have Sm := made_same (C := C) nx ndx ne
      refine ⟨x, dx, .int k, .ref g4, rfl, upd_same, .inr ⟨k, g4, odd, rfl, rfl, okK_of k1 k3, F.od.mv (fun b o e _ => Sm b o e), fun dd H25 ed K25 => ?_⟩⟩
      have S1 := keep_same Sm nx K25
      refine .inr (.inr ⟨rfl, dd, odd, dO, rfl, ed, F.ao.stay (Same.stay S1), F.so.rep, fun u1 H26 eu S2 => ?_⟩)
      replace F := F.same (L2.Same.trans S1 S2)
      clear S1 S2 K25 Sm nx ndx ne ed
      refine ⟨_, rfl, odd, dO, rfl, F.ao, F.so.rep.1, F.so.rep.2.1, F.so.rep.2.2, (by show 2 ≤ sizeLine; rw [sizeLine_eq]; decide), fun u2 nu2 => ?_⟩
      have S3 := GG.Same.new (L2.Same.refl H26) nu2 (o := .tup [.str "row", .str dO.shown])
      refine ⟨_, _, row_dp (S3 _ _ eu), row_dp upd_same, row_shaped F.so.st, row_shaped F.so.st, _, rfl, ?_⟩
      rw [row_eqv]
      refine iteF ?_
      replace F := F.same S3
      generalize (upd H26 u2 (.tup [.str "row", .str dO.shown])) = H27 at F ⊢
      clear S3 eu nu2
      -- text
      obtain ⟨P, Q, _, _, ab, _, _, _, nbB, sB⟩ := F
      have SS := L2.Same.refl H27
      refine ⟨_, rfl, (by show 0 ≤ sizeLine; rw [sizeLine_eq]; decide), fun x1 nx1 mx1 => ?_⟩
      have st := GG.Same.new (L2.Same.refl H27) nx1 (o := (.lst []))
      replace SS := L2.Same.trans SS st
      replace ab := ab.stay (Same.stay st)
      have ex1 : (upd H27 x1 (.lst [])) x1 = some (.lst []) := upd_same
      clear st nx1
      generalize (upd H27 x1 (.lst [])) = Hx1 at SS ex1 ab ⊢
      refine ⟨(by show 1 ≤ sizeLine; rw [sizeLine_eq]; decide), fun x2 nx2 => ?_⟩
      have st := GG.Same.new (L2.Same.refl Hx1) nx2 (o := (.tup [.str "1 x 2"]))
      replace SS := L2.Same.trans SS st
      replace ab := ab.stay (Same.stay st)
      replace ex1 := st _ _ ex1
      have ex2 : (upd Hx1 x2 (.tup [.str "1 x 2"])) x2 = some (.tup [.str "1 x 2"]) := upd_same
      clear st nx2
      generalize (upd Hx1 x2 (.tup [.str "1 x 2"])) = Hx2 at SS ex2 ab ex1 ⊢
      intro x3 nx3
      refine ⟨upd_same, [(.inr "a", .int 1)], rfl, (by show 1 ≤ 15; decide), ?_⟩
      have eqh : ∀ G : Hp, upd (upd G x3 (.dK [])) x3 (.dK (mergeK [] [((.inr "a" : Key), V.int 1)])) = upd G x3 (.dK [(.inr "a", .int 1)]) := fun G => by rw [show mergeK [] [((.inr "a" : Key), V.int 1)] = [(.inr "a", .int 1)] from by kernel_rfl, GG.upd_upd]
      rw [eqh]
      clear eqh
      have st := GG.Same.new (L2.Same.refl Hx2) nx3 (o := (.dK [(.inr "a", .int 1)]))
      replace SS := L2.Same.trans SS st
      replace ab := ab.stay (Same.stay st)
      replace ex1 := st _ _ ex1
      replace ex2 := st _ _ ex2
      have ex3 : (upd Hx2 x3 (.dK [(.inr "a", .int 1)])) x3 = some (.dK [(.inr "a", .int 1)]) := upd_same
      clear st nx3
      generalize (upd Hx2 x3 (.dK [(.inr "a", .int 1)])) = Hx3 at SS ex3 ab ex1 ex2 ⊢
      refine ⟨(by show 6 ≤ sizeLine; rw [sizeLine_eq]; decide), fun x4 nx4 => ?_⟩
      have st := GG.Same.new (L2.Same.refl Hx3) nx4 (o := (.lst [.non, .int 5, .ref x1, .ref x2, .bl true, .ref x3]))
      replace SS := L2.Same.trans SS st
      replace ab := ab.stay (Same.stay st)
      replace ex1 := st _ _ ex1
      replace ex2 := st _ _ ex2
      replace ex3 := st _ _ ex3
      have ex4 : (upd Hx3 x4 (.lst [.non, .int 5, .ref x1, .ref x2, .bl true, .ref x3])) x4 = some (.lst [.non, .int 5, .ref x1, .ref x2, .bl true, .ref x3]) := upd_same
      clear st nx4
      generalize (upd Hx3 x4 (.lst [.non, .int 5, .ref x1, .ref x2, .bl true, .ref x3])) = Hx4 at SS ex4 ab ex1 ex2 ex3 ⊢
      have AX : DaAll Hx4 [.non, .int 5, .ref x1, .ref x2, .bl true, .ref x3] [.none, .int 5, .list [], .tuple [.str "1 x 2"], .bool true, .dict [(.str "a", .int 1)]] :=
        .cons .non (.cons (.int _) (.cons (.lst ex1 mx1 .nil) (.cons (.tup ex2 (.cons (.str _) .nil)) (.cons (.bl _) (.cons (.dic ex3 (.int _)) .nil)))))
      clear ex1 ex2 ex3
      refine ⟨p, l, x4, _, _, rfl, P.same SS, .inl (.inl ex4), (by show 0 < 6; decide), (by show 6 < 1000000; decide), by omega, fun tx H28 ht P28 K28 => ?_⟩
      clear ex4
      have st := K28.stay (P.same SS)
      replace ab := ab.stay st
      replace AX := AX.stay st
      replace Q := Tabs.keep (Tabs.same Q SS) K28 (P.same SS)
      replace P := P28
      clear st P28 K28 SS
      have SS := L2.Same.refl H28
      obtain ⟨dt, mt, at'⟩ := AX.mem ht
      have nt : isS dt = false := by
        simp only [List.mem_cons, List.not_mem_nil, or_false] at mt
        rcases mt with rfl | rfl | rfl | rfl | rfl | rfl <;> rfl
      clear AX ht mt mx1 SS
      -- bids_of(bad, text)
      refine ⟨Q, fun H30 X30 Q30 => ?_⟩
      replace P := P.ext X30
      replace ab := ab.ext X30
      replace at' := at'.ext X30
      replace Q := Q30
      clear X30 Q30
      refine ⟨_, rfl, _, rfl, bad, tx, dB, dt, rfl, ab, at', nt, fun _ dd H31 ed S1 => ?_, fun z => absurd (nbB.symm.trans z) (by decide)⟩
      refine .inr (.inl ⟨rfl, dd, bad, .str "kinds", dB, rfl, ed, ab.stay (Same.stay S1), sB.rep, fun u1 H32 eu S2 => ?_⟩)
      have S12 := L2.Same.trans S1 S2
      replace P := P.same S12
      replace Q := Tabs.same Q S12
      replace ab := ab.stay (Same.stay S12)
      replace at' := at'.stay (Same.stay S12)
      clear S1 S2 S12 ed
      refine ⟨_, rfl, bad, dB, rfl, ab, sB.rep.1, sB.rep.2.1, sB.rep.2.2, (by show 3 ≤ sizeLine; rw [sizeLine_eq]; decide), fun u2 nu2 => ?_⟩
      have S3 := GG.Same.new (L2.Same.refl H32) nu2 (o := .tup [.str "number", .str "kinds", .str dB.shown])
      refine ⟨_, _, num_dp (S3 _ _ eu), num_dp upd_same, num_shaped ok_of sB.st, num_shaped ok_of sB.st, _, rfl, ?_⟩
      rw [num_eqv]
      refine iteF ?_
      replace P := P.same S3
      replace Q := Tabs.same Q S3
      replace at' := at'.stay (Same.stay S3)
      generalize (upd H32 u2 (.tup [.str "number", .str "kinds", .str dB.shown])) = H33 at P Q at' ⊢
      clear S3 eu nu2 ab
      -- bids_of(kinds, text)
      refine ⟨Q, fun H34 X34 Q34 => ?_⟩
      replace P := P.ext X34
      replace at' := at'.ext X34
      replace Q := Q34
      clear X34 Q34
      refine ⟨_, rfl, _, rfl, .int k, tx, .int k, dt, rfl, .int _, at', nt, fun z => absurd ((okK_of k1 k3).symm.trans z) (by decide), fun _ dd H35 ed S1 => ?_⟩
      refine .inl ⟨rfl, dd, .int 0, .int 0, rfl, ed, fun u1 H36 eu S2 => ?_⟩
      have S12 := L2.Same.trans S1 S2
      replace P := P.same S12
      replace Q := Tabs.same Q S12
      clear S1 S2 S12 ed
      refine ⟨(by show 3 ≤ sizeLine; rw [sizeLine_eq]; decide), fun u2 nu2 => ?_⟩
      have S3 := GG.Same.new (L2.Same.refl H36) nu2 (o := .tup [.str "line", .int 0, .int 0])
      refine ⟨_, _, line_dp (S3 _ _ eu), line_dp upd_same, line_shaped, line_shaped, _, rfl, ?_⟩
      rw [line_eqv]
      refine iteF ?_
      exact ⟨_, _, _, _, _, _, _, _, _, _, _, rfl, P.same S3, by omega, Tabs.same Q S3⟩
    · rintro σ H2 ⟨c0, v2, v3, v4, v5, v6, v7, v8, v9, v10, v11, rfl, P, hc, Q⟩
      exact want _
end
end GG

namespace GG
open PySem PySem.Spec PyProof.Rows L2 LamX
theorem def_mk {K : PySem.W.Frag} {h : Heap} {mg : Str → Option Value} (X : K.In h) (G : h.Ns mainGlobals mg) {x : Str} {st : Stmt} {f : Addr} {od an : Option Addr} {sl : Array (Option Value)} {oc kV dc pm cd ct : Value}
    (a : PySem.W.nsIn K mainGlobals x = some (some (.ref f))) (l : K.lookup f = some ⟨oc, od, .func (PySem.W.fnOf x x (defArgs st) (defBody st) (defScope st) .none kV dc pm an cd ct), sl⟩) (c : PySem.W.codeIn K cd x = true) (k : PySem.W.keepIn K (.ref f) = true) : DefIs K mg x st :=
  ⟨f, _, fun_mk (st := st) l c k, PySem.W.mg_of X G a⟩
theorem ext_mk {K : PySem.W.Frag} {C : Addr} {nm q : Str} {N : Addr} {bs bm : List Value} {sn : List Str} {sub : List Value} {ab : Bool} {col : Option Bool} {dd : Option Addr} {k0 k1 k2 k3 k5 : Option Value}
    (l : K.lookup C = some (excClassObj nm q C N bs bm true sn sub ab col dd k0 k1 k2 k3 k5 "ValueError.__new__")) (r : PySem.HandSPX.refsVE bm = true) (sa : PySem.W.findIn K (.ref C) "__setattr__" = some (some (.builtin "object.__setattr__")))
    (ex : PySem.W.subIn K (.ref C) (.type "BaseException") = some true) (ty : PySem.W.typeIn K (.ref C) = some (.type "type")) (kp : PySem.W.keepIn K (.ref C) = true) (ga : PySem.W.findIn K (.ref C) "__getattribute__" = some (some (.builtin "BaseException.__getattribute__")))
    (gg : PySem.W.findIn K (.ref C) "__getattr__" = some none) (hd : PySem.W.hasDictIn K C = true) (cl : PySem.W.findIn K (.ref C) "__class__" = some (some (.builtin "object.__class__"))) (mo : PySem.W.mroIn K C (.type "object") = some true)
    (oc : PySem.W.specialIn K (.builtin "object.__class__") "__get__" = some (some (.builtin "getset_descriptor.__get__"))) (ot : PySem.W.takesIn K (.builtin "object.__class__") = some true) : ExT K C :=
  ⟨⟨⟨nm, q, N, bs, bm, sn, sub, ab, col, dd, k0, k1, k2, k3, k5, l, r⟩, sa, ex, ty, kp⟩, ga, gg, hd, cl, mo, oc, ot⟩
theorem tab_mk {K : PySem.W.Frag} {x : Str} {st : Stmt} {f c T : Addr} {od an : Option Addr} {sl sl2 : Array (Option Value)} {oc kV dc pm ct e2 : Value} {dd : Option Addr} {vs : Array Value}
    (a : PySem.W.nsIn K mainGlobals x = some (some (.ref f))) (l : K.lookup f = some ⟨oc, od, .func (PySem.W.fnOf x x (defArgs st) (defBody st) (defScope st) .none kV dc pm an (.ref c) ct), sl⟩)
    (lc : K.lookup c = some ⟨e2, dd, .fields vs, sl2⟩) (v : vs[11]? = some (.ref T)) : PySem.W.tabIn K x = some (c, T) := by
  unfold PySem.W.tabIn
  rw [a]
  dsimp only
  rw [l]
  dsimp only [PySem.W.fnOf]
  rw [lc]
  dsimp only
  rw [v]
theorem all_mk {l : PySem.W.OpenLaw} {w : World} {K : PySem.W.Frag} {h : Heap} {mg : Str → Option Value} {fa : Addr} (X : K.In h) (G : h.Ns mainGlobals mg) (hfa : mg "law" = some (.ref fa)) {C CN C1 C2 C4 C5 C6 C7 g f35 c T : Addr}
    {fN : Addr} {odN anN : Option Addr} {slN : Array (Option Value)} {ocN kVN dcN pmN cdN ctN : Value}
    {fL : Addr} {odL anL : Option Addr} {slL : Array (Option Value)} {ocL kVL dcL pmL cdL ctL : Value}
    {fR : Addr} {odR anR : Option Addr} {slR : Array (Option Value)} {ocR kVR dcR pmR cdR ctR : Value}
    {fB : Addr} {odB anB : Option Addr} {slB : Array (Option Value)} {ocB kVB dcB pmB cdB ctB : Value}
    {god gan od an dd : Option Addr} {gsl sl sl2 : Array (Option Value)} {goc gkV gdc gpm gcd gct oc kV dc pm ct e2 : Value} {vs : Array Value}
    (d13 : DefIs K mg "is_whole" sWhole) (d14 : DefIs K mg "is_ratio" sRatio) (d15 : DefIs K mg "lowest" sLow) (d16 : DefIs K mg "told" sTold) (d23 : DefIs K mg "is_row" sRow) (d24 : DefIs K mg "is_from_zero" sZ) (d25 : DefIs K mg "are_prices" sPrices) (d27 : DefIs K mg "told_row" sToldR) (d34 : DefIs K mg "check_kinds" sCK) (d35 : DefIs K mg "is_bid" sBid) (d36 : DefIs K mg "plain_rows" sPlain) (d39 : DefIs K mg "bids_of" sBOf) (d45 : DefIs K mg "_law_pen" sPen) (d46 : DefIs K mg "_law_draw" sDraw) (d47 : DefIs K mg "_law_pick" sPick) (d48 : DefIs K mg "_law_any" sAny)
    (nN : PySem.W.nsIn K mainGlobals "BadNumber" = some (some (.ref CN)))
    (iN : PySem.W.findIn K (.ref CN) "__init__" = some (some (.ref fN)))
    (tN : ExT K CN)
    (tiN : PySem.W.typeIn K (.ref fN) = some (.type "function"))
    (lN : K.lookup fN = some ⟨ocN, odN, .func (PySem.W.fnOf "__init__" "BadNumber.__init__" (defArgs sBN) (defBody sBN) (defScope sBN) .none kVN dcN pmN anN cdN ctN), slN⟩)
    (cN : PySem.W.codeIn K cdN "BadNumber.__init__" = true)
    (kN : PySem.W.keepIn K (.ref fN) = true)
    (nL : PySem.W.nsIn K mainGlobals "BadLine" = some (some (.ref C2)))
    (iL : PySem.W.findIn K (.ref C2) "__init__" = some (some (.ref fL)))
    (tL : ExT K C2)
    (tiL : PySem.W.typeIn K (.ref fL) = some (.type "function"))
    (lL : K.lookup fL = some ⟨ocL, odL, .func (PySem.W.fnOf "__init__" "BadLine.__init__" (defArgs sBL) (defBody sBL) (defScope sBL) .none kVL dcL pmL anL cdL ctL), slL⟩)
    (cL : PySem.W.codeIn K cdL "BadLine.__init__" = true)
    (kL : PySem.W.keepIn K (.ref fL) = true)
    (nR : PySem.W.nsIn K mainGlobals "BadRow" = some (some (.ref C4)))
    (iR : PySem.W.findIn K (.ref C4) "__init__" = some (some (.ref fR)))
    (tR : ExT K C4)
    (tiR : PySem.W.typeIn K (.ref fR) = some (.type "function"))
    (lR : K.lookup fR = some ⟨ocR, odR, .func (PySem.W.fnOf "__init__" "BadRow.__init__" (defArgs sBR) (defBody sBR) (defScope sBR) .none kVR dcR pmR anR cdR ctR), slR⟩)
    (cR : PySem.W.codeIn K cdR "BadRow.__init__" = true)
    (kR : PySem.W.keepIn K (.ref fR) = true)
    (nB : PySem.W.nsIn K mainGlobals "Bids" = some (some (.ref C)))
    (iB : PySem.W.findIn K (.ref C) "__init__" = some (some (.ref fB)))
    (lB : K.lookup fB = some ⟨ocB, odB, .func (PySem.W.fnOf "__init__" "Bids.__init__" (defArgs sInit) (defBody sInit) (defScope sInit) .none kVB dcB pmB anB cdB ctB), slB⟩)
    (cB : PySem.W.codeIn K cdB "Bids.__init__" = true)
    (kB : PySem.W.keepIn K (.ref fB) = true)
    (nN1 : PySem.W.findIn K (.ref CN) "what" = some none)
    (nN2 : PySem.W.findIn K (.ref CN) "number" = some none)
    (nL1 : PySem.W.findIn K (.ref C2) "line" = some none)
    (nL2 : PySem.W.findIn K (.ref C2) "column" = some none)
    (nR1 : PySem.W.findIn K (.ref C4) "row" = some none)
    (nB1 : PySem.W.findIn K (.ref C) "kinds" = some none)
    (mB : PySem.W.makesIn K C = true)
    (fB1 : PySem.W.isFn K (.ref fB) = true)
    (kC : PySem.W.keepIn K (.ref C) = true)
    (cl1 : PySem.W.plainGet K C Str.empty = true)
    (cl2 : PySem.W.hasDictIn K C = true)
    (cl3 : PySem.W.plainOver K C = true)
    (cl4 : PySem.W.findIn K (.ref C) "__setattr__" = some (some (.builtin "object.__setattr__")))
    (a1 : PySem.W.nsIn K mainGlobals "BadText" = some (some (.ref C1)))
    (a5 : PySem.W.nsIn K mainGlobals "TooMany" = some (some (.ref C5)))
    (a6 : PySem.W.nsIn K mainGlobals "Unlike" = some (some (.ref C6)))
    (a7 : PySem.W.nsIn K mainGlobals "NoBuyer" = some (some (.ref C7)))
    (x1 : PySem.W.exmOne K (.ref CN) (.ref C1) = some false)
    (x2 : PySem.W.exmOne K (.ref CN) (.ref C2) = some false)
    (x3 : PySem.W.exmOne K (.ref CN) (.ref CN) = some true)
    (y1 : PySem.W.exmOne K (.ref C2) (.ref C1) = some false)
    (y2 : PySem.W.exmOne K (.ref C2) (.ref C2) = some true)
    (w1 : PySem.W.exmOne K (.ref C4) (.ref C1) = some false)
    (w2 : PySem.W.exmOne K (.ref C4) (.ref C2) = some false)
    (w3 : PySem.W.exmOne K (.ref C4) (.ref CN) = some false)
    (w4 : PySem.W.exmOne K (.ref C4) (.ref C4) = some true)
    (aW : PySem.W.nsIn K mainGlobals "_law_why" = some (some (.ref g)))
    (lW : K.lookup g = some ⟨goc, god, .func (PySem.W.fnOf "_law_why" "_law_why" (defArgs sWhy) (defBody sWhy) (defScope sWhy) .none gkV gdc gpm gan gcd gct), gsl⟩)
    (cW : PySem.W.codeIn K gcd "_law_why" = true)
    (kW : PySem.W.keepIn K (.ref g) = true)
    (a35 : PySem.W.nsIn K mainGlobals "law" = some (some (.ref f35)))
    (l35 : K.lookup f35 = some ⟨oc, od, .func (PySem.W.fnOf "law" "law" (defArgs sLaw) (defBody sLaw) (defScope sLaw) .none kV dc pm an (.ref c) ct), sl⟩)
    (c35 : PySem.W.codeIn K (.ref c) "law" = true)
    (k35 : PySem.W.keepIn K (.ref f35) = true)
    (lc : K.lookup c = some ⟨e2, dd, .fields vs, sl2⟩)
    (vT : vs[11]? = some (.ref T))
    (noT : K.lookup T = none)
    (z_int : PySem.W.nsIn K mainGlobals "int" = some none)
    (z_list : PySem.W.nsIn K mainGlobals "list" = some none)
    (z_len : PySem.W.nsIn K mainGlobals "len" = some none)
    (z_range : PySem.W.nsIn K mainGlobals "range" = some none)
    (z_bool : PySem.W.nsIn K mainGlobals "bool" = some none)
    (z_tuple : PySem.W.nsIn K mainGlobals "tuple" = some none)
    (z_isinstance : PySem.W.nsIn K mainGlobals "isinstance" = some none)
    (z_repr : PySem.W.nsIn K mainGlobals "repr" = some none)
    (z_str : PySem.W.nsIn K mainGlobals "str" = some none)
    (z_all : PySem.W.nsIn K mainGlobals "all" = some none)
    (zg : PySem.W.nsIn K mainGlobals "gcd" = some (some (.builtin "math.gcd")))
    : ∃ (fd : FuncData) (c T : Addr), PySem.W.tabIn K "law" = some (c, T) ∧ K.lookup T = none ∧ (∀ (s : Shared) (v : Value), BindsTo s fd ⟨[v], []⟩ [("_law_script", v)]) ∧ ∀ base : Heap, K.In base → base.Ns mainGlobals mg → TabB base mg c T → FnG l.prog w K mg base 13 fa fd ["_law_script"] (spLaw K T) := by
  have e := hfa.symm.trans (PySem.W.mg_of X G a35)
  cases e
  have n := fun {x : Str} (z : PySem.W.nsIn K mainGlobals x = some none) => PySem.W.mg_none_of X G z
  have m := fun {x : Str} {v : Value} (z : PySem.W.nsIn K mainGlobals x = some (some v)) => PySem.W.mg_of X G z
  refine ⟨PySem.W.fnOf "law" "law" (defArgs sLaw) (defBody sLaw) (defScope sLaw) .none kV dc pm an (.ref c) ct, c, T, tab_mk a35 l35 lc vT, noT, fun s v => .of_eq rfl, fun base _ _ TB => ?_⟩
  have R : RTxt K mg := ⟨n z_int, n z_bool, n z_tuple, n z_list, n z_len, n z_isinstance, m zg⟩
  have PT : PTxt K mg := ⟨n z_int, n z_list, n z_len⟩
  have BN : BNTxt l.prog w K mg base CN := bn_of (m nN) tN nN1 nN2 iN tiN (fun_mk (st := sBN) lN cN kN)
  have BL : BLTxt l.prog w K mg base C2 := bl_of (m nL) tL nL1 nL2 iL tiL (fun_mk (st := sBL) lL cL kL)
  have BR : BRTxt l.prog w K mg base C4 := br_of (m nR) tR nR1 iR tiR (fun_mk (st := sBR) lR cR kR)
  have B1 : Kn l.prog w K mg base "is_whole" 1 _ _ := kn_whole d13 R
  have B2 : Kn l.prog w K mg base "is_ratio" 2 _ _ := kn_ratio d14 R B1
  have B3 : Kn l.prog w K mg base "lowest" 1 _ _ := kn_low d15 R
  have B4 : KnX l.prog w K mg base "told" 3 _ _ := kn_told d16 R BN B2 B3
  have E1 : Kn l.prog w K mg base "is_row" 1 _ _ := kn_row d23 R
  have E2 := kn_z d24 B2 B4
  have E3 := kn_prices d25 (n z_all) E1 E2
  have E4 := kn_toldR d27 R B4
  have E5 := kn_ck d34 BN B1
  have E6 := kn_bid d35 E1 B1 E3
  have E7 := kn_plain d36 BR E6 E4
  have E8 := kn_bof d39 R (n z_str) BL E5
  have BI : BiTxt l.prog w K mg base C CN C4 := bi_of (m nB) ⟨mB, iB, fB1, kC⟩ ⟨cl1, cl2, cl3, cl4⟩ nB1 (fun_mk (st := sInit) lB cB kB) E5 E7
  have L1 : Kn l.prog w K mg base "_law_draw" 1 _ _ := kn_draw d46 PT
  have L2' : Kn l.prog w K mg base "_law_pick" 2 _ _ := kn_pick d47 PT L1
  have LT : LTxt l.prog w K mg base C C2 CN C4 := ⟨n z_range, n z_repr, n z_list, n z_tuple, kn_pen d45 PT, L1, L2', kn_any2 d48 L2', BI, E8⟩
  have WT : WTxt K mg CN C1 C2 C4 C5 C6 C7 := ⟨m a1, m nL, m nN, m nR, m a5, m a6, m a7, x1, x2, x3, tN, nN1, nN2, n z_repr⟩
  have W3 : WTxt3 K C1 C2 CN C4 := ⟨tL, nL1, nL2, tR, nR1, y1, y2, w1, w2, w3, w4⟩
  exact ok_law l35 c35 LT WT W3 (m aW) kW lW cW ((fun_mk (st := sWhy) lW cW kW).binds fun _ _ _ _ _ _ us hl => match us, hl with | [_], _ => rfl) TB
theorem walkL {l : PySem.W.OpenLaw} {q : Program} {loose : List Str} {XP : (Str → Option Value) → Heap → Prop} {YP : World → Heap → Prop} {d : DefRec} {K : Params → PySem.W.Frag} (hn : l.most = some 63) (dflt : d.params.defaults = []) (nm : d.name = "law") (recd : ((recsOf q).find? (fun e => e.name == d.name)).isSome = true) (inY : ∀ (w : World) (h : Heap), YP w h → (K w.params).In h)
    (F : ∀ (w : World) (mg : Str → Option Value) (fa : Addr) (h : Heap), (K w.params).In h → h.Ns mainGlobals mg → mg "law" = some (.ref fa) →
      ∃ (fd : FuncData) (c T : Addr), PySem.W.tabIn (K w.params) "law" = some (c, T) ∧ (K w.params).lookup T = none ∧ (∀ (s : Shared) (u : Value), BindsTo s fd ⟨[u], []⟩ [("_law_script", u)]) ∧ ∀ base : Heap, (K w.params).In base → base.Ns mainGlobals mg → TabB base mg c T → FnG l.prog w (K w.params) mg base 13 fa fd ["_law_script"] (spLaw (K w.params) T)) :
    PySem.W.WalkO q loose XP YP l.row.toRowW d [] (fun f vs => PySem.call f vs) :=
  walkGT (n := 63) (k := 13) (x := "_law_script") (sp := fun w T => spLaw (K w.params) T) hn (by decide) dflt ⟨rfl, by decide, by decide⟩ (Option.isSome_iff_exists.mp recd) inY (by rw [nm]; exact F) fun _ _ a T ns hl _ tb hS => ⟨a, ns, rfl, hS, hl, tb, fun _ => rfl⟩
end GG

open PySem PySem.W PyProof.Rows in
set_option maxRecDepth 100000 in
set_option maxHeartbeats 0 in
theorem PySem.Challenge.cw_allbids_k07_lists_refused_holds : PySem.Challenge.rw_allbids_k07_lists_refused.Holds := by
  w_on; o_law; k_head; (case hw => w_witness2)
  k_fill
  refine GG.walkL (l := PySem.Challenge.rw_allbids_k07_lists_refused) rfl rfl rfl ?R (fun w h Y => PySem.W.km_in_of Y) ?F
  case R => kernel_rfl
  case F =>
    intro w mg fa h KX G hmg
    refine' GG.all_mk KX G hmg (d13 := ?d13) (d14 := ?d14) (d15 := ?d15) (d16 := ?d16) (d23 := ?d23) (d24 := ?d24) (d25 := ?d25) (d27 := ?d27) (d34 := ?d34) (d35 := ?d35) (d36 := ?d36) (d39 := ?d39) (d45 := ?d45) (d46 := ?d46) (d47 := ?d47) (d48 := ?d48) (nN := ?nN) (iN := ?iN) (tN := ?tN) (tiN := ?tiN) (lN := ?lN) (cN := ?cN) (kN := ?kN) (nL := ?nL) (iL := ?iL) (tL := ?tL) (tiL := ?tiL) (lL := ?lL) (cL := ?cL) (kL := ?kL) (nR := ?nR) (iR := ?iR) (tR := ?tR) (tiR := ?tiR) (lR := ?lR) (cR := ?cR) (kR := ?kR) (nB := ?nB) (iB := ?iB) (lB := ?lB) (cB := ?cB) (kB := ?kB) (nN1 := ?nN1) (nN2 := ?nN2) (nL1 := ?nL1) (nL2 := ?nL2) (nR1 := ?nR1) (nB1 := ?nB1) (mB := ?mB) (fB1 := ?fB1) (kC := ?kC) (cl1 := ?cl1) (cl2 := ?cl2) (cl3 := ?cl3) (cl4 := ?cl4) (a1 := ?a1) (a5 := ?a5) (a6 := ?a6) (a7 := ?a7) (x1 := ?x1) (x2 := ?x2) (x3 := ?x3) (y1 := ?y1) (y2 := ?y2) (w1 := ?w1) (w2 := ?w2) (w3 := ?w3) (w4 := ?w4) (aW := ?aW) (lW := ?lW) (cW := ?cW) (kW := ?kW) (a35 := ?a35) (l35 := ?l35) (c35 := ?c35) (k35 := ?k35) (lc := ?lc) (vT := ?vT) (noT := ?noT) (z_int := ?z_int) (z_list := ?z_list) (z_len := ?z_len) (z_range := ?z_range) (z_bool := ?z_bool) (z_tuple := ?z_tuple) (z_isinstance := ?z_isinstance) (z_repr := ?z_repr) (z_str := ?z_str) (z_all := ?z_all) (zg := ?zg)
    (case d13 => (refine' GG.def_mk KX G ?a ?l ?c ?k; (case a => k_is); (case l => k_is); (case c => k_is); (case k => k_is)))
    (case d14 => (refine' GG.def_mk KX G ?a ?l ?c ?k; (case a => k_is); (case l => k_is); (case c => k_is); (case k => k_is)))
    (case d15 => (refine' GG.def_mk KX G ?a ?l ?c ?k; (case a => k_is); (case l => k_is); (case c => k_is); (case k => k_is)))
    (case d16 => (refine' GG.def_mk KX G ?a ?l ?c ?k; (case a => k_is); (case l => k_is); (case c => k_is); (case k => k_is)))
    (case d23 => (refine' GG.def_mk KX G ?a ?l ?c ?k; (case a => k_is); (case l => k_is); (case c => k_is); (case k => k_is)))
    (case d24 => (refine' GG.def_mk KX G ?a ?l ?c ?k; (case a => k_is); (case l => k_is); (case c => k_is); (case k => k_is)))
    (case d25 => (refine' GG.def_mk KX G ?a ?l ?c ?k; (case a => k_is); (case l => k_is); (case c => k_is); (case k => k_is)))
    (case d27 => (refine' GG.def_mk KX G ?a ?l ?c ?k; (case a => k_is); (case l => k_is); (case c => k_is); (case k => k_is)))
    (case d34 => (refine' GG.def_mk KX G ?a ?l ?c ?k; (case a => k_is); (case l => k_is); (case c => k_is); (case k => k_is)))
    (case d35 => (refine' GG.def_mk KX G ?a ?l ?c ?k; (case a => k_is); (case l => k_is); (case c => k_is); (case k => k_is)))
    (case d36 => (refine' GG.def_mk KX G ?a ?l ?c ?k; (case a => k_is); (case l => k_is); (case c => k_is); (case k => k_is)))
    (case d39 => (refine' GG.def_mk KX G ?a ?l ?c ?k; (case a => k_is); (case l => k_is); (case c => k_is); (case k => k_is)))
    (case d45 => (refine' GG.def_mk KX G ?a ?l ?c ?k; (case a => k_is); (case l => k_is); (case c => k_is); (case k => k_is)))
    (case d46 => (refine' GG.def_mk KX G ?a ?l ?c ?k; (case a => k_is); (case l => k_is); (case c => k_is); (case k => k_is)))
    (case d47 => (refine' GG.def_mk KX G ?a ?l ?c ?k; (case a => k_is); (case l => k_is); (case c => k_is); (case k => k_is)))
    (case d48 => (refine' GG.def_mk KX G ?a ?l ?c ?k; (case a => k_is); (case l => k_is); (case c => k_is); (case k => k_is)))
    (case nN => k_is)
    (case iN => k_is)
    (case tN => (refine' GG.ext_mk ?l ?r ?sa ?ex ?ty ?kp ?ga ?gg ?hd ?cl ?mo ?oc ?ot; (case l => k_is); (case r => decide +kernel); (case sa => k_is); (case ex => k_is); (case ty => k_is); (case kp => k_is); (case ga => k_is); (case gg => k_is); (case hd => k_is); (case cl => k_is); (case mo => k_is); (case oc => k_is); (case ot => k_is)))
    (case tiN => k_is)
    (case lN => k_is)
    (case cN => k_is)
    (case kN => k_is)
    (case nL => k_is)
    (case iL => k_is)
    (case tL => (refine' GG.ext_mk ?l ?r ?sa ?ex ?ty ?kp ?ga ?gg ?hd ?cl ?mo ?oc ?ot; (case l => k_is); (case r => decide +kernel); (case sa => k_is); (case ex => k_is); (case ty => k_is); (case kp => k_is); (case ga => k_is); (case gg => k_is); (case hd => k_is); (case cl => k_is); (case mo => k_is); (case oc => k_is); (case ot => k_is)))
    (case tiL => k_is)
    (case lL => k_is)
    (case cL => k_is)
    (case kL => k_is)
    (case nR => k_is)
    (case iR => k_is)
    (case tR => (refine' GG.ext_mk ?l ?r ?sa ?ex ?ty ?kp ?ga ?gg ?hd ?cl ?mo ?oc ?ot; (case l => k_is); (case r => decide +kernel); (case sa => k_is); (case ex => k_is); (case ty => k_is); (case kp => k_is); (case ga => k_is); (case gg => k_is); (case hd => k_is); (case cl => k_is); (case mo => k_is); (case oc => k_is); (case ot => k_is)))
    (case tiR => k_is)
    (case lR => k_is)
    (case cR => k_is)
    (case kR => k_is)
    (case nB => k_is)
    (case iB => k_is)
    (case lB => k_is)
    (case cB => k_is)
    (case kB => k_is)
    (case nN1 => k_is)
    (case nN2 => k_is)
    (case nL1 => k_is)
    (case nL2 => k_is)
    (case nR1 => k_is)
    (case nB1 => k_is)
    (case mB => k_is)
    (case fB1 => k_is)
    (case kC => k_is)
    (case cl1 => k_is)
    (case cl2 => k_is)
    (case cl3 => k_is)
    (case cl4 => k_is)
    (case a1 => k_is)
    (case a5 => k_is)
    (case a6 => k_is)
    (case a7 => k_is)
    (case x1 => kernel_rfl)
    (case x2 => kernel_rfl)
    (case x3 => kernel_rfl)
    (case y1 => kernel_rfl)
    (case y2 => kernel_rfl)
    (case w1 => kernel_rfl)
    (case w2 => kernel_rfl)
    (case w3 => kernel_rfl)
    (case w4 => kernel_rfl)
    (case aW => k_is)
    (case lW => k_is)
    (case cW => k_is)
    (case kW => k_is)
    (case a35 => k_is)
    (case l35 => k_is)
    (case c35 => k_is)
    (case k35 => k_is)
    (case lc => k_is)
    (case vT => rfl)
    (case noT => kernel_rfl)
    (case z_int => k_is)
    (case z_list => k_is)
    (case z_len => k_is)
    (case z_range => k_is)
    (case z_bool => k_is)
    (case z_tuple => k_is)
    (case z_isinstance => k_is)
    (case z_repr => k_is)
    (case z_str => k_is)
    (case z_all => k_is)
    (case zg => k_is)
