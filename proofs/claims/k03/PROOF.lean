import PyProof.Rows.All
import Wide.All
import OpenK.AllK
import Wide.FinOn
import HandS.ForMost
import HandS.ExcInit
import HandS.IsInst
import HandS.Wide
import HandS.EndBits
import HandS.ExcField
import KE.KExcIs
import HandS.ExcIs
import HandS.ExcOwn
import HandS.ExcValue
import HandS.Evl
import HandS.Zip
import HandS.ForExc
import HandS.Gcd
import HandS.Style
import HandS.Dict
import KE.KDictKeyed
import HandS.Lambda
import HandS.Iter
import KE.KMathGC
import KE.SortData
import HandS.OwnEq
import HandS.Deep
import HandS.TupMul
import HandS.List
import PySem.Challenge.RW_allbids_k03_whole_plain_lists
set_option Elab.async false
set_option linter.all false
set_option maxRecDepth 100000
set_option maxHeartbeats 4000000
/-! ## GG: calls around which no repr is under way -/
namespace GG
open PySem PySem.Spec PyProof.Rows L2
section
variable {P : Program} {w : World} {K : PySem.W.Frag} {mg : Str → Option Value} {base : Heap}

/-- the def at f keeps sp wherever nothing guarded is under way -/
structure FnG (P : Program) (w : World) (K : PySem.W.Frag) (mg : Str → Option Value) (base : Heap) (k : Nat) (f : Addr) (fd : FuncData) (ps : List Str) (sp : Sp) : Prop where
  cnt : ∀ vs H Q E, sp vs H Q E → vs.length = ps.length
  go : ∀ (A : Around) (out : List Env) (s : Shared) (H : Hp) (args : Args) (us : List Value) (vs : List V) (Q : VK) (E : XK), A.guards = some [] → Room k A →
    Env0 P w K mg base A out s H → BindsTo s fd args (ps.zip us) → Vals vs us → sp vs H Q E → codeAny (model P w) A (.call (.ref f) args) (CR CX0 out P w H s Q E) s

theorem FnG.of {k : Nat} {f : Addr} {fd : FuncData} {ps : List Str} {sp : Sp} (F : FnOk P w K mg base CX0 k f fd ps sp) : FnG P w K mg base k f fd ps sp :=
  ⟨F.len, fun A out s H args us vs Q E _ room => F.run A out s H args us vs Q E room⟩

theorem fnG {x qual : Str} {st : Stmt} {f : Addr} {fd : FuncData} {N ps : List Str} {k : Nat} {sp : Sp} (F : Fun K x qual st f fd) (S : FnScope N ps (defScope st)) (cnt : ∀ vs H Q E, sp vs H Q E → vs.length = ps.length)
    (body : ∀ (cdv : Value) (A : Around) (out : List Env) (s : Shared) (H : Hp) (vs : List V) (Q : VK) (E : XK), A.guards = some [] → Room k (A.deeper (envOfC qual (defScope st) s.heap.objs.size f cdv)) → sp vs H Q E →
      ∃ t, PSs (cxOf CX0 P w K mg base N qual (defScope st) f cdv A out s H E).nox (defBody st) t ∧ t { nx := fun _ H' => Q .non H', rt := Q } (start N vs) H) :
    FnG P w K mg base (k + 1) f fd ps sp := by
  obtain ⟨oc, od, kV, doc, pm, an, cdv, ct, osl, rfl, look, code⟩ := F.ex
  refine ⟨cnt, ?_⟩
  intro A out s H args us vs Q E noG room env bnd rel prom
  have many := cnt _ _ _ _ prom
  have inK : K.In s.heap := env.mod.kin.keeps fun b o q => (env.bs b o q).1
  have free : s.heap.NoLimit := env.mod.nolimit.keeps fun b o q => (env.bs b o q).1
  have kinds : ∀ y ∈ ps.zip us, (defScope st).names.lookup y.1 = some .local ∨ ((defScope st).names.lookup y.1 = some .cell ∧ ((cellsFrom (s.heap.objs.size + 1) (defScope st).names []).lookup y.1).isSome = true) := by
    rintro ⟨n, v⟩ my
    cases S.par n (List.of_mem_zip my).1 with
    | inl q => exact .inl q
    | inr q => exact .inr ⟨q, PySem.W.cellsFrom_some _ _ _ (.inl q)⟩
  refine codeAny_call_function room.depth (inK _ _ look) rfl S.co S.gen rfl (PySem.W.codeRec_of inK code) (bnd _ _ _ _ ?_)
  refine wpAny_newFunctionEnv_cells S.kind kinds fun env' he s1 inC => ?_
  subst he
  refine ⟨free.keeps inC.toInCall.keep, codeAny_func ?_⟩
  obtain ⟨t, ht, start0⟩ := body cdv A out s H vs Q E noG (room.deeper _) prom
  have J := inv_start (E := E) (CX := CX0) S room.hd env many rel inC
  refine wpAny_mono (ht.nox.run [] s1 (start N vs) H _ J start0) (fun fl s' res => ?_) (fun _ _ q => q)
  cases fl with
  | ret u =>
    obtain ⟨v, σ', H', J', rv, q⟩ := res
    exact ⟨v, H', J'.os, J'.bare, J'.base, J'.hok, rv, q⟩
  | next =>
    obtain ⟨σ', H', J', q⟩ := res
    exact ⟨.non, H', J'.os, J'.bare, J'.base, J'.hok, rfl, q⟩
  | brk => exact (res.choose_spec.choose_spec.2 : False).elim
  | cont => exact (res.choose_spec.choose_spec.2 : False).elim
end
end GG

namespace GG
open PySem PySem.Spec PyProof.Rows L2
section
variable {P : Program} {w : World} {K : PySem.W.Frag} {mg mb : Str → Option Value} {k : Nat} {fa a : Addr} {fd : FuncData} {x : Str} {sp : Sp} {s1 : Shared} {vs : List Value} {ns : List Int}

/-- what is tracked at the law's start: the script, unless the module owns it -/
noncomputable def startH (K : PySem.W.Frag) (a : Addr) (vs : List Value) (ns : List Int) : Hp := fun b =>
  if b = a ∧ K.lookup a = none then some (.frz { cls := .type "list", data := .seq vs.toArray } (.lst (ns.map V.int))) else none
theorem startH_some {b : Addr} {u : HO} (e : startH K a vs ns b = some u) : b = a ∧ K.lookup a = none ∧ u = .frz { cls := .type "list", data := .seq vs.toArray } (.lst (ns.map V.int)) := by
  unfold startH at e
  split at e
  · rename_i q
    exact ⟨q.1, q.2, (Option.some.inj e).symm⟩
  · cases e
theorem startH_none {b : Addr} (n : b ≠ a) : startH K a vs ns b = none := if_neg fun q => n q.1

theorem lawG (KX : K.In s1.heap) (hns : s1.heap.Ns mainGlobals mg) (hb : s1.heap.Ns builtinsNs mb) (hbb : ∀ x : Str, x ≠ "__name__" → mb x = bootBuiltins x) (hlim : s1.heap.NoLimit) (hg : s1.gens = #[])
    (ha : s1.heap.get? a = some { cls := .type "list", data := .seq vs.toArray }) (hi : IntsAre vs ns) (hl : ns.length ≤ sizeLine) (hr : Room k callerA)
    (F : ∀ base : Heap, K.In base → base.Ns mainGlobals mg → FnG P w K mg base k fa fd [x] sp) (hbind : ∀ (s : Shared) (u : Value), BindsTo s fd ⟨[u], []⟩ [(x, u)])
    (hsp : ∀ H : Hp, Only H → SqL K H a (ns.map V.int) → sp [.ref a] H (fun v _ => v = .bl true) fun _ _ _ => False) :
    codeAny (model P w) callerA (.call (.ref fa) ⟨[.ref a], []⟩) (fun r s' => r = .ok (.ret (.bool true)) ∧ OldK s1.heap s'.heap ∧ s'.os = s1.os ∧ AllBare s'.gens) s1 := by
  have rv := vals_ints hi
  let H : Hp := startH K a vs ns
  have only : Only H := fun b => by
    cases e : H b with
    | none => exact .inl rfl
    | some u =>
      obtain ⟨_, _, q⟩ := startH_some e
      exact .inr ⟨_, _, by rw [q]⟩
  have held : HOk P w H s1.heap := fun b u e => by
    obtain ⟨q1, _, q2⟩ := startH_some e
    subst q1 q2
    exact ⟨ha, by rw [List.length_map]; exact hl, vs, _, rv, ha⟩
  have dictFree : ∀ {b : Addr} {o : Obj} {es : Array DictEntry} {ep : Nat}, s1.heap.get? b = some o → o.data = .dict es ep → H b = none := fun {b o es ep} e d => startH_none fun z => by
    subst z
    cases e.symm.trans ha
    cases d
  have stays : ∀ {b : Addr} {m : Str → Option Value}, s1.heap.Ns b m → (hidT s1.heap H).Ns b m := fun {b m} ⟨o, es, ep, e, d, r⟩ => ⟨o, es, ep, hidT_get e (dictFree e d), d, r⟩
  have KB : K.In (hidT s1.heap H) := fun b o e => hidT_get (KX b o e) (by
    cases q : H b with
    | none => rfl
    | some u =>
      obtain ⟨q1, q2, _⟩ := startH_some q
      subst q1
      cases e.symm.trans q2)
  have M : L2.Mod K mg (hidT s1.heap H) := ⟨KB, stays hns, ⟨mb, stays hb, hbb⟩, hlim.elim fun mc q => ⟨mc, stays q.1, q.2⟩⟩
  have env : Env0 P w K mg (hidT s1.heap H) callerA [] s1 H := ⟨rfl, M, fun b o e => of_hidT e, Nat.le_of_eq (hidT_size _ _), trivial, (fun b z => absurd (show b ∈ ([] : List Addr) from z) List.not_mem_nil), held, .of_eq hg⟩
  have script : SqL K H a (ns.map V.int) := by
    cases q : K.lookup a with
    | none => exact .inl (.inr ⟨_, if_pos ⟨rfl, q⟩⟩)
    | some o =>
      cases (KX a o q).symm.trans ha
      exact .inr ⟨_, vs.toArray, _, q, rfl, rfl, rfl, by rw [List.size_toArray, hi.length]; exact hl, by simpa using rv⟩
  refine codeAny_mono ((F _ KB (stays hns)).go callerA [] s1 H ⟨[.ref a], []⟩ [.ref a] [.ref a] _ _ rfl hr env (hbind s1 (.ref a)) (.cons rfl .nil) (hsp H only script)) fun r s' res => ?_
  cases r with
  | error e => exact (show False from res).elim
  | ok fl =>
    cases fl with
    | next => exact (show False from res).elim
    | brk => exact (show False from res).elim
    | cont => exact (show False from res).elim
    | ret u =>
      obtain ⟨v, H', os, bare, un, ok', rr, q⟩ := res
      obtain rfl : v = .bl true := q
      cases (show u = Value.bool true from rr)
      refine ⟨rfl, OldK.of_keep fun b o e => ?_, os, bare⟩
      cases z : H b with
      | none => exact un.keep b o e z (fun m => absurd (show b ∈ ([] : List Addr) from m) List.not_mem_nil) (fun m => absurd (show b ∈ ([] : List Addr) from m) List.not_mem_nil)
      | some t =>
        obtain ⟨q1, _, q2⟩ := startH_some z
        subst q2
        have z2 := un.frzs b _ _ z
        have e1 := (held b _ z).1
        rw [e] at e1
        cases e1
        exact (ok' b _ z2).1
end
theorem walkG {l : PySem.W.OpenLaw} {n k : Nat} {q : Program} {loose : List Str} {XP : (Str → Option Value) → Heap → Prop} {YP : World → Heap → Prop} {d : DefRec} {K : Params → PySem.W.Frag} {sp : World → Sp} {x : Str}
    (hn : l.most = some n) (small : n ≤ sizeLine) (dflt : d.params.defaults = []) (room : Room k callerA) (inY : ∀ (w : World) (h : Heap), YP w h → (K w.params).In h)
    (F : ∀ (w : World) (mg : Str → Option Value) (fa : Addr) (h : Heap), (K w.params).In h → h.Ns mainGlobals mg → mg d.name = some (.ref fa) →
      ∃ fd : FuncData, (∀ (s : Shared) (u : Value), BindsTo s fd ⟨[u], []⟩ [(x, u)]) ∧ ∀ base : Heap, (K w.params).In base → base.Ns mainGlobals mg → FnG l.prog w (K w.params) mg base k fa fd [x] (sp w))
    (start : ∀ (w : World) (H : Hp) (a : Addr) (ns : List Int), ns.length ≤ n → (∀ z ∈ ns, Builtin.Int.intBits z ≤ 1048576) → Only H → SqL (K w.params) H a (ns.map V.int) → sp w [.ref a] H (fun v _ => v = .bl true) fun _ _ _ => False) :
    PySem.W.WalkO q loose XP YP l.row.toRowW d [] (fun f vs => PySem.call f vs) := by
  refine Att.attach_callB hn dflt ?_
  intro w s0 s1 mg mb fa o pm cd doc a vs ns G Y _ _ _ named obj hi len bits gens
  obtain ⟨fd, bound, fns⟩ := F w mg fa _ (inY w _ Y) G.T.g named
  exact lawG (inY w _ Y) G.T.g G.T.b G.T.builtins G.T.nolimit gens obj hi (Nat.le_trans len small) room fns bound fun H o' q' => start w H a ns len bits o' q'
end GG

namespace GG
open PySem PySem.Spec PyProof.Rows L2

/-! ### data and their repr -/
/-- where nothing guarded is under way, v is the datum d in each state that H describes -/
def Dt (X : Cx) (H : Hp) (v : V) (d : PyData) : Prop := ∀ (pins : List (Addr × Obj)) (σ : L2.St) (s : Shared) (u : Value), Inv X pins σ H s → RelV v u → ∃ as, Reads s.heap u d as ∧ sysModules ∉ as
def DtAll (X : Cx) (H : Hp) (vs : List V) (ds : List PyData) : Prop := ∀ (pins : List (Addr × Obj)) (σ : L2.St) (s : Shared) (us : List Value), Inv X pins σ H s → Vals vs us → ∃ as, ReadsAll s.heap us ds as ∧ sysModules ∉ as
section
variable {X : Cx} {H : Hp}
theorem Dt.non : Dt X H .non .none := fun _ _ _ _ _ r => by
  cases r
  exact ⟨_, .none, List.not_mem_nil⟩
theorem Dt.bl (b : Bool) : Dt X H (.bl b) (.bool b) := fun _ _ _ _ _ r => by
  cases r
  exact ⟨_, .bool b, List.not_mem_nil⟩
theorem Dt.int (i : Int) : Dt X H (.int i) (.int i) := fun _ _ _ _ _ r => by
  obtain ⟨t, rfl⟩ := r
  exact ⟨_, .int i t, List.not_mem_nil⟩
theorem Dt.str (x : Str) : Dt X H (.str x) (.str x) := fun _ _ _ _ _ r => by
  obtain ⟨t, rfl⟩ := r
  exact ⟨_, .str x t, List.not_mem_nil⟩
theorem DtAll.nil : DtAll X H [] [] := fun _ _ _ _ _ r => by
  cases r
  exact ⟨_, .nil, List.not_mem_nil⟩
theorem DtAll.cons {v : V} {vs : List V} {d : PyData} {ds : List PyData} (h : Dt X H v d) (t : DtAll X H vs ds) : DtAll X H (v :: vs) (d :: ds) := fun p σ s us I r => by
  cases r with
  | cons r1 r2 =>
    obtain ⟨as, q1, n1⟩ := h p σ s _ I r1
    obtain ⟨bs, q2, n2⟩ := t p σ s _ I r2
    exact ⟨_, .cons q1 q2, fun m => (List.mem_append.mp m).elim n1 n2⟩
theorem Dt.lst {a : Addr} {xs : List V} {ds : List PyData} (e : H a = some (.lst xs)) (ne : a ≠ sysModules) (t : DtAll X H xs ds) : Dt X H (.ref a) (.list ds) := fun p σ s u I r => by
  cases r
  obtain ⟨_, its, n, rv, ho⟩ := (show ObjOk X.prog X.w H s.heap a (.lst xs) from I.hok a _ e)
  obtain ⟨as, q, nm⟩ := t p σ s its I rv
  exact ⟨_, .list ho rfl rfl (by rw [List.toList_toArray]; exact q), fun m => (List.mem_cons.mp m).elim (fun z => ne z.symm) nm⟩
theorem Dt.tup {a : Addr} {xs : List V} {ds : List PyData} (e : H a = some (.tup xs)) (t : DtAll X H xs ds) : Dt X H (.ref a) (.tuple ds) := fun p σ s u I r => by
  cases r
  obtain ⟨_, its, rv, o, ho, hc, n, hd⟩ := (show ObjOk X.prog X.w H s.heap a (.tup xs) from I.hok a _ e)
  obtain ⟨as, q, nm⟩ := t p σ s its I rv
  exact ⟨_, .tuple ho hc hd (by rw [List.toList_toArray]; exact q), nm⟩
theorem Dt.dict1 {a : Addr} {k : Str} {v : V} {d : PyData} (e : H a = some (.dK [(.inr k, v)])) (t : Dt X H v d) : Dt X H (.ref a) (.dict [(.str k, d)]) := fun p σ s u I r => by
  cases r
  obtain ⟨_, ne, vs, kv, o, es, ep, ho, hx, hd, _, hp, _⟩ := (show ObjOk X.prog X.w H s.heap a (.dK [(.inr k, v)]) from I.hok a _ e)
  have na : a ≠ sysModules := by
    intro z
    rw [z] at ne
    simp at ne
  obtain ⟨⟨kq, vq⟩, rfl, ek, rv⟩ : ∃ b : Key × Value, vs = [b] ∧ Sum.inr k = b.1 ∧ RelV v b.2 := by
    cases kv with
    | cons k1 k2 =>
      cases k2
      exact ⟨_, rfl, k1.1, k1.2⟩
  simp only at ek rv
  subst ek
  obtain ⟨as, q, nm⟩ := t p σ s vq I rv
  generalize hl : es.toList = l at hp
  cases hp with
  | cons h1 h2 h3 =>
    cases h3
    rename_i en
    simp only at h1 h2
    have hk : ∃ tk, en.key = Value.str k tk := by
      rcases keyIs_shape (show keyIs (Sum.inr k) en.key = true from h1) with ⟨i, tk, z, _⟩ | ⟨y, tk, z, z2⟩
      · cases z
      · cases z
        exact ⟨tk, z2⟩
    obtain ⟨tk, hk⟩ := hk
    have r1 : ReadsAll s.heap (es.toList.map (·.key)) [PyData.str k] ([] ++ []) := by
      rw [hl, List.map_cons, List.map_nil, hk]
      exact .cons (.str k tk) .nil
    have r2 : ReadsAll s.heap (es.toList.map (·.val)) [d] (as ++ []) := by
      rw [hl, List.map_cons, List.map_nil, h2]
      exact .cons q .nil
    refine ⟨_, Reads.dict (kvs := [(.str k, d)]) ho hx.1 hd r1 r2, fun m => ?_⟩
    rcases List.mem_append.mp m with m | m
    · rcases List.mem_cons.mp m with m | m
      · exact na m.symm
      · exact absurd m (by simp)
    · rw [List.append_nil] at m
      exact nm m

/-! sizes -/
structure Sh (X : Cx) (H : Hp) (v : V) (n : Nat) (d : PyData) : Prop where
  dt : Dt X H v d
  sh : d.showable = true
  dp : d.depth ≤ 8
  ln : d.shown.length ≤ n
theorem Sh.mono {v : V} {n m : Nat} {d : PyData} (h : Sh X H v n d) (k : n ≤ m) : Sh X H v m d := ⟨h.dt, h.sh, h.dp, Nat.le_trans h.ln k⟩
theorem list_len (ds : List PyData) (n : Nat) (h : ∀ d ∈ ds, d.shown.length ≤ n) : (PyData.list ds).shown.length ≤ (n + 2) * ds.length + 4 := by
  rw [PyData.shown_list, strLen_append, strLen_append]
  have e1 : (("[" : Str)).length = 1 := rfl
  have e2 : (("]" : Str)).length = 1 := rfl
  have e3 : piled (PyData.shownAll ds) ≤ (n + 2) * ds.length := by
    clear e1 e2
    induction ds with
    | nil => simp [PyData.shownAll, piled]
    | cons d ds ih =>
      rw [PyData.shownAll_cons, piled_cons, List.length_cons, Nat.mul_add]
      have h1 := h d List.mem_cons_self
      have h2 := ih fun x hx => h x (List.mem_cons_of_mem _ hx)
      omega
  by_cases z : PyData.shownAll ds = []
  · rw [z]
    have e4 : (Str.join ", " []).length = 0 := rfl
    omega
  · have := join_length_add _ z
    omega
theorem tuple_len (ds : List PyData) (n : Nat) (h : ∀ d ∈ ds, d.shown.length ≤ n) : (PyData.tuple ds).shown.length ≤ (n + 2) * ds.length + 4 := by
  rw [PyData.shown_tuple, strLen_append, strLen_append]
  have e1 : (("(" : Str)).length = 1 := rfl
  have e2 : (((if ds.length == 1 then ",)" else ")" : String) : Str)).length ≤ 2 := by split <;> decide +kernel
  have e3 : piled (PyData.shownAll ds) ≤ (n + 2) * ds.length := by
    clear e1 e2
    induction ds with
    | nil => simp [PyData.shownAll, piled]
    | cons d ds ih =>
      rw [PyData.shownAll_cons, piled_cons, List.length_cons, Nat.mul_add]
      have h1 := h d List.mem_cons_self
      have h2 := ih fun x hx => h x (List.mem_cons_of_mem _ hx)
      omega
  by_cases z : PyData.shownAll ds = []
  · rw [z]
    have e4 : (Str.join ", " []).length = 0 := rfl
    omega
  · have := join_length_add _ z
    omega
theorem call_repr (hg : X.A.guards = some []) (hu : X.A.units + 80 < cLine) : CallR X (.builtin "repr") (fun xs H Q => ∃ a d, xs = [.ref a] ∧ Dt X H (.ref a) d ∧ d.showable = true ∧ d.depth ≤ 60 ∧ d.shown.length ≤ sizeLine ∧ Q (.str d.shown) H) := by
  intro pins s σ H xs us Q I r h
  obtain ⟨a, d, rfl, dt, hs, hd, hz, q⟩ := h
  cases r with
  | cons r1 r2 =>
    cases r2
    obtain rfl : _ = Value.ref a := r1
    obtain ⟨as, rd, nm⟩ := dt pins σ s _ I rfl
    exact repr_of_reads' (h₀ := s.heap) rd hs (fun _ => nm) hg (by omega) (fun _ _ e => e) (fun h' u tk k => ⟨.str d.shown, H, I.kept k, ⟨u, rfl⟩, q⟩) hz
end
end GG

namespace GG
open PySem PySem.Spec PyProof.Rows L2

/-! ### exceptions of the program's own classes as values -/
/-- what is known of an own error class -/
structure ExT (K : PySem.W.Frag) (C : Addr) : Prop where
  ox : OexC K C
  ga : PySem.W.findIn K (.ref C) "__getattribute__" = some (some (.builtin "BaseException.__getattribute__"))
  gg : PySem.W.findIn K (.ref C) "__getattr__" = some none
  hd : PySem.W.hasDictIn K C = true
  cl : PySem.W.findIn K (.ref C) "__class__" = some (some (.builtin "object.__class__"))
  mo : PySem.W.mroIn K C (.type "object") = some true
  oc : PySem.W.specialIn K (.builtin "object.__class__") "__get__" = some (some (.builtin "getset_descriptor.__get__"))
  ot : PySem.W.takesIn K (.builtin "object.__class__") = some true
/-- an error of the class C with these fields -/
def ExAt (H : Hp) (a C : Addr) (fs : List (Str × V)) : Prop := (fs = [] ∧ H a = some (exo a C none)) ∨ ∃ dx, H a = some (exo a C (some dx)) ∧ H dx = some (exd dx fs)
theorem ExT.some {K : PySem.W.Frag} {C : Addr} (T : ExT K C) : (PySem.W.clsIn K C).isSome = true := by
  obtain ⟨nm, q, N, bs, bm, sn, sub, ab, col, dd, k0, k1, k2, k3, k5, hC, hbm⟩ := T.ox.cls
  unfold PySem.W.clsIn
  rw [hC] <;> rfl
section
variable {X : Cx} {pins : List (Addr × Obj)} {σ : L2.St} {H : Hp} {s : Shared} {a C : Addr} {fs : List (Str × V)}
theorem ExAt.inst (I : Inv X pins σ H s) (e : ExAt H a C fs) : ∃ (ox : Obj) (od : Option Obj), PySem.W.InstAt s.heap a ox C od ∧
    ∀ (f : Str) (v : V), fs.lookup f = some v → ∃ (o : Obj) (u : Value), od = some o ∧ PySem.W.lookIn f o = some (some u) ∧ RelV v u := by
  rcases e with ⟨rfl, e⟩ | ⟨dx, e, ed⟩
  · obtain ⟨t, h⟩ := exo_at I.hok e
    exact ⟨_, none, ⟨h, rfl, rfl, trivial⟩, fun f v q => by cases q⟩
  · obtain ⟨t, h⟩ := exo_at I.hok e
    obtain ⟨mA, hns, rel⟩ := exd_at I.hok ed
    obtain ⟨od, ho, hl⟩ := lookIn_ns hns
    refine ⟨_, some od, ⟨h, rfl, rfl, ho⟩, fun f v q => ?_⟩
    obtain ⟨u, hu, ru⟩ := RelO.some_of (v := v) (o := mA f) (by rw [← q]; exact rel f)
    exact ⟨od, u, rfl, by rw [hl, hu], ru⟩
/-- isinstance(e, c) -/
def rIsX (K : PySem.W.Frag) : List V → Hp → VK → Prop := fun xs H Q => ∃ (a C : Addr) (fs : List (Str × V)) (c : V) (u : Value) (b : Bool), xs = [.ref a, c] ∧ ExT K C ∧ ExAt H a C fs ∧ ClsV c u ∧ PySem.W.kitOne K (.ref C) u = some b ∧ Q (.bl b) H
theorem call_isx : CallR X (.builtin "isinstance") (rIsX X.K) := by
  intro pins s σ H xs us Q I r h
  obtain ⟨a, C, fs, c, u, b, rfl, T, e, cv, k, q⟩ := h
  obtain ⟨u1, u2, rfl, r1, r2⟩ := vals2 r
  cases (show u1 = Value.ref a from r1)
  obtain rfl := cv.eq r2
  obtain ⟨ox, od, J, _⟩ := e.inst I
  exact PySem.W.kia_one (PySem.W.kitx_exc T.some T.ga T.gg T.ox.exC T.cl T.oc T.ot T.mo) I.kIn J k (fun z => nomatch z) fun tk => ⟨.bl b, H, I.tok tk, rfl, q⟩
/-- e.f -/
def tXfd (K : PySem.W.Frag) (f : Str) (te : TE) : TE := fun σ H Q => te σ H fun x H1 => ∃ (a C : Addr) (fs : List (Str × V)) (v : V), x = .ref a ∧ ExT K C ∧ ExAt H1 a C fs ∧ PySem.W.findIn K (.ref C) f = some none ∧ fs.lookup f = some v ∧ Q v H1
theorem pe_xfd {e : Expr} {te : TE} {pos : Pos} {f : Str} (he : PE X e te) (hb : attributeBase e f X.env (eval e X.env) = eval e X.env := by rfl) : PE X (.Attribute e f pos) (tXfd X.K f te) := by
  refine ⟨fun pins s σ H Q I h => ?_⟩
  refine attr_of hb (thn (he.run pins s σ H _ I h) fun u s1 hh => ?_)
  obtain ⟨x, H1, I1, rx, a, C, fs, v, ex, T, ea, no, l, q⟩ := hh
  subst ex
  obtain rfl : u = Value.ref a := rx
  obtain ⟨ox, od, J, look⟩ := ea.inst I1
  obtain ⟨o, u, rfl, lk, ru⟩ := look f v l
  exact HandSPX.exc_get I1.kIn J T.ga T.gg T.ox.exC (PySem.W.findObj_own T.hd no rfl lk) (handed_of ru) ⟨v, H1, I1.tok _, ru, q⟩
/-- C(e, ..) as a value, C's own __init__ keeping sp -/
def tVal (C : Addr) (sp : Sp) (ta : TA) : TE := fun σ H Q => ta σ H fun vs H1 => vs.length ≤ 1000 ∧ ∀ a, H1 a = none → sp (.ref a :: vs) (upd H1 a (exo a C none)) (fun v H2 => v = .non ∧ Q (.ref a) H2) (fun _ _ _ => False)
theorem pe_val {x : Str} {C fI : Addr} {k : Nat} {fd : FuncData} {ps : List Str} {sp : Sp} {e : Expr} {es : List Expr} {ta : TA} {p pos : Pos} (T : OexC X.K C) (iC : PySem.W.findIn X.K (.ref C) "__init__" = some (some (.ref fI))) (tI : PySem.W.typeIn X.K (.ref fI) = some (.type "function"))
    (F1 : FnOk X.prog X.w X.K X.mg X.base CX0 k fI fd ps sp) (hr : Room (k + 1) X.A) (hb : Binds X.K fd ps []) (hm : X.mg x = some (.ref C)) (ha : PA X (e :: es) ta) (hg : Gl X x := by rfl)
    (hdb : (x == ("__debug__" : Str)) = false := by decide) (he : starEach (e :: es) X.env = (false, eval e X.env) :: starEach es X.env := by rfl) (hpl : (backTo pos (starEach es X.env)).any (·.1) = false := by rfl) :
    PE X (.Call (.Name x p) (e :: es) [] pos) (tVal C sp ta) := by
  refine ⟨fun pins s σ H Q I h => ?_⟩
  obtain ⟨nm, q, N, bs, bm, sn, sub, ab, col, dd, k0, k1, k2, k3, k5, hC, tail⟩ := T.cls
  refine wpAny_Call_Name_kw (ld_glob I hg hm ?_ hdb)
  refine PySem.W.callWith_K (h₀ := X.base) I.ok.mod.kin T.kC (thn (ha.run pos pins s σ H _ I h) fun us s1 got => ?_) he hpl
  obtain ⟨vs, H1, I1, r1, small, q1⟩ := got
  refine ⟨I1.kIn, ?_⟩
  show wpAny _ _ (call (.ref C) us) _ _ _
  obtain ⟨hp, g, dr, tk, os⟩ := s1
  have big : hp.objs.size ≤ hp.objs.size + 1 := Nat.le_succ _
  have want := q1 (hp.objs.size + 1) (I1.hok.fresh big)
  have grow : ∀ b o, hp.get? b = some o → ((hp.push (PySem.W.kdv_tup us)).push (PySem.HandSPX.excO C hp.objs.size)).get? b = some o := fun b o z => Heap.get?_push_of_some _ (Heap.get?_push_of_some _ z)
  have new : ((hp.push (PySem.W.kdv_tup us)).push (PySem.HandSPX.excO C hp.objs.size)).get? (hp.objs.size + 1) = some (PySem.HandSPX.excO C hp.objs.size) := by heap_get
  have J : Inv X pins σ (upd H1 (hp.objs.size + 1) (exo (hp.objs.size + 1) C none)) ⟨(hp.push (PySem.W.kdv_tup us)).push (PySem.HandSPX.excO C hp.objs.size), g, dr, tk, os⟩ :=
    I1.laid (t' := tk) (a := hp.objs.size + 1) (h' := (hp.push (PySem.W.kdv_tup us)).push (PySem.HandSPX.excO C hp.objs.size)) grow big (exo_ok new)
  have r2 : Vals (V.ref (hp.objs.size + 1) :: vs) (Value.ref (hp.objs.size + 1) :: us ++ []) := by
    rw [List.append_nil]
    exact .cons rfl r1
  have cnt : (Value.ref (hp.objs.size + 1) :: us ++ []).length = ps.length := by
    rw [← r2.length]
    exact F1.len _ _ _ _ want
  have fits : us.length ≤ sizeLine := by
    rw [← Paired.length r1, sizeLine_eq]
    omega
  refine wpAny_call (PySem.HandSPX.call_own F.excBase_ValueError (fun Y => PySem.HandSPX.refsVE_contains Y bm tail) (I1.kIn _ _ hC) (PySem.W.looks_findIn I1.kIn iC) (fun self => PySem.W.bind_fn I1.kIn self tI) fits
    (codeAny_mono (F1.run _ X.stack _ _ ⟨Value.ref (hp.objs.size + 1) :: us, []⟩ (Value.ref (hp.objs.size + 1) :: us ++ []) _ _ (fun _ _ _ => False) (hr.make C us []) (J.env0.make C us []) (hb _ (Value.ref (hp.objs.size + 1) :: us) J.kIn cnt) r2 want) fun r s' res => ?_))
  cases r with
  | error er => exact (show False from res).elim
  | ok fl =>
    cases fl with
    | ret u =>
      obtain ⟨v, H2, J2, rv, rfl, q2⟩ := J.after res
      exact ⟨rv, .ref (hp.objs.size + 1), H2, J2, rfl, q2⟩
    | next => exact False.elim res
    | brk => exact False.elim res
    | cont => exact False.elim res
/-- C() as a value, no own __init__ -/
theorem pe_val0 {C : Addr} {x : Str} {p pos : Pos} (q : PySem.W.excIn X.K C [.type "ValueError", .type "Exception", .type "BaseException", .type "object"] "ValueError.__new__" = true) (gC : X.mg x = some (.ref C)) (kC : PySem.W.keepIn X.K (.ref C) = true) (hg : Gl X x := by rfl) (hdb : (x == ("__debug__" : Str)) = false := by decide) :
    PE X (.Call (.Name x p) [] [] pos) (fun σ H Q => ∀ a, H a = none → Q (.ref a) (upd H a (exo a C none))) := by
  refine ⟨fun pins s σ H Q I h => ?_⟩
  refine wpAny_Call_Name_kw (ld_glob I hg gC ?_ hdb)
  refine PySem.W.callWith_K0 I.kIn kC ?_
  obtain ⟨bm, N, nm, qn, bs, hdct, sn, sub, ab, col, dd, k0, k1, k2, k3, k5, mN, hC, hN, hni, T⟩ := exc_obj I.kIn q
  refine wpAny_call_exc_subT F.excBase_ValueError T hC hN hni (fun h' a made => ?_) (by show 0 ≤ sizeLine; exact Nat.zero_le _)
  have free : H a = none := I.hok.gone made.new
  obtain ⟨t, ht, _, _⟩ := made.there
  exact ⟨.ref a, upd H a (exo a C none), I.laidN made.keeps made.new free (exo_ok ht), rfl, h a free⟩
end
end GG

namespace GG
open PySem PySem.Spec PyProof.Rows L2
/-! ### the text by places -/
def topS (i : Nat) : Stmt := PySem.Challenge.pw_allbids_k03_whole_plain_lists.main.body.getD i (.Pass ⟨0, 0, 0, 0⟩)
abbrev sPen : Stmt := topS 29
abbrev sDraw : Stmt := topS 30
abbrev sPick : Stmt := topS 31

/-! ### a pen -/
def penD (l : Addr) (at' dg c fo : Int) : List (Key × V) := [(.inr "cells", .ref l), (.inr "at", .int at'), (.inr "digits", .int dg), (.inr "count", .int c), (.inr "fold", .int fo)]
section
variable (l : Addr) (a d c f x : Int)
theorem penD_cells : valV (penD l a d c f) (.inr "cells") = some (.ref l) := by kernel_rfl
theorem penD_at : valV (penD l a d c f) (.inr "at") = some (.int a) := by kernel_rfl
theorem penD_digits : valV (penD l a d c f) (.inr "digits") = some (.int d) := by kernel_rfl
theorem penD_count : valV (penD l a d c f) (.inr "count") = some (.int c) := by kernel_rfl
theorem penD_fold : valV (penD l a d c f) (.inr "fold") = some (.int f) := by kernel_rfl
theorem penP_at : putK (penD l a d c f) (.inr "at") (.int x) = penD l x d c f := by kernel_rfl
theorem penP_digits : putK (penD l a d c f) (.inr "digits") (.int x) = penD l a x c f := by kernel_rfl
theorem penP_count : putK (penD l a d c f) (.inr "count") (.int x) = penD l a d x f := by kernel_rfl
theorem penP_fold : putK (penD l a d c f) (.inr "fold") (.int x) = penD l a d c x := by kernel_rfl
end
/-- a pen at p, that was asked c times -/
structure PenIs (H : Hp) (p l : Addr) (ns : List Int) (at' dg c fo : Int) : Prop where
  obj : H p = some (.dK (penD l at' dg c fo))
  cel : H l = some (.lst (ns.map V.int))
  len : ns.length ≤ 63
  a0 : 0 ≤ at'
  d0 : 0 ≤ dg
  c0 : 0 ≤ c
  f0 : 0 ≤ fo
  f1 : fo < 2147483587
def PenAt (H : Hp) (p l : Addr) (c : Int) : Prop := ∃ ns at' dg fo, PenIs H p l ns at' dg c fo
/-- all but p stays -/
def Keep (p : Addr) (H H' : Hp) : Prop := ∀ b o, b ≠ p → H b = some o → H' b = some o
theorem Keep.refl {p : Addr} {H : Hp} : Keep p H H := fun _ _ _ e => e
theorem Keep.trans {p : Addr} {H H1 H2 : Hp} (a : Keep p H H1) (b : Keep p H1 H2) : Keep p H H2 := fun c o n e => b c o n (a c o n e)
theorem Keep.upd {p : Addr} {H H1 : Hp} {o : HO} (a : Keep p H H1) : Keep p H (upd H1 p o) := fun c u n e => by
  rw [upd_ne n]
  exact a c u n e
theorem Keep.new {p q : Addr} {H H1 : Hp} {o : HO} (a : Keep p H H1) (n : H1 q = none) : Keep p H (L2.upd H1 q o) := fun c u nc e => by
  have z := a c u nc e
  rw [upd_ne (ne_of_none z n)]
  exact z
theorem PenIs.put {H : Hp} {p l : Addr} {ns : List Int} {a d c f a' d' c' f' : Int} (P : PenIs H p l ns a d c f) (h1 : 0 ≤ a') (h2 : 0 ≤ d') (h3 : 0 ≤ c') (h4 : 0 ≤ f') (h5 : f' < 2147483587) : PenIs (upd H p (.dK (penD l a' d' c' f'))) p l ns a' d' c' f' :=
  ⟨upd_same, by rw [upd_ne (ne_of P.cel P.obj (by intro z; cases z))]; exact P.cel, P.len, h1, h2, h3, h4, h5⟩
structure PTxt (K : PySem.W.Frag) (mg : Str → Option Value) : Prop where
  int : mg "int" = none
  list : mg "list" = none
  len : mg "len" = none
theorem bInt : bootBuiltins "int" = some (.type "int") := by decide +kernel
theorem bList : bootBuiltins "list" = some (.type "list") := by decide +kernel
theorem small5 {l : Addr} {a d c f : Int} : (penD l a d c f).length < sizeLine := by
  rw [sizeLine_eq]
  show 5 < 16777216
  decide
section
variable {H : Hp} {p l : Addr} {ns : List Int} {a d c f : Int} (I : PenIs H p l ns a d c f)
include I
theorem PenIs.gCells : DGet H p (.str "cells") (some (.ref l)) := penD_cells l a d c f ▸ DGet.k (k := Sum.inr "cells") I.obj
theorem PenIs.gAt : DGet H p (.str "at") (some (.int a)) := penD_at l a d c f ▸ DGet.k (k := Sum.inr "at") I.obj
theorem PenIs.gDigits : DGet H p (.str "digits") (some (.int d)) := penD_digits l a d c f ▸ DGet.k (k := Sum.inr "digits") I.obj
theorem PenIs.gCount : DGet H p (.str "count") (some (.int c)) := penD_count l a d c f ▸ DGet.k (k := Sum.inr "count") I.obj
theorem PenIs.gFold : DGet H p (.str "fold") (some (.int f)) := penD_fold l a d c f ▸ DGet.k (k := Sum.inr "fold") I.obj
theorem PenIs.pAt (x : Int) : DPut H p (.str "at") (.int x) (upd H p (.dK (penD l x d c f))) := penP_at l a d c f x ▸ DPut.k (k := Sum.inr "at") I.obj small5
theorem PenIs.pDigits (x : Int) : DPut H p (.str "digits") (.int x) (upd H p (.dK (penD l a x c f))) := penP_digits l a d c f x ▸ DPut.k (k := Sum.inr "digits") I.obj small5
theorem PenIs.pCount (x : Int) : DPut H p (.str "count") (.int x) (upd H p (.dK (penD l a d x f))) := penP_count l a d c f x ▸ DPut.k (k := Sum.inr "count") I.obj small5
theorem PenIs.pFold (x : Int) : DPut H p (.str "fold") (.int x) (upd H p (.dK (penD l a d c x))) := penP_fold l a d c f x ▸ DPut.k (k := Sum.inr "fold") I.obj small5
end
/-- many is a number of cases -/
def spDraw : Sp := fun vs H Q _ => ∃ (p l : Addr) (c many : Int), vs = [.ref p, .int many] ∧ PenAt H p l c ∧ 0 < many ∧ many < 1000001 ∧ c < 1000000000 ∧
  ∀ (r : Int) (H' : Hp), 0 ≤ r → r < many → PenAt H' p l (c + 1) → Keep p H H' → Q (.int r) H'
section
variable {P : Program} {w : World} {K : PySem.W.Frag} {mg : Str → Option Value} {base : Heap}
theorem scDraw : FnScope ["_law_pen_here", "_law_many", "_law_cell", "_law_digit", "_law_mixed"] ["_law_pen_here", "_law_many"] (defScope sDraw) := ⟨rfl, rfl, rfl, by decide +kernel, rfl, by decide +kernel, by decide +kernel⟩
theorem ok_draw {f : Addr} {fd : FuncData} (F : Fun K "_law_draw" "_law_draw" sDraw f fd) (T : PTxt K mg) : FnOk P w K mg base CX0 1 f fd ["_law_pen_here", "_law_many"] spDraw := by
  refine F.ok scDraw (fun vs H Q E h => ?_) (fun cdv A outer s H vs Q E hr h => ?_)
  · obtain ⟨p, l, c, many, rfl, _⟩ := h
    rfl
  · obtain ⟨p, l, c, many, rfl, ⟨ns, a, d, fo, I0⟩, m0, m1, c1, k⟩ := h
    have hu := hu_of hr
    refine ⟨_, pss_cons (ps_dput hu (pv 0) pe_str (pe_op op_add (pe_dget hu (pv 0) pe_str (fun _ _ => rfl)) pe_int) rfl)
      (Evl.pss_cut (ps_if (PW.pt (pw_and (pt_cmpR op_eq (pe_dget hu (pv 0) pe_str (fun _ _ => rfl)) pe_int (nomark _)) (pw_and1 (pt_cmpR op_lt (pe_dget hu (pv 0) pe_str (fun _ _ => rfl)) (pe_callB call_len_seq (by rfl) T.len PySem.boot_len (pa_cons (pe_dget hu (pv 0) pe_str (fun _ _ => rfl)) pa_nil)) (nomark _)))))
        (pss_cons (ps_set (i := 2) scDraw.nd rfl (.inl rfl) (pe_ix ix_list (pe_dget hu (pv 0) pe_str (fun _ _ => rfl)) (pe_dget hu (pv 0) pe_str (fun _ _ => rfl)) (fun _ _ => rfl)))
          (pss_cons (ps_dput hu (pv 0) pe_str (pe_op op_add (pe_dget hu (pv 0) pe_str (fun _ _ => rfl)) pe_int) rfl)
          (pss_one (ps_if (pt_cmpR op_ge (pv 2) (pe_op op_pow pe_int pe_int) (nomark _))
            (pss_one (ps_dput hu (pv 0) pe_str (pe_op op_sub (pv 2) (pe_op op_pow pe_int pe_int)) rfl))
            (pss_one (ps_dput hu (pv 0) pe_str (pe_op op_mod (pe_callTy call_int1 (by rfl) T.int bInt (pa_cons (pe_op op_add (pe_op op_mul (pe_dget hu (pv 0) pe_str (fun _ _ => rfl)) pe_int) (pv 2)) pa_nil)) pe_int) rfl))))))
        pss_nil)
      (pss_cons (ps_if (pt_cmpR op_gt (pe_dget hu (pv 0) pe_str (fun _ _ => rfl)) pe_int (nomark _))
        (pss_cons (ps_set (i := 3) scDraw.nd rfl (.inl rfl) (pe_op op_mod (pe_callTy call_int1 (by rfl) T.int bInt (pa_cons (pe_dget hu (pv 0) pe_str (fun _ _ => rfl)) pa_nil)) (pv 1)))
          (pss_cons (ps_dput hu (pv 0) pe_str (pe_op op_fdivW (pe_dget hu (pv 0) pe_str (fun _ _ => rfl)) (pv 1)) rfl)
          (pss_one (ps_ret (pv 3)))))
        pss_nil)
      (pss_cons (ps_set (i := 4) scDraw.nd rfl (.inl rfl) (pe_op op_add (pe_op op_add (pe_dget hu (pv 0) pe_str (fun _ _ => rfl)) (pe_op op_mul (pe_dget hu (pv 0) pe_str (fun _ _ => rfl)) pe_int)) pe_int))
      (pss_one (ps_ret (pe_op op_mod (pe_op op_fdiv (pe_callTy call_int1 (by rfl) T.int bInt (pa_cons (pe_op op_mod (pe_op op_pow (pv 4) pe_int) pe_int) pa_nil)) pe_int) (pv 1))))))), ?_⟩
    refine ⟨_, rfl, p, _, rfl, I0.gCount, _, _, rfl, rfl, _, rfl, p, _, rfl, I0.pCount _, ?_⟩
    have I1 := I0.put (a' := a) (d' := d) (c' := c + 1) (f' := fo) I0.a0 I0.d0 (by have := I0.c0; omega) I0.f0 I0.f1
    have K1 : Keep p H (upd H p (.dK (penD l a d (c + 1) fo))) := Keep.refl.upd
    have dc := I1.c0
    refine ⟨fun σ' H' => ∃ (a' d' f' : Int) (v : Option V), σ' = [some (.ref p), some (.int many), v, none, none] ∧ PenIs H' p l ns a' d' (c + 1) f' ∧ Keep p H H', ?_, ?_⟩
    · refine ⟨_, rfl, p, _, rfl, I1.gDigits, rfl, _, rfl, ?_⟩
      refine ite2 (fun _ => ?_) (fun _ => ?_)
      · refine ⟨_, rfl, p, _, rfl, I1.gAt, _, rfl, p, _, rfl, I1.gCells, l, _, rfl, .inl (SqL.of I1.cel), _, _, rfl, rfl, _, rfl, ?_⟩
        refine ite2 (fun e => ?_) (fun _ => ?_)
        · rw [List.length_map] at e
          have ha : a < (ns.length : Int) := of_decide_eq_true e
          have ha0 := I1.a0
          obtain ⟨n, rfl⟩ : ∃ n : Nat, a = (n : Int) := ⟨a.toNat, (Int.toNat_of_nonneg ha0).symm⟩
          have hn : n < ns.length := by omega
          refine ⟨_, rfl, p, _, rfl, I1.gCells, _, rfl, p, _, rfl, I1.gAt, l, _, _, V.int ns[n], rfl, rfl, SqL.of I1.cel, atI_nat (by simp [hn]), ?_⟩
          refine ⟨_, rfl, p, _, rfl, I1.gAt, _, _, rfl, rfl, _, rfl, p, _, rfl, I1.pAt _, ?_⟩
          have I2 := I1.put (a' := (n : Int) + 1) (d' := d) (c' := c + 1) (f' := fo) (by omega) I1.d0 I1.c0 I1.f0 I1.f1
          have K2 := K1.upd (o := .dK (penD l ((n : Int) + 1) d (c + 1) fo))
          refine ⟨_, rfl, _, _, rfl, rfl, ⟨by decide, by decide, by decide⟩, _, _, rfl, rfl, _, rfl, ?_⟩
          refine ite2 (fun e => ?_) (fun _ => ?_)
          · have hb := of_decide_eq_true e
            refine ⟨_, rfl, _, _, rfl, rfl, ⟨by decide, by decide, by decide⟩, _, _, rfl, rfl, _, rfl, p, _, rfl, I2.pDigits _, ?_⟩
            exact ⟨_, _, _, _, rfl, I2.put (by omega) (by omega) I2.c0 I2.f0 I2.f1, K2.upd⟩
          · refine ⟨_, rfl, p, _, rfl, I2.gFold, _, _, rfl, rfl, .inl ⟨by have := I2.f0; omega, by have := I2.f1; omega⟩, _, rfl, _, _, rfl, rfl, .inl ⟨_, rfl, ?_⟩⟩
            refine ⟨_, _, rfl, rfl, (show (0 : Int) < 2147483587 by decide), _, rfl, p, _, rfl, I2.pFold _, ?_⟩
            exact ⟨_, _, _, _, rfl, I2.put I2.a0 I2.d0 I2.c0 (Int.emod_nonneg _ (by decide)) (Int.emod_lt_of_pos _ (by decide)), K2.upd⟩
        · exact ⟨_, _, _, _, rfl, I1, K1⟩
      · exact ⟨_, _, _, _, rfl, I1, K1⟩
    · rintro σ' H' ⟨a', d', f', v, rfl, I2, K2⟩
      refine ⟨_, rfl, p, _, rfl, I2.gDigits, _, _, rfl, rfl, _, rfl, ?_⟩
      refine ite2 (fun e => ?_) (fun _ => ?_)
      · refine ⟨_, rfl, p, _, rfl, I2.gDigits, .inl ⟨_, rfl, _, rfl, _, _, rfl, rfl, m0, ?_⟩⟩
        refine ⟨_, rfl, p, _, rfl, I2.gDigits, _, rfl, _, _, rfl, rfl, wide_div (b := 20) m0 (by omega) (by decide) (by decide), _, rfl, p, _, rfl, I2.pDigits _, ?_⟩
        refine ⟨_, rfl, k _ _ (Int.emod_nonneg _ (by omega)) (Int.emod_lt_of_pos _ m0) ⟨ns, _, _, _, I2.put I2.a0 (Int.ediv_nonneg I2.d0 (by omega)) I2.c0 I2.f0 I2.f1⟩ K2.upd⟩
      · have f0 := I2.f0
        have f1 := I2.f1
        refine ⟨_, rfl, p, _, rfl, I2.gFold, _, rfl, p, _, rfl, I2.gCount, _, _, rfl, rfl, .inl ⟨by omega, by omega⟩, _, _, rfl, rfl, _, _, rfl, rfl, ?_⟩
        refine ⟨_, rfl, _, _, rfl, rfl, ⟨by decide, by decide, by omega⟩, _, _, rfl, rfl, (show (0 : Int) < 2305843009213693951 by decide), .inl ⟨_, rfl, _, _, rfl, rfl, ⟨by decide, by decide⟩, _, rfl, _, _, rfl, rfl, m0, ?_⟩⟩
        exact k _ _ (Int.emod_nonneg _ (by omega)) (Int.emod_lt_of_pos _ m0) ⟨ns, _, _, _, I2⟩ K2
end
end GG


namespace GG
open PySem PySem.Spec PyProof.Rows L2
/-- a def of the text, where its name leads to -/
structure DefIs (K : PySem.W.Frag) (mg : Str → Option Value) (x : Str) (st : Stmt) : Prop where
  ex : ∃ f fd, Fun K x x st f fd ∧ mg x = some (.ref f)
/-- what a name of the module keeps -/
structure Kn (P : Program) (w : World) (K : PySem.W.Frag) (mg : Str → Option Value) (base : Heap) (x : Str) (k : Nat) (ps : List Str) (sp : Sp) : Prop where
  ex : ∃ f fd, mg x = some (.ref f) ∧ PySem.W.keepIn K (.ref f) = true ∧ Binds K fd ps [] ∧ FnOk P w K mg base CX0 k f fd ps sp
theorem Kn.of {P : Program} {w : World} {K : PySem.W.Frag} {mg : Str → Option Value} {base : Heap} {x : Str} {st : Stmt} {k : Nat} {ps : List Str} {sp : Sp} (D : DefIs K mg x st)
    (hb : ∀ (kV doc pm : Value) (an : Option Addr) (cdv ct : Value) (us : List Value), us.length = ps.length → bindArgs (PySem.W.fnOf x x (defArgs st) (defBody st) (defScope st) .none kV doc pm an cdv ct) ⟨us, []⟩ = pure (ps.zip us))
    (ok : ∀ f fd, Fun K x x st f fd → FnOk P w K mg base CX0 k f fd ps sp) : Kn P w K mg base x k ps sp := by
  obtain ⟨f, fd, F, m⟩ := D.ex
  exact ⟨f, fd, m, F.kp, F.binds hb, ok f fd F⟩
theorem pe_kn {X : Cx} {x : Str} {k : Nat} {ps : List Str} {sp : Sp} {e : Expr} {es : List Expr} {t : TA} {p pos : Pos} (F : Kn X.prog X.w X.K X.mg X.base x k ps sp) (hr : Room k X.A) (ha : PA X (e :: es) t) (hg : Gl X x := by rfl)
    (hdb : (x == ("__debug__" : Str)) = false := by decide) (he : starEach (e :: es) X.env = (false, eval e X.env) :: starEach es X.env := by rfl) (hpl : (backTo pos (starEach es X.env)).any (·.1) = false := by rfl) :
    PE X (.Call (.Name x p) (e :: es) [] pos) (tCall sp [] (fun _ _ _ => False) t) := by
  obtain ⟨f, fd, hm, hk, hb, G⟩ := F.ex
  exact pe_call G hr hg hm hk hb .nil (fun _ _ _ _ _ _ _ z => z.elim) ha hdb he hpl
theorem SqL.keep {K : PySem.W.Frag} {H H' : Hp} {p a : Addr} {kvs : List (Key × V)} {xs : List V} (k : Keep p H H') (hp : H p = some (.dK kvs)) (s : SqL K H a xs) : SqL K H' a xs := by
  rcases s with s | s
  · have n : a ≠ p := by
      rcases s with s | ⟨o, s⟩
      · exact ne_of s hp (by intro z; cases z)
      · exact ne_of s hp (by intro z; cases z)
    rcases s with s | ⟨o, s⟩
    · exact .inl (.inl (k a _ n s))
    · exact .inl (.inr ⟨o, k a _ n s⟩)
  · exact .inr s
def spPen (K : PySem.W.Frag) : Sp := fun vs H Q _ => ∃ (a : Addr) (ns : List Int), vs = [.ref a] ∧ SqL K H a (ns.map V.int) ∧ ns.length ≤ 63 ∧ ∀ (p l : Addr) (H' : Hp), PenAt H' p l 0 → H p = none → H l = none → Same H H' → Q (.ref p) H'
def spPick (K : PySem.W.Frag) : Sp := fun vs H Q _ => ∃ (p l a : Addr) (c : Int) (xs : List V), vs = [.ref p, .ref a] ∧ PenAt H p l c ∧ SqL K H a xs ∧ 0 < xs.length ∧ xs.length < 1000000 ∧ c < 1000000000 ∧
  ∀ (x : V) (H' : Hp), x ∈ xs → PenAt H' p l (c + 1) → Keep p H H' → Q x H'
def spFar : Sp := fun vs H Q _ => ∃ (p l : Addr) (c : Int), vs = [.ref p] ∧ PenAt H p l c ∧ c < 100000000 ∧
  ∀ (r c' : Int) (H' : Hp), c ≤ c' → c' ≤ c + 10 → -1000000000000000000 < r → r < 1000000000000000000 → PenAt H' p l c' → Keep p H H' → Q (.int r) H'
section
variable {P : Program} {w : World} {K : PySem.W.Frag} {mg : Str → Option Value} {base : Heap}
theorem kn_draw (D : DefIs K mg "_law_draw" sDraw) (T : PTxt K mg) : Kn P w K mg base "_law_draw" 1 ["_law_pen_here", "_law_many"] spDraw :=
  .of D (fun _ _ _ _ _ _ us hl => match us, hl with | [_, _], _ => rfl) fun _ _ F => ok_draw F T
theorem scPen : FnScope ["_law_script", "_law_fold", "_law_cell"] ["_law_script"] (defScope sPen) := ⟨rfl, rfl, rfl, by decide +kernel, rfl, by decide +kernel, by decide +kernel⟩
theorem kn_pen (D : DefIs K mg "_law_pen" sPen) (T : PTxt K mg) : Kn P w K mg base "_law_pen" 1 ["_law_script"] (spPen K) := by
  refine .of D (fun _ _ _ _ _ _ us hl => match us, hl with | [_], _ => rfl) fun _ _ F => ?_
  refine F.ok scPen (fun vs H Q E h => ?_) (fun cdv A outer s H vs Q E hr h => ?_)
  · obtain ⟨a, ns, rfl, _⟩ := h
    rfl
  · obtain ⟨a, ns, rfl, S, hl, k⟩ := h
    refine ⟨_, pss_cons (ps_set (i := 1) scPen.nd rfl (.inl rfl) pe_int)
      (pss_cons (ps_for PassesOwn.never rfl (pi_list (pv 0)) (pg_name (i := 2) scPen.nd rfl (.inl rfl))
        (pss_one (ps_set (i := 1) scPen.nd rfl (.inl rfl) (pe_op op_mod (pe_callTy call_int1 (by rfl) T.int bInt (pa_cons (pe_op op_add (pe_op op_mul (pv 1) pe_int) (pv 2)) pa_nil)) pe_int))))
      (pss_one (ps_ret (pe_disp (pps_cons pe_str (pe_callTy call_list_of (by rfl) T.list bList (pa_cons (pv 0) pa_nil)) (pps_cons pe_str pe_int (pps_cons pe_str pe_int (pps_cons pe_str pe_int (pps_cons pe_str (pv 1) pps_nil))))) rfl rfl (by intro z; cases z) (by decide))))), ?_⟩
    refine ⟨_, rfl, a, rfl, ⟨_, S⟩, for_list (K := K) (a := a) (xs := ns.map V.int) (fun i σ H' => H = H' ∧ ∃ (f : Int) (v : Option V), σ = [some (.ref a), some (.int f), v] ∧ 0 ≤ f ∧ f < 1000000007) ⟨rfl, _, _, rfl, by decide, by decide⟩ (fun i σ H' _ z => z.1 ▸ S) ?_ ?_⟩
    · rintro i x σ H' hi ⟨rfl, f, v, rfl, f0, f1⟩
      rw [List.getElem?_map] at hi
      obtain ⟨n, _, rfl⟩ := Option.map_eq_some_iff.mp hi
      refine ⟨_, rfl, _, _, rfl, rfl, .inl ⟨by omega, by omega⟩, _, rfl, _, _, rfl, rfl, .inl ⟨_, rfl, _, _, rfl, rfl, (show (0 : Int) < 1000000007 by decide), ?_⟩⟩
      exact ⟨rfl, _, _, rfl, Int.emod_nonneg _ (by decide), Int.emod_lt_of_pos _ (by decide)⟩
    · rintro σ H' ⟨rfl, f, v, rfl, f0, f1⟩
      intro p hp
      have ap : ∀ o, SqL K (upd H p o) a (ns.map V.int) := fun o => by
        rcases S with (s | ⟨u, s⟩) | s
        · exact .inl (.inl (by rw [upd_ne (ne_of_none s hp)]; exact s))
        · exact .inl (.inr ⟨u, by rw [upd_ne (ne_of_none s hp)]; exact s⟩)
        · exact .inr s
      refine ⟨_, rfl, a, _, rfl, .inl (ap _), fun l hl' => ?_⟩
      have npl : p ≠ l := fun z => by
        rw [← z, upd_same] at hl'
        cases hl'
      have nl : H l = none := by
        rw [upd_ne npl.symm] at hl'
        exact hl'
      refine ⟨_, rfl, ⟨by rw [upd_ne npl, upd_same], [(.inr "cells", .ref l), (.inr "at", .int 0), (.inr "digits", .int 0), (.inr "count", .int 0), (.inr "fold", .int f)], rfl, (by show 5 ≤ 15; decide), ?_⟩⟩
      have e : mergeK [] [((.inr "cells" : Key), V.ref l), (.inr "at", .int 0), (.inr "digits", .int 0), (.inr "count", .int 0), (.inr "fold", .int f)] = penD l 0 0 0 f := by kernel_rfl
      rw [e]
      refine k p l _ ⟨ns, 0, 0, f, upd_same, by rw [upd_ne npl.symm, upd_same], hl, by decide, by decide, by decide, f0, by omega⟩ hp nl fun b o z => ?_
      rw [upd_ne (ne_of_none z hp), upd_ne (ne_of_none z nl), upd_ne (ne_of_none z hp)]
      exact z
theorem scPick : FnScope ["_law_pen_here", "_law_some"] ["_law_pen_here", "_law_some"] (defScope sPick) := ⟨rfl, rfl, rfl, by decide +kernel, rfl, by decide +kernel, by decide +kernel⟩
theorem kn_pick (D : DefIs K mg "_law_pick" sPick) (T : PTxt K mg) (B : Kn P w K mg base "_law_draw" 1 ["_law_pen_here", "_law_many"] spDraw) : Kn P w K mg base "_law_pick" 2 ["_law_pen_here", "_law_some"] (spPick K) := by
  refine .of D (fun _ _ _ _ _ _ us hl => match us, hl with | [_, _], _ => rfl) fun _ _ F => ?_
  refine F.ok scPick (fun vs H Q E h => ?_) (fun cdv A outer s H vs Q E hr h => ?_)
  · obtain ⟨p, l, a, c, xs, rfl, _⟩ := h
    rfl
  · obtain ⟨p, l, a, c, xs, rfl, PA', S, l0, l1, c1, k⟩ := h
    refine ⟨_, pss_one (ps_ret (pe_ix ix_list (pv 1) (pe_kn B hr (pa_cons (pv 0) (pa_cons (pe_callB call_len_seq (by rfl) T.len PySem.boot_len (pa_cons (pv 1) pa_nil)) pa_nil))) (fun _ _ => rfl))), ?_⟩
    refine ⟨_, rfl, _, rfl, _, rfl, a, _, rfl, .inl S, p, l, c, _, rfl, PA', by omega, by omega, c1, fun r H' r0 r1 P1 K1 => ?_⟩
    obtain ⟨n, rfl⟩ : ∃ n : Nat, r = (n : Int) := ⟨r.toNat, (Int.toNat_of_nonneg r0).symm⟩
    have hn : n < xs.length := by omega
    obtain ⟨ns, a', d', f', I0⟩ := PA'
    exact ⟨a, xs, _, xs[n], rfl, rfl, SqL.keep K1 I0.obj S, atI_nat (by simp [hn]), k _ _ (List.getElem_mem hn) P1 K1⟩
theorem PenAt.new {H : Hp} {p k l : Addr} {c : Int} {o : HO} (h : PenAt H p k c) (n : H l = none) : PenAt (upd H l o) p k c := by
  obtain ⟨ns, a, d, f, I⟩ := h
  exact ⟨ns, a, d, f, by rw [upd_ne (ne_of_none I.obj n)]; exact I.obj, by rw [upd_ne (ne_of_none I.cel n)]; exact I.cel, I.len, I.a0, I.d0, I.c0, I.f0, I.f1⟩
end
end GG


namespace GG
open PySem PySem.Spec PyProof.Rows L2
/-! ### data in the heap, by their shape -/
mutual
inductive Da (H : Hp) : V → PyData → Prop
  | non : Da H .non .none
  | bl (b : Bool) : Da H (.bl b) (.bool b)
  | int (i : Int) : Da H (.int i) (.int i)
  | str (x : Str) : Da H (.str x) (.str x)
  | lst {a : Addr} {xs : List V} {ds : List PyData} : H a = some (.lst xs) → True → DaAll H xs ds → Da H (.ref a) (.list ds)
  | tup {a : Addr} {xs : List V} {ds : List PyData} : H a = some (.tup xs) → DaAll H xs ds → Da H (.ref a) (.tuple ds)
  | dic {a : Addr} {k : Str} {v : V} {d : PyData} : H a = some (.dK [(.inr k, v)]) → Da H v d → Da H (.ref a) (.dict [(.str k, d)])
inductive DaAll (H : Hp) : List V → List PyData → Prop
  | nil : DaAll H [] []
  | cons {v : V} {vs : List V} {d : PyData} {ds : List PyData} : Da H v d → DaAll H vs ds → DaAll H (v :: vs) (d :: ds)
end
/-! no list in it, and no dict -/
mutual
def noL : PyData → Bool
  | .none => true
  | .bool _ => true
  | .int _ => true
  | .str _ => true
  | .list _ => false
  | .tuple ds => noLs ds
  | .dict _ => false
def noLs : List PyData → Bool
  | [] => true
  | d :: ds => noL d && noLs ds
end
mutual
theorem Da.dt {X : Cx} {H : Hp} : ∀ {v : V} {d : PyData}, Da H v d → noL d = true → Dt X H v d
  | _, _, .non, _ => .non
  | _, _, .bl b, _ => .bl b
  | _, _, .int i, _ => .int i
  | _, _, .str x, _ => .str x
  | _, _, .lst _ _ _, h => by simp [noL] at h
  | _, _, .tup e t, h => .tup e (t.dt (by simpa [noL] using h))
  | _, _, .dic _ _, h => by simp [noL] at h
theorem DaAll.dt {X : Cx} {H : Hp} : ∀ {vs : List V} {ds : List PyData}, DaAll H vs ds → noLs ds = true → DtAll X H vs ds
  | _, _, .nil, _ => .nil
  | _, _, .cons h t, q => by
    simp only [noLs, Bool.and_eq_true] at q
    exact .cons (h.dt q.1) (t.dt q.2)
end
/-- what is no pen stays -/
def Stay (H H' : Hp) : Prop := ∀ b o, H b = some o → (∀ l a d c f, o ≠ .dK (penD l a d c f)) → H' b = some o
theorem Stay.refl {H : Hp} : Stay H H := fun _ _ e _ => e
theorem Stay.trans {H H1 H2 : Hp} (a : Stay H H1) (b : Stay H1 H2) : Stay H H2 := fun c o e n => b c o (a c o e n) n
theorem Same.stay {H H' : Hp} (k : Same H H') : Stay H H' := fun b o e _ => k b o e
theorem Keep.stay {p l0 : Addr} {c : Int} {H H' : Hp} (k : Keep p H H') (P : PenAt H p l0 c) : Stay H H' := fun b o e n => k b o (fun z => by
  obtain ⟨ns, a, d, f, I⟩ := P
  rw [z, I.obj] at e
  exact n _ _ _ _ _ (Option.some.inj e).symm) e
theorem Stay.new {H H1 : Hp} {q : Addr} {o : HO} (a : Stay H H1) (n : H1 q = none) : Stay H (upd H1 q o) := fun c u e ne => by
  have z := a c u e ne
  rw [upd_ne (ne_of_none z n)]
  exact z
mutual
theorem Da.stay {H H' : Hp} (k : Stay H H') : ∀ {v : V} {d : PyData}, Da H v d → Da H' v d
  | _, _, .non => .non
  | _, _, .bl b => .bl b
  | _, _, .int i => .int i
  | _, _, .str x => .str x
  | _, _, .lst e n t => .lst (k _ _ e (fun _ _ _ _ _ z => by cases z)) n (t.stay k)
  | _, _, .tup e t => .tup (k _ _ e (fun _ _ _ _ _ z => by cases z)) (t.stay k)
  | _, _, .dic e t => .dic (k _ _ e (fun _ _ _ _ _ z => by
      have z1 := HO.dK.inj z
      have z2 := congrArg List.length z1
      simp [penD] at z2)) (t.stay k)
theorem DaAll.stay {H H' : Hp} (k : Stay H H') : ∀ {vs : List V} {ds : List PyData}, DaAll H vs ds → DaAll H' vs ds
  | _, _, .nil => .nil
  | _, _, .cons h t => .cons (h.stay k) (t.stay k)
end
/-- a list display whose address is known not to be that of sys.modules -/
def tLstM (t : TA) : TE := fun σ H Q => t σ H fun xs H1 => xs.length ≤ sizeLine ∧ ∀ p, H1 p = none → p ≠ sysModules → Q (.ref p) (upd H1 p (.lst xs))
theorem pe_lstM {X : Cx} {es : List Expr} {t : TA} {pos : Pos} (h : PA X es t) : PE X (.List es pos) (tLstM t) := by
  refine ⟨fun pins s σ H Q I hq => ?_⟩
  refine wpAny_List_spliced (thn (h.run pos pins s σ H _ I hq) fun us s1 got => ?_)
  obtain ⟨xs, H1, I1, rel, small, q⟩ := got
  have fresh : H1 s1.heap.objs.size = none := I1.hok.fresh (Nat.le_refl _)
  refine ⟨by rw [← rel.length]; exact small, .ref s1.heap.objs.size, upd H1 s1.heap.objs.size (.lst xs), I1.laid (t' := s1.toks) (fun b u e => Heap.get?_push_of_some _ e) (Nat.le_refl _) ⟨small, us, 0, rel, Heap.get?_push_size _ rfl⟩, rfl, q _ fresh (Nat.ne_of_gt I1.big)⟩
/-- xs[lo:hi], likewise -/
def rSlM (K : PySem.W.Frag) : V → Option Int → Option Int → Hp → VK → Prop := fun x lo hi H Q => ∃ a xs, x = .ref a ∧ SqL K H a xs ∧ ∀ p, H p = none → p ≠ sysModules → Q (.ref p) (upd H p (.lst (cutV xs lo hi)))
theorem sl_listM {X : Cx} : SlR X (rSlM X.K) := by
  intro pins s σ H x v vl vu lo hi sl Q I rx hs pl pu h
  obtain ⟨a, xs, rfl, sq, q⟩ := h
  cases rx
  obtain ⟨its, r, ht, small⟩ := I.list sq
  have same := r.length
  refine ⟨"list", _, slot_list_getitem.lookup, ht.isList.typeIs, wpAny_getItem_list_slice ht.isList hs pl pu .none (by simp) ?_ (by rw [List.size_toArray] <;> omega)⟩
  rw [slicePick_cut, ← same]
  exact ⟨.ref s.heap.objs.size, _, I.laid (t' := s.toks) (o := .lst (cutV xs lo hi)) (fun b ob q => Heap.get?_push_of_some _ q) (Nat.le_refl _) ⟨Nat.le_trans (cutV_length xs lo hi) small, _, 0, (r.drop (HT.sIx xs.length 0 lo)).take (HT.sIx xs.length xs.length hi - HT.sIx xs.length 0 lo), Heap.get?_push_size _ rfl⟩, rfl, q _ (I.hok.fresh (Nat.le_refl _)) (Nat.ne_of_gt I.big)⟩
/-- for i, x in enumerate(a list) -/
theorem for_enumL {K : PySem.W.Frag} {a : Addr} {xs : List V} {g : TG} {tb : TS} {D : Ends} {σ : L2.St} {H : Hp} (Pv : Nat → L2.St → Hp → Prop) (h0 : Pv 0 σ H) (hq : ∀ i σ H, Pv i σ H → SqL K H a xs)
    (hs : ∀ (i : Nat) (x : V) (T : Addr) (σ : L2.St) (H : Hp), xs[i]? = some x → Pv i σ H → H T = none → g (.ref T) σ (upd H T (.tup [.int (i : Nat), x])) fun σ2 H2 => tb { D with nx := Pv (i + 1), ct := Pv (i + 1), bk := D.nx } σ2 H2) (hd : ∀ σ H, Pv xs.length σ H → D.nx σ H) :
    ∃ W : Nat → Nat → L2.St → Hp → Prop, (∃ m, W 0 m σ H) ∧ ∀ i m σ H, W i m σ H →
      ((Ite K a).stop i H ∧ D.nx σ H) ∨ ((Ite K a).go i H ∧ ∃ N : L2.St → Hp → Prop, (∀ σ' H', N σ' H' → ∃ m', m' < m ∧ W (i + 1) m' σ' H') ∧ ∀ v H', (Ite K a).yld i H v H' → g v σ H' fun σ2 H2 => tb { D with nx := N, ct := N, bk := D.nx } σ2 H2) := by
  refine ⟨fun i m σ H => m = xs.length - i ∧ i ≤ xs.length ∧ Pv i σ H, ⟨_, rfl, Nat.zero_le _, h0⟩, ?_⟩
  rintro i m σ H ⟨rfl, le, now⟩
  have sq := hq i σ H now
  by_cases lt : i < xs.length
  · refine .inr ⟨⟨xs, xs[i], sq, List.getElem?_eq_getElem lt⟩, Pv (i + 1), fun σ' H' z => ⟨xs.length - (i + 1), by omega, rfl, lt, z⟩, ?_⟩
    rintro v H' ⟨T, x, rfl, free, rfl, all⟩
    exact hs i x T σ H (all xs sq) now free
  · obtain rfl : i = xs.length := by omega
    exact .inl ⟨⟨xs, sq, Nat.le_refl _⟩, hd σ H now⟩
end GG


namespace GG
open PySem PySem.Spec PyProof.Rows L2
/-! ### what a ratio is, by its datum -/
def isW : PyData → Bool
  | .int _ => true
  | _ => false
def isB : PyData → Bool
  | .bool _ => true
  | _ => false
def lw (t b : Int) : Int × Int := (t / ((Nat.gcd t.natAbs b.natAbs : Nat) : Int), b / ((Nat.gcd t.natAbs b.natAbs : Nat) : Int))
def isR : PyData → Bool
  | .int _ => true
  | .tuple [.int _, .int b] => decide (0 < b)
  | .list [.int _, .int b] => decide (0 < b)
  | _ => false
def ratOf : PyData → Int × Int
  | .int i => (i, 1)
  | .tuple [.int a, .int b] => lw a b
  | .list [.int a, .int b] => lw a b
  | _ => (0, 1)
def smallR : PyData → Prop
  | .int i => i.natAbs < 2 ^ 120
  | .tuple [.int a, .int b] => a.natAbs < 2 ^ 120 ∧ b.natAbs < 2 ^ 120
  | .list [.int a, .int b] => a.natAbs < 2 ^ 120 ∧ b.natAbs < 2 ^ 120
  | _ => True
def tyD : PyData → String
  | .none => "NoneType"
  | .bool _ => "bool"
  | .int _ => "int"
  | .str _ => "str"
  | .list _ => "list"
  | .tuple _ => "tuple"
  | .dict _ => "dict"
def isSeq : PyData → Bool
  | .list _ => true
  | .tuple _ => true
  | _ => false
theorem Da.ty {K : PySem.W.Frag} {H : Hp} {v : V} {d : PyData} (h : Da H v d) : TyX K H v (.type (tyD d)) := by
  cases h with
  | non => exact .base .non
  | bl b => exact .base (.bl b)
  | int i => exact .base (.int i)
  | str x => exact .base (.str x)
  | lst e _ _ => exact .base (.lst e)
  | tup e _ => exact .base (.tup e)
  | dic e _ => exact .base (.dK e)
theorem kit_int {K : PySem.W.Frag} (d : PyData) : PySem.W.kitOne K (.type (tyD d)) (.type "int") = some (isW d || (isB d)) := by
  cases d <;> exact kit_ty (by kernel_rfl)
theorem kit_bool {K : PySem.W.Frag} (d : PyData) : PySem.W.kitOne K (.type (tyD d)) (.type "bool") = some (isB d) := by
  cases d <;> exact kit_ty (by kernel_rfl)
theorem kit_seq {K : PySem.W.Frag} (d : PyData) : PySem.W.kitAny K (.type (tyD d)) [.type "tuple", .type "list"] = some (isSeq d) := by
  cases d
  case list => exact kitAny_cons (b := false) (kit_ty (by kernel_rfl)) (fun _ => kitAny_cons (b := true) (kit_ty (by kernel_rfl)) (fun z => by cases z) (fun _ => rfl)) (fun z => by cases z)
  case tuple => exact kitAny_cons (b := true) (kit_ty (by kernel_rfl)) (fun z => by cases z) (fun _ => rfl)
  all_goals exact kitAny_cons (b := false) (kit_ty (by kernel_rfl)) (fun _ => kitAny_cons (b := false) (kit_ty (by kernel_rfl)) (fun _ => kitAny_nil) (fun z => by cases z)) (fun z => by cases z)
theorem ix_any {X : Cx} : IxR X (fun x y H Q => rIxL X.K x y H Q ∨ rIxT X.K x y H Q) := by
  intro value slice pins s σ H x y v u Q I rx ry h hs
  rcases h with h | h
  · exact ix_list value slice pins s σ H x y v u Q I rx ry h hs
  · exact ix_tup value slice pins s σ H x y v u Q I rx ry h hs
theorem bBool : bootBuiltins "bool" = some (.type "bool") := by decide +kernel
theorem bTuple : bootBuiltins "tuple" = some (.type "tuple") := by decide +kernel
structure RTxt (K : PySem.W.Frag) (mg : Str → Option Value) : Prop where
  int : mg "int" = none
  bool : mg "bool" = none
  tuple : mg "tuple" = none
  list : mg "list" = none
  len : mg "len" = none
  isi : mg "isinstance" = none
  gcd : mg "gcd" = some (.builtin "math.gcd")
theorem bIsi : bootBuiltins "isinstance" = some (.builtin "isinstance") := by decide +kernel
abbrev sWhole : Stmt := topS 7
abbrev sRatio : Stmt := topS 8
abbrev sLow : Stmt := topS 9
def spWhole : Sp := fun vs H Q _ => ∃ v d, vs = [v] ∧ Da H v d ∧ Q (.bl (isW d)) H
def spRatio : Sp := fun vs H Q _ => ∃ v d, vs = [v] ∧ Da H v d ∧ ∀ H', Same H H' → Q (.bl (isR d)) H'
def spLow : Sp := fun vs H Q _ => ∃ t b : Int, vs = [.int t, .int b] ∧ 0 < b ∧ b.natAbs < 2 ^ 250 ∧ ∀ p, H p = none → Q (.ref p) (upd H p (.tup [.int (lw t b).1, .int (lw t b).2]))
section
variable {P : Program} {w : World} {K : PySem.W.Frag} {mg : Str → Option Value} {base : Heap}
theorem scWhole : FnScope ["value"] ["value"] (defScope sWhole) := ⟨rfl, rfl, rfl, by decide +kernel, rfl, by decide +kernel, by decide +kernel⟩
theorem kn_whole (D : DefIs K mg "is_whole" sWhole) (T : RTxt K mg) : Kn P w K mg base "is_whole" 1 ["value"] spWhole := by
  refine .of D (fun _ _ _ _ _ _ us hl => match us, hl with | [_], _ => rfl) fun _ _ F => ?_
  refine F.ok scWhole (fun vs H Q E h => ?_) (fun cdv A outer s H vs Q E hr h => ?_)
  · obtain ⟨v, d, rfl, _⟩ := h
    rfl
  · obtain ⟨v, d, rfl, da, k⟩ := h
    refine ⟨_, pss_one (ps_ret (pe_and (pe_callB call_isi (by rfl) T.isi bIsi (pa_cons (pv 0) (pa_cons (pe_bltn (v := .ty "int") rfl T.int bInt rfl) pa_nil)))
      (pe_one (pe_not (pe_callB call_isi (by rfl) T.isi bIsi (pa_cons (pv 0) (pa_cons (pe_bltn (v := .ty "bool") rfl T.bool bBool rfl) pa_nil))))))), ?_⟩
    refine ⟨_, rfl, v, .ty "int", _, _, _, rfl, .ty _, da.ty, kit_int d, _, rfl, ?_⟩
    refine ite2 (fun z => ?_) (fun z => ?_)
    · refine ⟨_, rfl, v, .ty "bool", _, _, _, rfl, .ty _, da.ty, kit_bool d, _, rfl, ?_⟩
      have e : (!(isB d)) = isW d := by
        cases d <;> first | rfl | (simp [isW, isB] at z)
      rw [e]
      exact k
    · have e : isW d = false := by
        cases d <;> first | rfl | (simp [isW, isB] at z)
      rw [e] at k
      exact k
theorem scRatio : FnScope ["value"] ["value"] (defScope sRatio) := ⟨rfl, rfl, rfl, by decide +kernel, rfl, by decide +kernel, by decide +kernel⟩
theorem isR_long {xs : List PyData} (h : xs.length ≠ 2) : isR (.list xs) = false ∧ isR (.tuple xs) = false := by
  match xs, h with
  | [], _ => exact ⟨rfl, rfl⟩
  | [_], _ => exact ⟨by simp [isR], by simp [isR]⟩
  | [_, _], h => exact absurd rfl h
  | _ :: _ :: _ :: _, _ => exact ⟨by simp [isR], by simp [isR]⟩
theorem DaAll.length {H : Hp} : ∀ {vs : List V} {ds : List PyData}, DaAll H vs ds → vs.length = ds.length
  | _, _, .nil => rfl
  | _, _, .cons _ t => by rw [List.length_cons, List.length_cons, t.length]
/-- a list or a tuple with these items -/
theorem Da.seq {K : PySem.W.Frag} {H : Hp} {v : V} {d : PyData} (h : Da H v d) (s : isSeq d = true) : ∃ a xs ds, v = .ref a ∧ (SqL K H a xs ∨ SqT K H a xs) ∧ DaAll H xs ds ∧ (d = .list ds ∨ d = .tuple ds) ∧ xs.length = ds.length := by
  cases h with
  | lst e n t => exact ⟨_, _, _, rfl, .inl (.inl (.inl e)), t, .inl rfl, t.length⟩
  | tup e t => exact ⟨_, _, _, rfl, .inr (.inl (.inl e)), t, .inr rfl, t.length⟩
  | _ => cases s
theorem kn_ratio (D : DefIs K mg "is_ratio" sRatio) (T : RTxt K mg) (B : Kn P w K mg base "is_whole" 1 ["value"] spWhole) : Kn P w K mg base "is_ratio" 2 ["value"] spRatio := by
  refine .of D (fun _ _ _ _ _ _ us hl => match us, hl with | [_], _ => rfl) fun _ _ F => ?_
  refine F.ok scRatio (fun vs H Q E h => ?_) (fun cdv A outer s H vs Q E hr h => ?_)
  · obtain ⟨v, d, rfl, _⟩ := h
    rfl
  · obtain ⟨v, d, rfl, da, k⟩ := h
    refine ⟨_, pss_cons (ps_if (pt_val (pe_kn B hr (pa_cons (pv 0) pa_nil))) (pss_one (ps_ret pe_bl)) pss_nil)
      (pss_cons (ps_if (PW.pt (pw_or (pt_not (pt_val (pe_callB call_isiT (by rfl) T.isi bIsi (pa_cons (pv 0) (pa_cons (pe_tup (pa_cons (pe_bltn (v := .ty "tuple") rfl T.tuple bTuple rfl) (pa_cons (pe_bltn (v := .ty "list") rfl T.list bList rfl) pa_nil))) pa_nil)))))
          (pw_or1 (pt_cmpR op_ne (pe_callB call_len_seq (by rfl) T.len PySem.boot_len (pa_cons (pv 0) pa_nil)) pe_int (nomark _))))) (pss_one (ps_ret pe_bl)) pss_nil)
      (pss_one (ps_ret (pe_and (pe_kn B hr (pa_cons (pe_ix ix_any (pv 0) pe_int (fun _ _ => rfl)) pa_nil)) (pe_and (pe_kn B hr (pa_cons (pe_ix ix_any (pv 0) pe_int (fun _ _ => rfl)) pa_nil)) (pe_one (pe_cmpR op_gt (pe_ix ix_any (pv 0) pe_int (fun _ _ => rfl)) pe_int (nomark _)))))))), ?_⟩
    refine ⟨_, rfl, v, d, rfl, da, _, rfl, ?_⟩
    refine ite2 (fun z => ?_) (fun z => ?_)
    · have e : isR d = true := by cases d <;> first | rfl | (simp [isW] at z)
      rw [e] at k
      exact k H (L2.Same.refl H)
    refine ⟨_, rfl, (by show 2 ≤ sizeLine; rw [sizeLine_eq]; decide), fun p np => ?_⟩
    have S1 := GG.Stay.new (Stay.refl (H := H)) np (o := .tup [.ty "tuple", .ty "list"])
    have da1 := da.stay S1
    have Sa : Same H (upd H p (.tup [.ty "tuple", .ty "list"])) := fun b o e => by
      rw [upd_ne (ne_of_none e np)]
      exact e
    refine ⟨v, p, _, _, _, _, rfl, upd_same, .cons (.ty _) (.cons (.ty _) .nil), da1.ty, kit_seq d, _, rfl, ?_⟩
    generalize (upd H p (.tup [.ty "tuple", .ty "list"])) = H1 at S1 da1 Sa ⊢
    cases hs : isSeq d with
    | false =>
      refine iteT ?_
      have e : isR d = false := by
        cases d with
        | int i => exact absurd (show isW (.int i) = true from rfl) z
        | list xs => cases hs
        | tuple xs => cases hs
        | _ => rfl
      rw [e] at k
      exact k H1 Sa
    | true =>
      refine iteF ?_
      obtain ⟨a, xs, ds, rfl, sq, all, hd, hl⟩ := da1.seq (K := K) hs
      refine ⟨_, rfl, a, xs, rfl, sq, rfl, _, rfl, ?_⟩
      refine ite2 (fun z2 => ?_) (fun z2 => ?_)
      · have e : isR d = false := by
          have hn : ds.length ≠ 2 := fun q => by
            rw [hl, q] at z2
            simp at z2
          rcases hd with rfl | rfl
          · exact (isR_long hn).1
          · exact (isR_long hn).2
        rw [e] at k
        exact k H1 Sa
      · have h2 : ds.length = 2 := by
          have q : xs.length = 2 := by
            by_cases q : (xs.length : Int) = 2
            · omega
            · exfalso
              apply z2
              simp [q]
          omega
        obtain ⟨d0, d1, rfl⟩ : ∃ d0 d1, ds = [d0, d1] := by
          match ds, h2 with
          | [d0, d1], _ => exact ⟨_, _, rfl⟩
        cases all with
        | @cons x0 xs' _ _ a0 all' =>
          cases all' with
          | @cons x1 xs'' _ _ a1 all'' =>
            cases all''
            have ix : ∀ (n : Nat) (x : V), [x0, x1][n]? = some x → ∀ (Q' : V → Hp → Prop), Q' x H1 → (rIxL K (.ref a) (.int (n : Int)) H1 Q' ∨ rIxT K (.ref a) (.int (n : Int)) H1 Q') := fun n x hx Q' q => by
              rcases sq with sq | sq
              · exact .inl ⟨a, _, _, x, rfl, rfl, sq, atI_nat hx, q⟩
              · exact .inr ⟨a, _, _, x, rfl, rfl, sq, atI_nat hx, q⟩
            refine ⟨_, rfl, ix 0 x0 rfl _ ⟨x0, d0, rfl, a0, _, rfl, ?_⟩⟩
            cases h0 : isW d0 with
            | false =>
              refine iteF ?_
              have e : isR d = false := by rcases hd with rfl | rfl <;> (cases d0 <;> first | rfl | (simp [isW] at h0))
              rw [e] at k
              exact k H1 Sa
            | true =>
              refine iteT ?_
              refine ⟨_, rfl, ix 1 x1 rfl _ ⟨x1, d1, rfl, a1, _, rfl, ?_⟩⟩
              cases h1 : isW d1 with
              | false =>
                refine iteF ?_
                have e : isR d = false := by rcases hd with rfl | rfl <;> (cases d0 <;> first | rfl | (cases d1 <;> first | rfl | (simp [isW] at h1)))
                rw [e] at k
                exact k H1 Sa
              | true =>
                refine iteT ?_
                cases d0 with
                | int i0 =>
                  cases d1 with
                  | int i1 =>
                    cases a1
                    refine ⟨_, rfl, ix 1 (.int i1) rfl _ ⟨_, _, rfl, rfl, ?_⟩⟩
                    have e : isR d = decide (0 < i1) := by rcases hd with rfl | rfl <;> rfl
                    rw [e] at k
                    exact k H1 Sa
                  | _ => cases h1
                | _ => cases h0
theorem scLow : FnScope ["top", "bottom", "shared"] ["top", "bottom"] (defScope sLow) := ⟨rfl, rfl, rfl, by decide +kernel, rfl, by decide +kernel, by decide +kernel⟩
theorem kn_low (D : DefIs K mg "lowest" sLow) (T : RTxt K mg) : Kn P w K mg base "lowest" 1 ["top", "bottom"] spLow := by
  refine .of D (fun _ _ _ _ _ _ us hl => match us, hl with | [_, _], _ => rfl) fun _ _ F => ?_
  refine F.ok scLow (fun vs H Q E h => ?_) (fun cdv A outer s H vs Q E hr h => ?_)
  · obtain ⟨t, b, rfl, _⟩ := h
    rfl
  · obtain ⟨t, b, rfl, b0, b1, k⟩ := h
    refine ⟨_, pss_cons (ps_set (i := 2) scLow.nd rfl (.inl rfl) (pe_callBfun cr_gcd (by rfl) T.gcd (pa_cons (pv 0) (pa_cons (pv 1) pa_nil))))
      (pss_one (ps_ret (pe_tup (pa_cons (pe_op op_fdivW (pv 0) (pv 2)) (pa_cons (pe_op op_fdivW (pv 1) (pv 2)) pa_nil))))), ?_⟩
    have g0 : 0 < Nat.gcd t.natAbs b.natAbs := Nat.gcd_pos_of_pos_right _ (by omega)
    have g1 : Nat.gcd t.natAbs b.natAbs ≤ b.natAbs := Nat.le_of_dvd (by omega) (Nat.gcd_dvd_right _ _)
    have dv : CDivW t ((Nat.gcd t.natAbs b.natAbs : Nat) : Int) := wide_div (b := 250) (by omega) (by rw [Int.natAbs_natCast]; exact Nat.lt_of_le_of_lt g1 b1) (by decide) (by decide)
    have dv2 : CDivW b ((Nat.gcd t.natAbs b.natAbs : Nat) : Int) := wide_div (b := 250) (by omega) (by rw [Int.natAbs_natCast]; exact Nat.lt_of_le_of_lt g1 b1) (by decide) (by decide)
    refine ⟨_, rfl, _, rfl, t, b, rfl, _, rfl, _, rfl, _, _, rfl, rfl, dv, _, rfl, _, rfl, _, _, rfl, rfl, dv2, (by show 2 ≤ sizeLine; rw [sizeLine_eq]; decide), fun p np => ?_⟩
    exact k p np
end
end GG


namespace GG
open PySem PySem.Spec PyProof.Rows L2
theorem Same.new {H H1 : Hp} {q : Addr} {o : HO} (a : Same H H1) (n : H1 q = none) : Same H (upd H1 q o) := fun c u e => by
  have z := a c u e
  rw [upd_ne (ne_of_none z n)]
  exact z
/-! ### defs that may raise -/
structure KnX (P : Program) (w : World) (K : PySem.W.Frag) (mg : Str → Option Value) (base : Heap) (x : Str) (k : Nat) (ps : List Str) (sp : Sp) : Prop where
  ex : ∃ f fd, mg x = some (.ref f) ∧ PySem.W.keepIn K (.ref f) = true ∧ Binds K fd ps [] ∧ FnOk P w K mg base (L2.CX P w) k f fd ps sp
theorem KnX.of {P : Program} {w : World} {K : PySem.W.Frag} {mg : Str → Option Value} {base : Heap} {x : Str} {st : Stmt} {k : Nat} {ps : List Str} {sp : Sp} (D : DefIs K mg x st)
    (hb : ∀ (kV doc pm : Value) (an : Option Addr) (cdv ct : Value) (us : List Value), us.length = ps.length → bindArgs (PySem.W.fnOf x x (defArgs st) (defBody st) (defScope st) .none kV doc pm an cdv ct) ⟨us, []⟩ = pure (ps.zip us))
    (ok : ∀ f fd, Fun K x x st f fd → FnOk P w K mg base (L2.CX P w) k f fd ps sp) : KnX P w K mg base x k ps sp := by
  obtain ⟨f, fd, F, m⟩ := D.ex
  exact ⟨f, fd, m, F.kp, F.binds hb, ok f fd F⟩
theorem pe_knX {X : Cx} {W : WX} {E : XK} {x : Str} {k : Nat} {ps : List Str} {sp : Sp} {e : Expr} {es : List Expr} {t : TA} {p pos : Pos} (F : KnX X.prog X.w X.K X.mg X.base x k ps sp) (hr : Room k X.A) (tk : Takes X W) (hW : ∀ cls d σ H, E cls d H → W cls d σ H) (ha : PA X (e :: es) t) (hg : Gl X x := by rfl)
    (hdb : (x == ("__debug__" : Str)) = false := by decide) (he : starEach (e :: es) X.env = (false, eval e X.env) :: starEach es X.env := by rfl) (hpl : (backTo pos (starEach es X.env)).any (·.1) = false := by rfl) :
    PE X (.Call (.Name x p) (e :: es) [] pos) (tCall sp [] E t) := by
  obtain ⟨f, fd, hm, hk, hb, G⟩ := F.ex
  exact pe_call G hr hg hm hk hb .nil (passes_call tk hW) ha hdb he hpl
abbrev sBN : Stmt := inClass (topS 3) 0
abbrev sTold : Stmt := topS 10
/-- BadNumber's __init__ -/
def spBN (C : Addr) : Sp := fun vs H Q _ => ∃ (a : Addr) (y1 y2 : V), vs = [.ref a, y1, y2] ∧ H a = some (exo a C none) ∧ ∀ (dx : Addr) (H' : Hp), H dx = none → dx ≠ a → H' a = some (exo a C (some dx)) → H' dx = some (exd dx [("number", y2), ("what", y1)]) → Keep a H H' → Q .non H'
structure BNTxt (P : Program) (w : World) (K : PySem.W.Frag) (mg : Str → Option Value) (base : Heap) (C : Addr) : Prop where
  m : mg "BadNumber" = some (.ref C)
  t : ExT K C
  ini : ∃ fI fd, PySem.W.findIn K (.ref C) "__init__" = some (some (.ref fI)) ∧ PySem.W.typeIn K (.ref fI) = some (.type "function") ∧ Binds K fd ["self", "what", "number"] [] ∧ FnOk P w K mg base CX0 1 fI fd ["self", "what", "number"] (spBN C)
section
variable {P : Program} {w : World} {K : PySem.W.Frag} {mg : Str → Option Value} {base : Heap}
theorem scBN : FnScope ["self", "what", "number"] ["self", "what", "number"] (defScope sBN) := ⟨rfl, rfl, rfl, by decide +kernel, rfl, by decide +kernel, by decide +kernel⟩
theorem bn_of {C fI : Addr} {fd : FuncData} (m : mg "BadNumber" = some (.ref C)) (t : ExT K C) (n1 : PySem.W.findIn K (.ref C) "what" = some none) (n2 : PySem.W.findIn K (.ref C) "number" = some none)
    (i : PySem.W.findIn K (.ref C) "__init__" = some (some (.ref fI))) (ti : PySem.W.typeIn K (.ref fI) = some (.type "function")) (U : Fun K "__init__" "BadNumber.__init__" sBN fI fd) : BNTxt P w K mg base C := by
  refine ⟨m, t, fI, fd, i, ti, U.binds fun _ _ _ _ _ _ us hl => match us, hl with | [_, _, _], _ => rfl, ?_⟩
  refine U.ok scBN (fun vs H Q E h => ?_) (fun cdv A outer s H vs Q E hr h => ?_)
  · obtain ⟨a, y1, y2, rfl, _⟩ := h
    rfl
  · obtain ⟨a, y1, y2, rfl, he, k⟩ := h
    refine ⟨_, pss_cons (ps_ost (pv 0) (pv 1)) (pss_one (ps_ost (pv 0) (pv 2))), ?_⟩
    refine ⟨_, rfl, _, rfl, a, C, rfl, t.ox, n1, .inl ⟨he, fun dx hdx ne => ?_⟩⟩
    refine ⟨_, rfl, _, rfl, a, C, rfl, t.ox, n2, .inr ⟨dx, [("what", y1)], upd_same, by rw [upd_ne ne, upd_same], (by show 1 ≤ 900; decide), ?_⟩⟩
    refine k dx _ hdx ne (by rw [upd_ne ne.symm, upd_same]) upd_same fun b o nb e => ?_
    rw [upd_ne (ne_of_none e hdx), upd_ne nb, upd_ne (ne_of_none e hdx)]
    exact e
/-- raise BadNumber(a, b): what is left behind the arguments -/
theorem raiseBN {C : Addr} {y1 y2 : V} {H1 : Hp} {R : Value → Option Addr → Hp → Prop} (k : ∀ (d : Addr) (H' : Hp), H' d = some (.xd [("number", y2), ("what", y1)]) → Same H1 H' → R (.ref C) (some d) H') :
    [y1, y2].length ≤ 1000 ∧ ∀ a, H1 a = none → spBN C (.ref a :: ([y1, y2] ++ [])) (upd H1 a (exo a C none))
      (fun v H2 => v = .non ∧ ∃ (d : Addr) (fs : List (Str × V)), H2 a = some (exo a C (some d)) ∧ H2 d = some (exd d fs) ∧ H1 d = none ∧ R (.ref C) (some d) (upd (del H2 a) d (.xd fs))) (fun _ _ _ => False) := by
  refine ⟨(by show 2 ≤ 1000; decide), fun a na => ⟨a, y1, y2, rfl, upd_same, fun dx H2 hdx ne e1 e2 kp => ⟨rfl, dx, _, e1, e2, ?_, ?_⟩⟩⟩
  · rw [upd_ne ne] at hdx
    exact hdx
  · refine k dx _ upd_same fun b o z => ?_
    have nd : H1 dx = none := by
      rw [upd_ne ne] at hdx
      exact hdx
    rw [upd_ne (ne_of_none z nd), del_ne (ne_of_none z na)]
    exact kp b o (ne_of_none z na) (by rw [upd_ne (ne_of_none z na)]; exact z)
theorem ps_raiseBN {X : Cx} {C : Addr} {W : WX} {e1 e2 : Expr} {ta : TA} {p pos pos2 : Pos} (hc : X.calm = true) (T : BNTxt X.prog X.w X.K X.mg X.base C) (hr : Room 2 X.A) (tk : Takes X W) (ha : PA X [e1, e2] ta) (hg : Gl X "BadNumber" := by rfl)
    (he : starEach (e1 :: [e2]) X.env = (false, eval e1 X.env) :: starEach [e2] X.env := by rfl) (hpl : (backTo pos (starEach [e2] X.env)).any (·.1) = false := by rfl) :
    PS X (.Raise (some (.Call (.Name "BadNumber" p) [e1, e2] [] pos)) none pos2) (fun _ σ H => tMkO C (spBN C) [] ta σ H fun cls d H' => W cls d σ H') := by
  obtain ⟨fI, fd, i, ti, hb, G⟩ := T.ini
  exact ps_raise hc tk (pmk_oex (CX := CX0) T.t.ox i ti G hr hb .nil (fun _ _ _ _ _ _ _ z => z.elim) hg T.m ha (by decide) he hpl)
def spTold (C : Addr) : Sp := fun vs H Q E => ∃ v wv d, vs = [v, wv] ∧ Da H v d ∧ smallR d ∧ (isR d = true → ∀ p H', H' p = some (.tup [.int (ratOf d).1, .int (ratOf d).2]) → Same H H' → Q (.ref p) H') ∧
  (isR d = false → ∀ dd H', H' dd = some (.xd [("number", v), ("what", wv)]) → Same H H' → E (.ref C) (some dd) H')
theorem scTold : FnScope ["value", "what"] ["value", "what"] (defScope sTold) := ⟨rfl, rfl, rfl, by decide +kernel, rfl, by decide +kernel, by decide +kernel⟩
/-- a datum that is a ratio -/
theorem isR_cases {d : PyData} (h : isR d = true) : (∃ i, d = .int i) ∨ ∃ i b, (d = .tuple [.int i, .int b] ∨ d = .list [.int i, .int b]) ∧ 0 < b := by
  unfold isR at h
  split at h
  · exact .inl ⟨_, rfl⟩
  · exact .inr ⟨_, _, .inl rfl, of_decide_eq_true h⟩
  · exact .inr ⟨_, _, .inr rfl, of_decide_eq_true h⟩
  · cases h
theorem kn_told {C : Addr} (D : DefIs K mg "told" sTold) (T : RTxt K mg) (N : BNTxt P w K mg base C) (B : Kn P w K mg base "is_ratio" 2 ["value"] spRatio) (L : Kn P w K mg base "lowest" 1 ["top", "bottom"] spLow) : KnX P w K mg base "told" 3 ["value", "what"] (spTold C) := by
  refine .of D (fun _ _ _ _ _ _ us hl => match us, hl with | [_, _], _ => rfl) fun _ _ F => ?_
  refine F.okX scTold (fun vs H Q E h => ?_) (fun cdv A outer s H vs Q E hr h => ?_)
  · obtain ⟨v, wv, d, rfl, _⟩ := h
    rfl
  · obtain ⟨v, wv, d, rfl, da, sm, kQ, kE⟩ := h
    have hr1 : Room 1 _ := hr.mono (by decide)
    refine ⟨_, pss_cons (ps_if (pt_not (pt_val (pe_kn B hr (pa_cons (pv 0) pa_nil)))) (pss_one (ps_raiseBN rfl N hr (takes_of rfl rfl rfl rfl) (pa_cons (pv 1) (pa_cons (pv 0) pa_nil)))) pss_nil)
      (pss_cons (ps_if (pt_val (pe_callB call_isi (by rfl) T.isi bIsi (pa_cons (pv 0) (pa_cons (pe_bltn (v := .ty "int") rfl T.int bInt rfl) pa_nil)))) (pss_one (ps_ret (pe_tup (pa_cons (pv 0) (pa_cons pe_int pa_nil))))) pss_nil)
      (pss_one (ps_ret (pe_kn L hr1 (pa_cons (pe_ix ix_any (pv 0) pe_int (fun _ _ => rfl)) (pa_cons (pe_ix ix_any (pv 0) pe_int (fun _ _ => rfl)) pa_nil)))))), ?_⟩
    refine ⟨_, rfl, v, d, rfl, da, fun H1 S1 => ⟨_, rfl, ?_⟩⟩
    have da1 := da.stay (Same.stay S1)
    cases hR : isR d with
    | false =>
      refine iteT ?_
      exact ⟨_, rfl, _, rfl, raiseBN fun dd H' e S' => kE hR dd H' e (L2.Same.trans S1 S')⟩
    | true =>
      refine iteF ?_
      refine ⟨_, rfl, v, .ty "int", _, _, _, rfl, .ty _, da1.ty, kit_int d, _, rfl, ?_⟩
      rcases isR_cases hR with ⟨i, rfl⟩ | ⟨i, b, hd, b0⟩
      · refine iteT ?_
        cases da1
        refine ⟨_, rfl, (by show 2 ≤ sizeLine; rw [sizeLine_eq]; decide), fun p np => ?_⟩
        exact kQ hR p _ upd_same (GG.Same.new S1 np)
      · have e1 : (isW d || isB d) = false := by rcases hd with rfl | rfl <;> rfl
        have e2 : isSeq d = true := by rcases hd with rfl | rfl <;> rfl
        rw [e1]
        refine iteF ?_
        obtain ⟨a, xs, ds, rfl, sq, all, hd2, hl⟩ := da1.seq (K := K) e2
        have e3 : ds = [.int i, .int b] := by
          rcases hd with rfl | rfl <;> rcases hd2 with z | z <;> cases z <;> rfl
        have e4 : ratOf d = lw i b := by rcases hd with rfl | rfl <;> rfl
        have sb : b.natAbs < 2 ^ 120 := by rcases hd with rfl | rfl <;> exact sm.2
        rw [e4] at kQ
        subst e3
        cases all with
        | @cons x0 xs' _ _ a0 all' =>
          cases all' with
          | @cons x1 xs'' _ _ a1 all'' =>
            cases all''
            cases a0
            cases a1
            have ix : ∀ (n : Nat) (x : V), [V.int i, V.int b][n]? = some x → ∀ (Q' : V → Hp → Prop), Q' x H1 → (rIxL K (.ref a) (.int (n : Int)) H1 Q' ∨ rIxT K (.ref a) (.int (n : Int)) H1 Q') := fun n x hx Q' q => by
              rcases sq with sq | sq
              · exact .inl ⟨a, _, _, x, rfl, rfl, sq, atI_nat hx, q⟩
              · exact .inr ⟨a, _, _, x, rfl, rfl, sq, atI_nat hx, q⟩
            refine ⟨_, rfl, ix 0 _ rfl _ ⟨_, rfl, ix 1 _ rfl _ ⟨i, b, rfl, b0, Nat.lt_of_lt_of_le sb (Nat.pow_le_pow_right (by decide) (by decide)), fun p np => ?_⟩⟩⟩
            exact kQ hR p _ upd_same (GG.Same.new S1 np)
end
end GG


namespace GG
open PySem PySem.Spec PyProof.Rows L2
/-! ### sums, differences, products, less -/
theorem lw_exact (t b : Int) : (lw t b).1 * ((Nat.gcd t.natAbs b.natAbs : Nat) : Int) = t ∧ (lw t b).2 * ((Nat.gcd t.natAbs b.natAbs : Nat) : Int) = b :=
  ⟨Int.ediv_mul_cancel (Int.ofNat_dvd_left.mpr (Nat.gcd_dvd_left _ _)), Int.ediv_mul_cancel (Int.ofNat_dvd_left.mpr (Nat.gcd_dvd_right _ _))⟩
theorem lw_small {t b : Int} (h : 0 < b) : (lw t b).1.natAbs ≤ t.natAbs ∧ (lw t b).2.natAbs ≤ b.natAbs ∧ 0 < (lw t b).2 := by
  have g0 : 0 < Nat.gcd t.natAbs b.natAbs := Nat.gcd_pos_of_pos_right _ (by omega)
  obtain ⟨e1, e2⟩ := lw_exact t b
  refine ⟨?_, ?_, ?_⟩
  · have z := congrArg Int.natAbs e1
    rw [Int.natAbs_mul, Int.natAbs_natCast] at z
    rw [← z]
    exact Nat.le_mul_of_pos_right _ g0
  · have z := congrArg Int.natAbs e2
    rw [Int.natAbs_mul, Int.natAbs_natCast] at z
    rw [← z]
    exact Nat.le_mul_of_pos_right _ g0
  · by_cases p : 0 < (lw t b).2
    · exact p
    · exfalso
      have : (lw t b).2 * ((Nat.gcd t.natAbs b.natAbs : Nat) : Int) ≤ 0 := Int.mul_nonpos_of_nonpos_of_nonneg (by omega) (by omega)
      omega
theorem ratOf_small {d : PyData} (h : isR d = true) (s : smallR d) : (ratOf d).1.natAbs < 2 ^ 120 ∧ (ratOf d).2.natAbs < 2 ^ 120 ∧ 0 < (ratOf d).2 := by
  rcases isR_cases h with ⟨i, rfl⟩ | ⟨i, b, rfl | rfl, b0⟩
  · exact ⟨s, (by decide +kernel : (1 : Nat) < 2 ^ 120), (by decide : (0 : Int) < 1)⟩
  · obtain ⟨x, y, z⟩ := lw_small (t := i) b0
    exact ⟨Nat.lt_of_le_of_lt x s.1, Nat.lt_of_le_of_lt y s.2, z⟩
  · obtain ⟨x, y, z⟩ := lw_small (t := i) b0
    exact ⟨Nat.lt_of_le_of_lt x s.1, Nat.lt_of_le_of_lt y s.2, z⟩
/-- an operation on two ratios; ok: what it leaves -/
def spBin (C : Addr) (ok : Int × Int → Int × Int → Hp → VK → Prop) : Sp := fun vs H Q E => ∃ v1 v2 d1 d2, vs = [v1, v2] ∧ Da H v1 d1 ∧ Da H v2 d2 ∧ smallR d1 ∧ smallR d2 ∧
  (isR d1 = true → isR d2 = true → ok (ratOf d1) (ratOf d2) H Q) ∧
  (isR d1 = false → ∀ dd H', H' dd = some (.xd [("number", v1), ("what", .str "ratio")]) → Same H H' → E (.ref C) (some dd) H') ∧
  (isR d1 = true → isR d2 = false → ∀ dd H', H' dd = some (.xd [("number", v2), ("what", .str "ratio")]) → Same H H' → E (.ref C) (some dd) H')
def okTup (f : Int × Int → Int × Int → Int × Int) : Int × Int → Int × Int → Hp → VK → Prop := fun a b H Q => ∀ p H', H' p = some (.tup [.int (f a b).1, .int (f a b).2]) → Same H H' → Q (.ref p) H'
def rPlus (a b : Int × Int) : Int × Int := lw (a.1 * b.2 + b.1 * a.2) (a.2 * b.2)
def rMinus (a b : Int × Int) : Int × Int := lw (a.1 * b.2 - b.1 * a.2) (a.2 * b.2)
def rTimes (a b : Int × Int) : Int × Int := lw (a.1 * b.1) (a.2 * b.2)
def rLess (a b : Int × Int) : Bool := decide (a.1 * b.2 < b.1 * a.2)
def okLess : Int × Int → Int × Int → Hp → VK → Prop := fun a b H Q => ∀ H', Same H H' → Q (.bl (rLess a b)) H'
theorem mulW {i j : Int} (a : i.natAbs < 2 ^ 120) (b : j.natAbs < 2 ^ 120) : CMulW i j := wide_mul a b (by decide) (by decide) (by decide)
section
variable {P : Program} {w : World} {K : PySem.W.Frag} {mg : Str → Option Value} {base : Heap}

end
end GG


namespace GG
open PySem PySem.Spec PyProof.Rows L2
/-! ### the law's own reckoning -/
theorem bAbs : bootBuiltins "abs" = some (.builtin "abs") := by decide +kernel
abbrev sGcd : Stmt := topS 32
abbrev sQ : Stmt := topS 33
abbrev sLLess : Stmt := topS 34
def spGcd : Sp := fun vs H Q _ => ∃ a b : Int, vs = [.int a, .int b] ∧ a.natAbs < 2 ^ 250 ∧ b.natAbs < 2 ^ 250 ∧ Q (.int ((Nat.gcd a.natAbs b.natAbs : Nat) : Int)) H
def spQ : Sp := fun vs H Q _ => ∃ t b : Int, vs = [.int t, .int b] ∧ 0 < b ∧ t.natAbs < 2 ^ 250 ∧ b.natAbs < 2 ^ 250 ∧ ∀ p, H p = none → Q (.ref p) (upd H p (.tup [.int (lw t b).1, .int (lw t b).2]))
def smallP (a : Int × Int) : Prop := a.1.natAbs < 2 ^ 120 ∧ a.2.natAbs < 2 ^ 120 ∧ 0 < a.2
def spLaw2 (ok : Int × Int → Int × Int → Hp → VK → Prop) : Sp := fun vs H Q _ => ∃ (p1 p2 : Addr) (a b : Int × Int), vs = [.ref p1, .ref p2] ∧ H p1 = some (.tup [.int a.1, .int a.2]) ∧ H p2 = some (.tup [.int b.1, .int b.2]) ∧ smallP a ∧ smallP b ∧ ok a b H Q
/-- one lap of Euclid halves the product -/
theorem lap_half {x y : Nat} (h : y < x) : 2 * (y * (x % y)) ≤ x * y := by
  by_cases y0 : y = 0
  · subst y0
    simp
  · have e := Nat.div_add_mod x y
    have q1 : 1 ≤ x / y := Nat.div_pos (Nat.le_of_lt h) (by omega)
    have m : x % y < y := Nat.mod_lt _ (by omega)
    have le : y ≤ y * (x / y) := Nat.le_mul_of_pos_right _ q1
    have two : 2 * (x % y) ≤ x := by omega
    calc 2 * (y * (x % y)) = y * (2 * (x % y)) := by rw [Nat.mul_left_comm]
      _ ≤ y * x := Nat.mul_le_mul_left _ two
      _ = x * y := Nat.mul_comm _ _
section
variable {P : Program} {w : World} {K : PySem.W.Frag} {mg : Str → Option Value} {base : Heap}
theorem scGcd : FnScope ["_law_one", "_law_two", "_law_lap"] ["_law_one", "_law_two"] (defScope sGcd) := ⟨rfl, rfl, rfl, by decide +kernel, rfl, by decide +kernel, by decide +kernel⟩
theorem abs_nat (i : Int) : (if i < 0 then -i else i) = ((i.natAbs : Nat) : Int) := by
  split <;> omega
theorem kn_gcd (D : DefIs K mg "_law_gcd" sGcd) (za : mg "abs" = none) (zr : mg "range" = none) (zi : mg "int" = none) : Kn P w K mg base "_law_gcd" 1 ["_law_one", "_law_two"] spGcd := by
  refine .of D (fun _ _ _ _ _ _ us hl => match us, hl with | [_, _], _ => rfl) fun _ _ F => ?_
  refine F.ok scGcd (fun vs H Q E h => ?_) (fun cdv A outer s H vs Q E hr h => ?_)
  · obtain ⟨a, b, rfl, _⟩ := h
    rfl
  · obtain ⟨a, b, rfl, sa, sb, k⟩ := h
    refine ⟨_, pss_cons (ps_par (i := 0) (j := 1) rfl scGcd.nd rfl rfl (by decide) rfl rfl (pa_cons (pe_callB call_abs (by rfl) za bAbs (pa_cons (pv 0) pa_nil)) (pa_cons (pe_callB call_abs (by rfl) za bAbs (pa_cons (pv 1) pa_nil)) pa_nil)) rfl)
      (pss_cons (ps_for PassesOwn.never rfl (pi_range1 rfl zr (pa_cons pe_int pa_nil)) (pg_name (i := 2) scGcd.nd rfl (.inl rfl))
        (pss_cons (ps_if (pt_cmpR op_eq (pv 1) pe_int (nomark _)) (pss_one ps_break) pss_nil)
        (pss_one (ps_par (i := 0) (j := 1) rfl scGcd.nd rfl rfl (by decide) rfl rfl (pa_cons (pv 1) (pa_cons (pe_op op_mod (pe_callTy call_int1 (by rfl) zi bInt (pa_cons (pv 0) pa_nil)) (pv 1)) pa_nil)) rfl))))
      (pss_one (ps_ret (pv 0)))), ?_⟩
    refine ⟨_, rfl, a, rfl, _, rfl, b, rfl, _, _, rfl, ?_⟩
    rw [abs_nat, abs_nat]
    have fin : ∀ (x y : Nat) (v : Option V) (H' : Hp), H = H' → Nat.gcd x y = Nat.gcd a.natAbs b.natAbs → y = 0 → ∃ u, [some (V.int (x : Int)), some (V.int (y : Int)), v][0]? = some (some u) ∧ Q u H' := fun x y v H' e g z => by
      subst e z
      rw [Nat.gcd_zero_right] at g
      rw [← g] at k
      exact ⟨_, rfl, k⟩
    refine ⟨2000, rfl, by decide, by decide, for_range (n := 2000) (fun i σ H' => H = H' ∧ ∃ (x y : Nat) (v : Option V), σ = [some (.int (x : Int)), some (.int (y : Int)), v] ∧ Nat.gcd x y = Nat.gcd a.natAbs b.natAbs ∧ (i = 0 → x = a.natAbs ∧ y = b.natAbs) ∧ (0 < i → y < x ∧ x * y * 2 ^ (i - 1) ≤ a.natAbs * b.natAbs))
      ⟨rfl, a.natAbs, b.natAbs, none, rfl, rfl, fun _ => ⟨rfl, rfl⟩, fun z => absurd z (Nat.lt_irrefl _)⟩ ?_ ?_⟩
    · rintro i σ H' hi ⟨eh, x, y, v, rfl, g, h0, h1⟩
      refine ⟨_, rfl, rfl, _, rfl, ?_⟩
      refine ite2 (fun e => ?_) (fun e => ?_)
      · have z : y = 0 := by
          have := V.int.inj (of_decide_eq_true e)
          omega
        exact fin x y _ H' eh g z
      · have y0 : y ≠ 0 := fun z => e (by rw [z]; rfl)
        refine ⟨_, rfl, _, rfl, .inl ⟨_, rfl, _, rfl, _, _, rfl, rfl, (by omega), _, _, rfl, ?_⟩⟩
        refine ⟨eh, y, x % y, _, rfl, ?_, fun z => absurd z (by omega), fun _ => ⟨Nat.mod_lt _ (by omega), ?_⟩⟩
        · rw [← g, Nat.gcd_comm x y, Nat.gcd_rec y x, Nat.gcd_comm]
        · by_cases i0 : i = 0
          · obtain ⟨rfl, rfl⟩ := h0 i0
            subst i0
            have := Nat.mod_le a.natAbs b.natAbs
            simp only [Nat.zero_add, Nat.sub_self, Nat.pow_zero, Nat.mul_one]
            rw [Nat.mul_comm]
            exact Nat.mul_le_mul_right _ this
          · obtain ⟨lt, le⟩ := h1 (by omega)
            have hf := lap_half lt
            have e2 : 2 ^ (i + 1 - 1) = 2 * 2 ^ (i - 1) := by
              obtain ⟨j, rfl⟩ : ∃ j, i = j + 1 := ⟨i - 1, by omega⟩
              simp only [Nat.add_sub_cancel]
              rw [Nat.pow_succ, Nat.mul_comm]
            rw [e2]
            calc y * (x % y) * (2 * 2 ^ (i - 1)) = (2 * (y * (x % y))) * 2 ^ (i - 1) := by
                  rw [← Nat.mul_assoc, Nat.mul_comm (y * (x % y)) 2]
              _ ≤ x * y * 2 ^ (i - 1) := Nat.mul_le_mul_right _ hf
              _ ≤ _ := le
    · rintro σ H' ⟨eh, x, y, v, rfl, g, _, h1⟩
      obtain ⟨lt, le⟩ := h1 (by decide)
      refine fin x y v H' eh g ?_
      by_cases z : y = 0
      · exact z
      · exfalso
        have p : 1 ≤ x * y := Nat.mul_pos (by omega) (by omega)
        have q1 : 2 ^ (2000 - 1) ≤ x * y * 2 ^ (2000 - 1) := Nat.le_mul_of_pos_left _ p
        have q2 : a.natAbs * b.natAbs < 2 ^ 250 * 2 ^ 250 := Nat.mul_lt_mul'' sa sb
        rw [← Nat.pow_add] at q2
        have q3 : 2 ^ (250 + 250) ≤ 2 ^ (2000 - 1) := Nat.pow_le_pow_right (by decide) (by decide)
        exact absurd (Nat.lt_of_le_of_lt (Nat.le_trans q1 le) (Nat.lt_of_lt_of_le q2 q3)) (Nat.lt_irrefl _)
theorem scQ : FnScope ["_law_top", "_law_bottom", "_law_by"] ["_law_top", "_law_bottom"] (defScope sQ) := ⟨rfl, rfl, rfl, by decide +kernel, rfl, by decide +kernel, by decide +kernel⟩
theorem kn_q (D : DefIs K mg "_law_q" sQ) (B : Kn P w K mg base "_law_gcd" 1 ["_law_one", "_law_two"] spGcd) : Kn P w K mg base "_law_q" 2 ["_law_top", "_law_bottom"] spQ := by
  refine .of D (fun _ _ _ _ _ _ us hl => match us, hl with | [_, _], _ => rfl) fun _ _ F => ?_
  refine F.ok scQ (fun vs H Q E h => ?_) (fun cdv A outer s H vs Q E hr h => ?_)
  · obtain ⟨t, b, rfl, _⟩ := h
    rfl
  · obtain ⟨t, b, rfl, b0, t1, b1, k⟩ := h
    refine ⟨_, pss_cons (ps_set (i := 2) scQ.nd rfl (.inl rfl) (pe_kn B hr (pa_cons (pv 0) (pa_cons (pv 1) pa_nil))))
      (pss_one (ps_ret (pe_tup (pa_cons (pe_op op_fdivW (pv 0) (pv 2)) (pa_cons (pe_op op_fdivW (pv 1) (pv 2)) pa_nil))))), ?_⟩
    have g0 : 0 < Nat.gcd t.natAbs b.natAbs := Nat.gcd_pos_of_pos_right _ (by omega)
    have g1 : Nat.gcd t.natAbs b.natAbs ≤ b.natAbs := Nat.le_of_dvd (by omega) (Nat.gcd_dvd_right _ _)
    have dv : ∀ z : Int, CDivW z ((Nat.gcd t.natAbs b.natAbs : Nat) : Int) := fun z => wide_div (b := 250) (by omega) (by rw [Int.natAbs_natCast]; exact Nat.lt_of_le_of_lt g1 b1) (by decide) (by decide)
    refine ⟨_, rfl, _, rfl, t, b, rfl, t1, b1, _, rfl, _, rfl, _, _, rfl, rfl, dv t, _, rfl, _, rfl, _, _, rfl, rfl, dv b, (by show 2 ≤ sizeLine; rw [sizeLine_eq]; decide), fun p np => ?_⟩
    exact k p np
end
end GG


namespace GG
open PySem PySem.Spec PyProof.Rows L2
section
variable {P : Program} {w : World} {K : PySem.W.Frag} {mg : Str → Option Value} {base : Heap}
theorem small250 {x : Int} (h : x.natAbs < 2 ^ 120) : x.natAbs < 2 ^ 250 := Nat.lt_of_lt_of_le h (Nat.pow_le_pow_right (by decide) (by decide))
theorem prod240 {x y : Int} (a : x.natAbs < 2 ^ 120) (b : y.natAbs < 2 ^ 120) : (x * y).natAbs < 2 ^ 240 := wide_lt a b
theorem sum250 {x y : Int} (a : x.natAbs < 2 ^ 240) (b : y.natAbs < 2 ^ 240) : (x + y).natAbs < 2 ^ 250 ∧ (x - y).natAbs < 2 ^ 250 := by
  have e : (2 : Nat) ^ 250 = 1024 * 2 ^ 240 := by rw [show 250 = 10 + 240 from rfl, Nat.pow_add]
  rw [e]
  generalize (2 : Nat) ^ 240 = z at a b
  omega

theorem scLLess : FnScope ["_law_one", "_law_two"] ["_law_one", "_law_two"] (defScope sLLess) := ⟨rfl, rfl, rfl, by decide +kernel, rfl, by decide +kernel, by decide +kernel⟩
theorem kn_law_less (D : DefIs K mg "_law_less" sLLess) : Kn P w K mg base "_law_less" 1 ["_law_one", "_law_two"] (spLaw2 okLess) := by
  refine .of D (fun _ _ _ _ _ _ us hl => match us, hl with | [_, _], _ => rfl) fun _ _ F => ?_
  refine F.ok scLLess (fun vs H Q E h => ?_) (fun cdv A outer s H vs Q E hr h => ?_)
  · obtain ⟨p1, p2, a, b, rfl, _⟩ := h
    rfl
  · obtain ⟨p1, p2, a, b, rfl, e1, e2, q1, q2, k⟩ := h
    refine ⟨_, pss_one (ps_ret (pe_cmpR op_lt (pe_op op_mulW (pe_ix ix_tup (pv 0) pe_int (fun _ _ => rfl)) (pe_ix ix_tup (pv 1) pe_int (fun _ _ => rfl))) (pe_op op_mulW (pe_ix ix_tup (pv 1) pe_int (fun _ _ => rfl)) (pe_ix ix_tup (pv 0) pe_int (fun _ _ => rfl))) (nomark _))), ?_⟩
    have hb : 0 < a.2 * b.2 := Int.mul_pos q1.2.2 q2.2.2
    have hs : (a.2 * b.2).natAbs < 2 ^ 250 := Nat.lt_of_lt_of_le (prod240 q1.2.1 q2.2.1) (Nat.pow_le_pow_right (by decide) (by decide))
    refine ⟨_, rfl, p1, _, _, _, rfl, rfl, .inl (.inl e1), atI_nat (j := 0) rfl, _, rfl, p2, _, _, _, rfl, rfl, .inl (.inl e2), atI_nat (j := 1) rfl, _, _, rfl, rfl, mulW q1.1 q2.2.1, _, rfl, p2, _, _, _, rfl, rfl, .inl (.inl e2), atI_nat (j := 0) rfl, _, rfl, p1, _, _, _, rfl, rfl, .inl (.inl e1), atI_nat (j := 1) rfl, _, _, rfl, rfl, mulW q2.1 q1.2.1, _, _, rfl, rfl, ?_⟩
    exact k H (L2.Same.refl H)
end
end GG


namespace GG
open PySem PySem.Spec PyProof.Rows L2
abbrev sPassed : Stmt := topS 35
def copr (t b : Int) : Prop := Nat.gcd t.natAbs b.natAbs = 1
theorem lw_copr {t b : Int} (h : 0 < b) : copr (lw t b).1 (lw t b).2 := by
  have g0 : 0 < Nat.gcd t.natAbs b.natAbs := Nat.gcd_pos_of_pos_right _ (by omega)
  obtain ⟨e1, e2⟩ := lw_exact t b
  have z1 := congrArg Int.natAbs e1
  have z2 := congrArg Int.natAbs e2
  rw [Int.natAbs_mul, Int.natAbs_natCast] at z1 z2
  unfold copr
  have z3 : Nat.gcd ((lw t b).1.natAbs * Nat.gcd t.natAbs b.natAbs) ((lw t b).2.natAbs * Nat.gcd t.natAbs b.natAbs) = Nat.gcd t.natAbs b.natAbs := by rw [z1, z2]
  rw [Nat.gcd_mul_right] at z3
  exact Nat.eq_of_mul_eq_mul_right g0 (by rw [z3, Nat.one_mul])
theorem lw_mul {t b : Int} {k : Int} (k0 : 0 < k) (h : copr t b) : lw (t * k) (b * k) = (t, b) := by
  have g : ((Nat.gcd (t * k).natAbs (b * k).natAbs : Nat) : Int) = k := by
    rw [Int.natAbs_mul, Int.natAbs_mul, Nat.gcd_mul_right, h, Nat.one_mul]
    omega
  unfold lw
  rw [g, Int.mul_ediv_cancel _ (by omega), Int.mul_ediv_cancel _ (by omega)]
def spIs : Sp := fun vs H Q _ => ∃ a b : Bool, vs = [.bl a, .bl b] ∧ Q (.bl (decide (a = b))) H
def mid (a : Int × Int) : Prop := a.1.natAbs < 2 ^ 100 ∧ a.2.natAbs < 2 ^ 100 ∧ 0 < a.2 ∧ copr a.1 a.2
def spSome : Sp := fun vs H Q _ => ∃ (p l : Addr) (c : Int), vs = [.ref p] ∧ PenAt H p l c ∧ c < 10000000 ∧
  ∀ (r : Addr) (a : Int × Int) (c' : Int) (H' : Hp), c ≤ c' → c' ≤ c + 20 → mid a → H' r = some (.tup [.int a.1, .int a.2]) → H r = none → PenAt H' p l c' → Keep p H H' → Q (.ref r) H'
def spPassed : Sp := fun vs H Q _ => ∃ (p l r : Addr) (c : Int) (a : Int × Int), vs = [.ref p, .ref r] ∧ PenAt H p l c ∧ c < 10000000 ∧ H r = some (.tup [.int a.1, .int a.2]) ∧ mid a ∧
  ∀ (v : V) (d : PyData) (c' : Int) (H' : Hp), c ≤ c' → c' ≤ c + 3 → PenAt H' p l c' → Keep p H H' → Da H' v d → isR d = true → ratOf d = a → smallR d → Q v H'
section
variable {P : Program} {w : World} {K : PySem.W.Frag} {mg : Str → Option Value} {base : Heap}
theorem scPassed : FnScope ["_law_pen_here", "_law_ratio", "_law_by"] ["_law_pen_here", "_law_ratio"] (defScope sPassed) := ⟨rfl, rfl, rfl, by decide +kernel, rfl, by decide +kernel, by decide +kernel⟩
theorem kn_passed (D : DefIs K mg "_law_passed" sPassed) (B1 : Kn P w K mg base "_law_draw" 1 ["_law_pen_here", "_law_many"] spDraw) (B2 : Kn P w K mg base "_law_pick" 2 ["_law_pen_here", "_law_some"] (spPick K)) : Kn P w K mg base "_law_passed" 3 ["_law_pen_here", "_law_ratio"] spPassed := by
  refine .of D (fun _ _ _ _ _ _ us hl => match us, hl with | [_, _], _ => rfl) fun _ _ F => ?_
  refine F.ok scPassed (fun vs H Q E h => ?_) (fun cdv A outer s H vs Q E hr h => ?_)
  · obtain ⟨p, l, r, c, a, rfl, _⟩ := h
    rfl
  · obtain ⟨p, l, r, c, a, rfl, P0, c0, er, m, k⟩ := h
    have hr1 : Room 1 _ := hr.mono (by decide)
    refine ⟨_, Evl.pss_cut (ps_if (PW.pt (pw_and (pt_cmpR op_eq (pe_ix ix_tup (pv 1) pe_int (fun _ _ => rfl)) pe_int (nomark _)) (pw_and1 (pt_cmpR op_eq (pe_kn B1 hr1 (pa_cons (pv 0) (pa_cons pe_int pa_nil))) pe_int (nomark _)))))
        (pss_one (ps_ret (pe_ix ix_tup (pv 1) pe_int (fun _ _ => rfl)))) pss_nil)
      (pss_cons (ps_set (i := 2) scPassed.nd rfl (.inl rfl) (pe_kn B2 hr (pa_cons (pv 0) (pa_cons (pe_lst (pa_cons pe_int (pa_cons pe_int (pa_cons pe_int (pa_cons pe_int pa_nil))))) pa_nil))))
      (pss_one (ps_ret (pe_kn B2 hr (pa_cons (pv 0) (pa_cons (pe_lst (pa_cons (pe_tup (pa_cons (pe_op op_mul (pe_ix ix_tup (pv 1) pe_int (fun _ _ => rfl)) (pv 2)) (pa_cons (pe_op op_mul (pe_ix ix_tup (pv 1) pe_int (fun _ _ => rfl)) (pv 2)) pa_nil)))
        (pa_cons (pe_lstM (pa_cons (pe_op op_mul (pe_ix ix_tup (pv 1) pe_int (fun _ _ => rfl)) (pv 2)) (pa_cons (pe_op op_mul (pe_ix ix_tup (pv 1) pe_int (fun _ _ => rfl)) (pv 2)) pa_nil))) pa_nil))) pa_nil)))))), ?_⟩
    have rp : r ≠ p := by
      obtain ⟨_, _, _, _, I⟩ := P0
      exact ne_of er I.obj (by intro z; cases z)
    obtain ⟨m1, m2, m3, m4⟩ := m
    have last : ∀ (n : Int) (c3 : Int) (H3 : Hp), 0 < n → n ≤ 5 → c ≤ c3 → c3 ≤ c + 2 → PenAt H3 p l c3 → Keep p H H3 → ∀ (t : Addr), H3 t = none → ∀ (u : Addr), (upd H3 t (.tup [.int (a.1 * n), .int (a.2 * n)])) u = none → u ≠ sysModules → ∀ (L : Addr), (upd (upd H3 t (.tup [.int (a.1 * n), .int (a.2 * n)])) u (.lst [.int (a.1 * n), .int (a.2 * n)])) L = none →
        ∀ (x : V) (H' : Hp), x ∈ [V.ref t, .ref u] → PenAt H' p l (c3 + 1) → Keep p (upd (upd (upd H3 t (.tup [.int (a.1 * n), .int (a.2 * n)])) u (.lst [.int (a.1 * n), .int (a.2 * n)])) L (.lst [.ref t, .ref u])) H' → Q x H' := by
      intro n c3 H3 n0 n5 x1 x2 P3 K3 t nt u nu mu L nL x H' hx P4 K4
      have K5 := ((K3.new nt).new nu).new nL (o := .lst [.ref t, .ref u])
      have K6 := K5.trans K4
      have tu : t ≠ u := fun z => by
        rw [← z, upd_same] at nu
        cases nu
      have tL : t ≠ L := fun z => by
        rw [← z, upd_ne tu, upd_same] at nL
        cases nL
      have uL : u ≠ L := fun z => by
        rw [← z, upd_same] at nL
        cases nL
      have tp : t ≠ p := fun z => by
        obtain ⟨_, _, _, _, I⟩ := P3
        rw [z, I.obj] at nt
        cases nt
      have up : u ≠ p := fun z => by
        obtain ⟨_, _, _, _, I⟩ := P3.new nt (o := .tup [.int (a.1 * n), .int (a.2 * n)])
        rw [z, I.obj] at nu
        cases nu
      have et : H' t = some (.tup [.int (a.1 * n), .int (a.2 * n)]) := K4 t _ tp (by rw [upd_ne tL, upd_ne tu, upd_same])
      have eu : H' u = some (.lst [.int (a.1 * n), .int (a.2 * n)]) := K4 u _ up (by rw [upd_ne uL, upd_same])
      have b0 : 0 < a.2 * n := Int.mul_pos m3 n0
      have sm : ∀ z : Int, z.natAbs < 2 ^ 100 → (z * n).natAbs < 2 ^ 120 := fun z hz => by
        have := wide_lt (j := n) (b := 20) hz (by omega)
        exact this
      have el := lw_mul n0 m4
      simp only [List.mem_cons, List.not_mem_nil, or_false] at hx
      rcases hx with rfl | rfl
      · exact k _ (.tuple [.int (a.1 * n), .int (a.2 * n)]) _ _ (by omega) (by omega) P4 K6 (.tup et (.cons (.int _) (.cons (.int _) .nil))) (decide_eq_true b0) el ⟨sm _ m1, sm _ m2⟩
      · exact k _ (.list [.int (a.1 * n), .int (a.2 * n)]) _ _ (by omega) (by omega) P4 K6 (.lst eu trivial (.cons (.int _) (.cons (.int _) .nil))) (decide_eq_true b0) el ⟨sm _ m1, sm _ m2⟩
    refine ⟨fun σ' H' => σ' = [some (.ref p), some (.ref r), none] ∧ ∃ c1, c ≤ c1 ∧ c1 ≤ c + 1 ∧ PenAt H' p l c1 ∧ Keep p H H', ?_, ?_⟩
    · refine ⟨_, rfl, r, _, _, _, rfl, rfl, .inl (.inl er), atI_nat (j := 1) rfl, rfl, _, rfl, ?_⟩
      refine ite2 (fun e => ?_) (fun _ => ?_)
      · have e1 : a.2 = 1 := V.int.inj (of_decide_eq_true e)
        refine ⟨_, rfl, p, l, c, 2, rfl, P0, by decide, by decide, by omega, fun r0 H1 _ _ P1 K1 => ⟨rfl, _, rfl, ?_⟩⟩
        refine ite2 (fun _ => ?_) (fun _ => ?_)
        · exact ⟨_, rfl, r, _, _, _, rfl, rfl, .inl (.inl (K1 r _ rp er)), atI_nat (j := 0) rfl, k (.int a.1) (.int a.1) _ _ (by omega) (by omega) P1 K1 (.int _) rfl (Prod.ext rfl e1.symm) (Nat.lt_of_lt_of_le m1 (Nat.pow_le_pow_right (by decide) (by decide)))⟩
        · exact ⟨rfl, c + 1, by omega, by omega, P1, K1⟩
      · exact ⟨rfl, c, by omega, by omega, P0, Keep.refl⟩
    · rintro σ' H1 ⟨rfl, c1, x1, x2, P1, K1⟩
      refine ⟨_, rfl, (by show 4 ≤ sizeLine; rw [sizeLine_eq]; decide), fun L nL => ?_⟩
      refine ⟨p, l, L, c1, _, rfl, P1.new nL, .inl (.inl upd_same), (by show 0 < 4; decide), (by show 4 < 1000000; decide), by omega, fun x H3 hx P3 K3 => ?_⟩
      have K03 : Keep p H H3 := (K1.new nL).trans K3
      have er3 := K03 r _ rp er
      obtain ⟨n, rfl, n0, n5⟩ : ∃ n : Int, x = .int n ∧ 0 < n ∧ n ≤ 5 := by
        simp only [List.mem_cons, List.not_mem_nil, or_false] at hx
        rcases hx with rfl | rfl | rfl | rfl
        · exact ⟨1, rfl, by decide, by decide⟩
        · exact ⟨1, rfl, by decide, by decide⟩
        · exact ⟨2, rfl, by decide, by decide⟩
        · exact ⟨5, rfl, by decide, by decide⟩
      refine ⟨_, rfl, _, rfl, r, _, _, _, rfl, rfl, .inl (.inl er3), atI_nat (j := 0) rfl, _, rfl, _, _, rfl, rfl, .inr ⟨by omega, by omega⟩, _, rfl, r, _, _, _, rfl, rfl, .inl (.inl er3), atI_nat (j := 1) rfl, _, rfl, _, _, rfl, rfl, .inr ⟨by omega, by omega⟩, (by show 2 ≤ sizeLine; rw [sizeLine_eq]; decide), fun t nt => ?_⟩
      have er4 : (upd H3 t (.tup [.int (a.1 * n), .int (a.2 * n)])) r = some (.tup [.int a.1, .int a.2]) := by
        rw [upd_ne (ne_of_none er3 nt)]
        exact er3
      refine ⟨_, rfl, r, _, _, _, rfl, rfl, .inl (.inl er4), atI_nat (j := 0) rfl, _, rfl, _, _, rfl, rfl, .inr ⟨by omega, by omega⟩, _, rfl, r, _, _, _, rfl, rfl, .inl (.inl er4), atI_nat (j := 1) rfl, _, rfl, _, _, rfl, rfl, .inr ⟨by omega, by omega⟩, (by show 2 ≤ sizeLine; rw [sizeLine_eq]; decide), fun u nu mu => ?_⟩
      refine ⟨(by show 2 ≤ sizeLine; rw [sizeLine_eq]; decide), fun L2' nL2 => ?_⟩
      refine ⟨p, l, L2', c1 + 1, _, rfl, ((P3.new nt).new nu).new nL2, .inl (.inl upd_same), (by show 0 < 2; decide), (by show 2 < 1000000; decide), by omega, fun x H' hx P4 K4 => ?_⟩
      exact last n _ H3 n0 n5 (by omega) (by omega) P3 K03 t nt u nu mu L2' nL2 x H' hx P4 K4
end
end GG


namespace GG
open PySem PySem.Spec PyProof.Rows L2
/-! ### dicts whose keys are tuples of tuples of whole numbers -/
mutual
inductive NK (H : Hp) : V → NestedKey → Prop
  | int (i : Int) : NK H (.int i) (.num i)
  | tup {a : Addr} {xs : List V} {ks : List NestedKey} : H a = some (.tup xs) → NKs H xs ks → NK H (.ref a) (.tup ks)
inductive NKs (H : Hp) : List V → List NestedKey → Prop
  | nil : NKs H [] []
  | cons {v : V} {vs : List V} {k : NestedKey} {ks : List NestedKey} : NK H v k → NKs H vs ks → NKs H (v :: vs) (k :: ks)
end
mutual
theorem NK.is {X : Cx} {pins : List (Addr × Obj)} {σ : L2.St} {H : Hp} {s : Shared} (I : Inv X pins σ H s) : ∀ {v : V} {k : NestedKey} {u : Value}, NK H v k → RelV v u → NestedIs s.heap k u
  | _, _, _, .int i, r => by
    obtain ⟨t, rfl⟩ := r
    exact .int i t
  | _, _, _, .tup e t, r => by
    cases r
    obtain ⟨_, its, rv, o, ho, hc, n, hd⟩ := (show ObjOk X.prog X.w H s.heap _ (.tup _) from I.hok _ _ e)
    exact .tup ho hc hd (by rw [List.toList_toArray]; exact t.is I rv)
theorem NKs.is {X : Cx} {pins : List (Addr × Obj)} {σ : L2.St} {H : Hp} {s : Shared} (I : Inv X pins σ H s) : ∀ {vs : List V} {ks : List NestedKey} {us : List Value}, NKs H vs ks → Vals vs us → NestedAll s.heap ks us
  | _, _, _, .nil, r => by
    cases r
    exact .nil
  | _, _, _, .cons h t, r => by
    cases r with
    | cons r1 r2 => exact .cons (h.is I r1) (t.is I r2)
end
mutual
theorem NK.same {H H' : Hp} (k : Same H H') : ∀ {v : V} {x : NestedKey}, NK H v x → NK H' v x
  | _, _, .int i => .int i
  | _, _, .tup e t => .tup (k _ _ e) (t.same k)
theorem NKs.same {H H' : Hp} (k : Same H H') : ∀ {vs : List V} {xs : List NestedKey}, NKs H vs xs → NKs H' vs xs
  | _, _, .nil => .nil
  | _, _, .cons h t => .cons (h.same k) (t.same k)
end
abbrev NE := NestedKey × Addr × V
def relE (p : NE) (q : NestedKey × Addr × Value) : Prop := p.1 = q.1 ∧ p.2.1 = q.2.1 ∧ RelV p.2.2 q.2.2
def ndP (P : Program) (w : World) (d : Addr) (kvs : List NE) : Heap → Prop := fun h => ∃ xs : List (NestedKey × Addr × Value), Paired relE kvs xs ∧
  ∃ o es ep, h.get? d = some o ∧ o.ExactDict ∧ o.data = .dict es ep ∧ es.toList = xs.map (entryOfKey (nestedKind P w)) ∧ (xs.map (·.1)).Nodup
/-- at d stands a dict with these keys (each with the address of its tuple) and values -/
structure ND (P : Program) (w : World) (H : Hp) (d : Addr) (kvs : List NE) : Prop where
  has : H d = some (.ext (ndP P w d kvs))
  keys : ∀ e ∈ kvs, NK H (.ref e.2.1) e.1 ∧ e.1.depth ≤ 8
  ne : (d == sysModules) = false
  small : kvs.length ≤ sizeLine
theorem ND.same {P : Program} {w : World} {H H' : Hp} {d : Addr} {kvs : List NE} (k : Same H H') (n : ND P w H d kvs) : ND P w H' d kvs :=
  ⟨k _ _ n.has, fun e he => ⟨(n.keys e he).1.same k, (n.keys e he).2⟩, n.ne, n.small⟩
theorem ND.noTup {P : Program} {w : World} {H : Hp} {d : Addr} {kvs : List NE} (n : ND P w H d kvs) : ∀ xs, H d ≠ some (.tup xs) := fun xs z => by
  rw [n.has] at z
  cases z
def atN (kvs : List NE) (k : NestedKey) : Option V := (kvs.find? fun e => decide (e.1 = k)).map (·.2.2)
def putN (kvs : List NE) (k : NestedKey) (b : Addr) (v : V) : List NE := if (atN kvs k).isSome then kvs.map (fun e => if e.1 = k then (e.1, e.2.1, v) else e) else kvs ++ [(k, b, v)]
theorem relE_val {kvs : List NE} {xs : List (NestedKey × Addr × Value)} (r : Paired relE kvs xs) (k : NestedKey) : RelO (atN kvs k) ((atKey xs k).map (·.2)) := by
  induction r with
  | nil => exact True.intro
  | @cons p q ps qs h t ih =>
    obtain ⟨h1, _, h2⟩ := h
    by_cases e : p.1 = k
    · have e' : q.1 = k := h1.symm.trans e
      have b : atKey (q :: qs) k = some q.2 := by simp [atKey, List.find?_cons, e']
      have c : atN (p :: ps) k = some p.2.2 := by simp [atN, List.find?_cons, e]
      rw [c, b]
      exact h2
    · have e' : ¬ q.1 = k := fun z => e (h1.trans z)
      have b : atKey (q :: qs) k = atKey qs k := by simp [atKey, List.find?_cons, e']
      have c : atN (p :: ps) k = atN ps k := by simp [atN, List.find?_cons, e]
      rw [c, b]
      exact ih
theorem relE_repl {kvs : List NE} {xs : List (NestedKey × Addr × Value)} (r : Paired relE kvs xs) (k : NestedKey) {y : V} {u : Value} (ry : RelV y u) :
    Paired relE (kvs.map fun e => if e.1 = k then (e.1, e.2.1, y) else e) (xs.map (putAt k u)) := by
  induction r with
  | nil => exact .nil
  | @cons p q ps qs h t ih =>
    rw [List.map_cons, List.map_cons]
    refine .cons ?_ ih
    obtain ⟨h1, h2, h3⟩ := h
    unfold putAt
    by_cases e : p.1 = k
    · rw [if_pos e, if_pos (h1.symm.trans e)]
      exact ⟨h1, h2, ry⟩
    · rw [if_neg e, if_neg (fun z => e (h1.trans z))]
      exact ⟨h1, h2, h3⟩
theorem relE_put {kvs : List NE} {xs : List (NestedKey × Addr × Value)} (r : Paired relE kvs xs) (k : NestedKey) (b : Addr) {y : V} {u : Value} (ry : RelV y u) : Paired relE (putN kvs k b y) (storedH xs k b u) := by
  have e : (atN kvs k).isSome = (atKey xs k).isSome := by
    rw [(relE_val r k).isSome_eq, Option.isSome_map]
  unfold putN storedH
  rw [e]
  by_cases q : (atKey xs k).isSome = true
  · rw [if_pos q, if_pos q]
    exact relE_repl r k ry
  · rw [if_neg q, if_neg q]
    exact Paired.snoc r ⟨rfl, rfl, ry⟩
theorem putN_len (kvs : List NE) (k : NestedKey) (b : Addr) (v : V) : (putN kvs k b v).length ≤ kvs.length + 1 := by
  unfold putN
  split
  · rw [List.length_map]
    exact Nat.le_succ _
  · rw [List.length_append]
    exact Nat.le_refl _
theorem putN_keys {H : Hp} {kvs : List NE} {k : NestedKey} {b : Addr} {v : V} (h : ∀ e ∈ kvs, NK H (.ref e.2.1) e.1 ∧ e.1.depth ≤ 8) (n : NK H (.ref b) k ∧ k.depth ≤ 8) : ∀ e ∈ putN kvs k b v, NK H (.ref e.2.1) e.1 ∧ e.1.depth ≤ 8 := by
  intro e he
  unfold putN at he
  split at he
  · obtain ⟨x, hx, rfl⟩ := List.mem_map.mp he
    split
    · exact h x hx
    · exact h x hx
  · rcases List.mem_append.mp he with q | q
    · exact h e q
    · rw [List.mem_singleton.mp q]
      exact n
section
variable {X : Cx} {pins : List (Addr × Obj)} {σ : L2.St} {H : Hp} {s : Shared} {d : Addr} {kvs : List NE}
theorem relE_is (I : Inv X pins σ H s) {xs : List (NestedKey × Addr × Value)} (r : Paired relE kvs xs) (keys : ∀ e ∈ kvs, NK H (.ref e.2.1) e.1 ∧ e.1.depth ≤ 8) : ∀ x ∈ xs, (nestedKind X.prog X.w).is s.heap x.1 x.2.1 := by
  induction r with
  | nil => exact fun x hx => nomatch hx
  | @cons p q ps qs h t ih =>
    intro x hx
    rcases List.mem_cons.mp hx with rfl | m
    · obtain ⟨e1, e2, _⟩ := h
      obtain ⟨k1, k2⟩ := keys p List.mem_cons_self
      rw [← e1, ← e2]
      exact ⟨k1.is I rfl, k2⟩
    · exact ih (fun e he => keys e (List.mem_cons_of_mem _ he)) x m
theorem ND.of (I : Inv X pins σ H s) (n : ND X.prog X.w H d kvs) : ∃ xs : List (NestedKey × Addr × Value), Paired relE kvs xs ∧ s.heap.DictOfH (nestedKind X.prog X.w) d xs := by
  obtain ⟨⟨xs, r, o, es, ep, h1, h2, h3, h4, h5⟩, _⟩ := (show ObjOk X.prog X.w H s.heap d (.ext _) from I.hok d _ n.has)
  exact ⟨xs, r, o, es, ep, h1, h2, h3, h4, relE_is I r n.keys, h5⟩
theorem ndP_stay {P : Program} {w : World} {h1 h2 : Heap} (p : ndP P w d kvs h1) (k : ∀ o, h1.get? d = some o → h2.get? d = some o) : ndP P w d kvs h2 := by
  obtain ⟨xs, r, o, es, ep, a, rest⟩ := p
  exact ⟨xs, r, o, es, ep, k _ a, rest⟩
/-- {} -/
def tNNew (P : Program) (w : World) : TE := fun _ H Q => ∀ p, H p = none → ND P w (upd H p (.ext (ndP P w p []))) p [] → Q (.ref p) (upd H p (.ext (ndP P w p [])))
theorem pe_nnew {pos : Pos} : PE X (.Dict [] [] pos) (tNNew X.prog X.w) := ⟨fun pins s σ H Q I h => by
  have free : H s.heap.objs.size = none := I.hok.fresh (Nat.le_refl _)
  have now : ndP X.prog X.w s.heap.objs.size [] (s.heap.push { cls := .type "dict", data := .dict #[] }) := ⟨[], .nil, _, #[], 0, Heap.get?_push_size _ rfl, ⟨rfl, rfl, rfl⟩, rfl, rfl, List.nodup_nil⟩
  refine wpAny_Dict_empty ⟨.ref s.heap.objs.size, _, I.laid (a := s.heap.objs.size) (o := .ext (ndP X.prog X.w s.heap.objs.size [])) (t' := s.toks) (fun _ _ q => Heap.get?_push_of_some _ q) (Nat.le_refl _) ⟨now, ⟨_, Heap.get?_push_size _ rfl⟩, fun h1 h2 p k => ndP_stay p k⟩, rfl, h _ free ⟨upd_same, fun e he => (nomatch he), beq_eq_false_iff_ne.mpr (Ne.symm (Nat.ne_of_lt I.big)), Nat.zero_le _⟩⟩⟩
/-- d.get(k, x) -/
def tNGet2 (P : Program) (w : World) (td ty tx : TE) : TE := fun σ H Q => td σ H fun x H1 => ∃ a, x = .ref a ∧ (∃ kvs, ND P w H1 a kvs) ∧ ty σ H1 fun y H2 => tx σ H2 fun z H3 => ∃ kvs k b, ND P w H3 a kvs ∧ y = .ref b ∧ NK H3 (.ref b) k ∧ k.depth ≤ 8 ∧ Q ((atN kvs k).getD z) H3
theorem pe_nget2 {o e f : Expr} {apos cpos : Pos} {td ty tx : TE} (hu : X.A.units + 10 < cLine) (ho : PE X o td) (he : PE X e ty) (hf : PE X f tx) (m : M2 X o "get" apos e f cpos) : PE X (.Call (.Attribute o "get" apos) [e, f] [] cpos) (tNGet2 X.prog X.w td ty tx) := by
  refine ⟨fun pins s σ H Q I h => ?_⟩
  refine wpAny_Call_method m.base m.few m.line PySem.F.plainAttrs_dict PySem.F.slot_dict_get PySem.F.type_dict_get (thn (ho.run pins s σ H _ I h) fun u s1 ⟨x, H1, I1, rx, a, ex, ⟨kv0, n0⟩, q1⟩ => ?_)
  subst ex
  obtain rfl : u = Value.ref a := rx
  obtain ⟨xs0, _, dd0⟩ := ND.of I1 n0
  refine ⟨dd0.typeIs, fun b q => ?_, ?_⟩
  · cases q
    obtain ⟨ob, _, _, h1, h2, _⟩ := dd0
    exact ⟨ob, h1, h2.2.1⟩
  rw [m.trees]
  refine Calls.callWith_builtin rfl (Calls.evalArgs_plain (Calls.spliced_cons (thn (he.run pins s1 σ H1 _ I1 q1) fun iv s2 ⟨y, H2, I2, ry, q2⟩ =>
    Calls.spliced_cons (thn (hf.run pins s2 σ H2 _ I2 q2) fun fv s3 ⟨z, H3, I3, rz, kvs, k, b, n3, ey, nk, dk, q3⟩ => Calls.spliced_nil ?_))))
  subst ey
  obtain rfl : iv = Value.ref b := ry
  obtain ⟨xs, rel, dd⟩ := ND.of I3 n3
  refine call_meetsIn PySem.F.slot_dict_get dd.typeIs PySem.F.entry_dict_get (PySem.F.args_dict_get_3 _ _ _) (meetsH_dict_get_default (nestedKind X.prog X.w) a b n3.ne fv) ⟨(by show X.A.units + 1 + 8 < cLine; omega), k, xs, ⟨nk.is I3 rfl, dk⟩, dd, ⟨_, H3, I3.tok _, ?_, q3⟩⟩
  exact (relE_val rel k).getD rz
/-- d[k] = v -/
def sNPut (P : Program) (w : World) (td ty tv : TE) : TS := fun D σ H => tv σ H fun v H1 => td σ H1 fun x H2 => ty σ H2 fun y H3 => ∃ a kvs k b, x = .ref a ∧ ND P w H3 a kvs ∧ kvs.length < sizeLine ∧ y = .ref b ∧ NK H3 (.ref b) k ∧ k.depth ≤ 8 ∧
  (ND P w (upd H3 a (.ext (ndP P w a (putN kvs k b v)))) a (putN kvs k b v) → D.nx σ (upd H3 a (.ext (ndP P w a (putN kvs k b v)))))
theorem NK.ext {H : Hp} {a : Addr} {o : HO} (e : ∀ xs, H a ≠ some (.tup xs)) {v : V} {k : NestedKey} (h : NK H v k) : NK (upd H a o) v k := by
  have key : ∀ b xs, H b = some (.tup xs) → upd H a o b = some (.tup xs) := fun b xs q => by
    rw [upd_ne (fun z => e xs (by rw [← z]; exact q))]
    exact q
  exact h.rec (motive_1 := fun v k _ => NK (upd H a o) v k) (motive_2 := fun vs ks _ => NKs (upd H a o) vs ks) (fun i => .int i) (fun q _ ih => .tup (key _ _ q) ih) .nil (fun _ _ i1 i2 => .cons i1 i2)
theorem NKs.ext {H : Hp} {a : Addr} {o : HO} (e : ∀ xs, H a ≠ some (.tup xs)) : ∀ {vs : List V} {ks : List NestedKey}, NKs H vs ks → NKs (upd H a o) vs ks
  | _, _, .nil => .nil
  | _, _, .cons h t => .cons (h.ext e) (NKs.ext e t)
theorem NKs.snoc {H : Hp} {v : V} {k : NestedKey} (h : NK H v k) : ∀ {vs : List V} {ks : List NestedKey}, NKs H vs ks → NKs H (vs ++ [v]) (ks ++ [k])
  | _, _, .nil => .cons h .nil
  | _, _, .cons a t => .cons a (NKs.snoc h t)
theorem ps_nput {o i value : Expr} {pos pos' : Pos} {td ty tv : TE} (hu : X.A.units + 10 < cLine) (ho : PE X o td) (hi : PE X i ty) (hv : PE X value tv) (hs : swapsWith value (some (.Subscript o i pos')) pos.line X.env = pure false) :
    PS X (.Assign [.Subscript o i pos'] value pos) (sNPut X.prog X.w td ty tv) := by
  refine ⟨fun pins s σ H D I h => ?_⟩
  refine wpAny_Assign_Subscript (thn (hv.run pins s σ H _ I h) fun r s1 ⟨v, H1, I1, rv, q1⟩ => thn (ho.run pins s1 σ H1 _ I1 q1) fun u s2 ⟨x, H2, I2, rx, q2⟩ => thn (hi.run pins s2 σ H2 _ I2 q2) fun iv s3 ⟨y, H3, I3, ry, a, kvs, k, b, ex, n3, l, ey, nk, dk, q3⟩ => ?_) hs
  subst ex ey
  obtain rfl : u = Value.ref a := rx
  obtain rfl : iv = Value.ref b := ry
  obtain ⟨xs, rel, dd⟩ := ND.of I3 n3
  have hl : (putN kvs k b v).length ≤ sizeLine := Nat.le_trans (putN_len kvs k b v) l
  refine wpAny_setItem_heap (knd := nestedKind X.prog X.w) (k := k) (hsz := by rw [← Paired.length rel]; exact n3.small) (by show X.A.units + 1 + 8 < cLine; omega) ⟨nk.is I3 rfl, dk⟩ dd fun h' dd' hs' => ?_
  obtain ⟨q, es, ep, hq, h2, h3, h4, _, h5⟩ := dd'
  have now : ndP X.prog X.w a (putN kvs k b v) h' := ⟨_, relE_put rel k b rv, q, es, ep, hq, h2, h3, h4, h5⟩
  refine ⟨σ, _, d_write I3 (by rw [n3.has]; exact True.intro) hs' ⟨q, hq⟩ (ob := .ext (ndP X.prog X.w a (putN kvs k b v))) ⟨now, ⟨q, hq⟩, fun h1 h2 p k => ndP_stay p k⟩, q3 ⟨upd_same, ?_, n3.ne, hl⟩⟩
  exact putN_keys (fun e he => ⟨(n3.keys e he).1.ext n3.noTup, (n3.keys e he).2⟩) ⟨nk.ext n3.noTup, dk⟩
end
end GG


namespace GG
open PySem PySem.Spec PyProof.Rows L2
/-! ### a walk over a list or a tuple -/
theorem SqL.sm {K : PySem.W.Frag} {H H' : Hp} {a : Addr} {xs : List V} (k : Same H H') (h : SqL K H a xs) : SqL K H' a xs := by
  rcases h with (h | ⟨o, h⟩) | h
  · exact .inl (.inl (k _ _ h))
  · exact .inl (.inr ⟨o, k _ _ h⟩)
  · exact .inr h
theorem SqT.sm {K : PySem.W.Frag} {H H' : Hp} {a : Addr} {xs : List V} (k : Same H H') (h : SqT K H a xs) : SqT K H' a xs := by
  rcases h with (h | ⟨o, h⟩) | h
  · exact .inl (.inl (k _ _ h))
  · exact .inl (.inr ⟨o, k _ _ h⟩)
  · exact .inr h
def iEi (K : PySem.W.Frag) (tl : TE) : TI := fun σ H R => tl σ H fun x H1 => ∃ a, x = .ref a ∧ (((∃ xs, SqL K H1 a xs) ∧ R (Itl K a) H1) ∨ ((∃ xs, SqT K H1 a xs) ∧ R (Itt K a) H1))
theorem pi_ei {X : Cx} {tg l : Expr} {tl : TE} (hl : PE X l tl) : PI X tg l (iEi X.K tl) := by
  refine ⟨fun pins s σ H R I h => ?_⟩
  refine thn (hl.run pins s σ H _ I h) fun v s1 ⟨x, H1, I1, r1, q1⟩ => ?_
  obtain ⟨a, e, q⟩ := q1
  subst e
  cases r1
  rcases q with ⟨⟨xs, hq⟩, q⟩ | ⟨⟨xs, hq⟩, q⟩
  · obtain ⟨its, rv, p, hz⟩ := I1.list hq
    refine wpAny_pyIter_list p.isList ?_
    refine ⟨s1.heap.objs.size, [s1.heap.objs.size], _, _, H1, rfl, I1.kept (t' := s1.toks) fun b o e => Heap.get?_push_of_some _ e, turn_list a _, ⟨_, Heap.get?_push_size _ rfl, rfl, rfl⟩, fun b hb => ?_, q⟩
    have e : b = s1.heap.objs.size := by simpa using hb
    subst e
    exact I1.fpOk (Nat.le_refl _) (I1.hok.fresh (Nat.le_refl _))
  · obtain ⟨its, rv, p, hz⟩ := I1.tuple hq
    refine wpAny_pyIter_tuple (show s1.heap.IsTuple a its.toArray from p) ?_
    refine ⟨s1.heap.objs.size, [s1.heap.objs.size], _, _, H1, rfl, I1.kept (t' := s1.toks) fun b o e => Heap.get?_push_of_some _ e, turn_tuple a _, ⟨_, Heap.get?_push_size _ rfl, rfl, rfl⟩, fun b hb => ?_, q⟩
    have e : b = s1.heap.objs.size := by simpa using hb
    subst e
    exact I1.fpOk (Nat.le_refl _) (I1.hok.fresh (Nat.le_refl _))
/-- a comprehension over it -/
theorem lc_ei {K : PySem.W.Frag} {a : Addr} {xs : List V} {g : TG} {tt : TT} {te : TE} {vs : List Nat} {σ : L2.St} {H1 : Hp} {Qd : Addr → Hp → Prop} (sq : SqL K H1 a xs ∨ SqT K H1 a xs) (Pv : Addr → Nat → Hp → Prop) (h0 : ∀ D, H1 D = none → Pv D 0 (upd H1 D (.lst []))) (hl : ∀ D, H1 D = none → ∀ i H, Pv D i H → Same H1 H)
    (hs : ∀ D, H1 D = none → ∀ i x H, xs[i]? = some x → Pv D i H → g x (wipe σ vs) H fun σ2 H2 => wipe σ2 vs = wipe σ vs ∧ tt σ2 H2 fun b H3 =>
      if b = true then te σ2 H3 fun y H4 => ∃ acc, H4 D = some (.lst acc) ∧ acc.length < sizeLine ∧ Pv D (i + 1) (upd H4 D (.lst (acc ++ [y]))) else Pv D (i + 1) H3) (hd : ∀ D, H1 D = none → ∀ H, Pv D xs.length H → Qd D H) :
    ((∃ ys, SqL K H1 a ys) ∧ ∀ D, H1 D = none → ∃ W : Nat → Nat → Hp → Prop, (∃ m, W 0 m (upd H1 D (.lst []))) ∧ ∀ i m H, W i m H →
      ((Itl K a).stop i H ∧ Qd D H) ∨ ((Itl K a).go i H ∧ ∃ Nx : Hp → Prop, (∀ H', Nx H' → ∃ m', m' < m ∧ W (i + 1) m' H') ∧ ∀ x H', (Itl K a).yld i H x H' → g x (wipe σ vs) H' fun σ2 H2 => wipe σ2 vs = wipe σ vs ∧ tt σ2 H2 fun b H3 =>
        if b = true then te σ2 H3 fun y H4 => ∃ acc, H4 D = some (.lst acc) ∧ acc.length < sizeLine ∧ Nx (upd H4 D (.lst (acc ++ [y]))) else Nx H3)) ∨
    ((∃ ys, SqT K H1 a ys) ∧ ∀ D, H1 D = none → ∃ W : Nat → Nat → Hp → Prop, (∃ m, W 0 m (upd H1 D (.lst []))) ∧ ∀ i m H, W i m H →
      ((Itt K a).stop i H ∧ Qd D H) ∨ ((Itt K a).go i H ∧ ∃ Nx : Hp → Prop, (∀ H', Nx H' → ∃ m', m' < m ∧ W (i + 1) m' H') ∧ ∀ x H', (Itt K a).yld i H x H' → g x (wipe σ vs) H' fun σ2 H2 => wipe σ2 vs = wipe σ vs ∧ tt σ2 H2 fun b H3 =>
        if b = true then te σ2 H3 fun y H4 => ∃ acc, H4 D = some (.lst acc) ∧ acc.length < sizeLine ∧ Nx (upd H4 D (.lst (acc ++ [y]))) else Nx H3)) := by
  rcases sq with q | q
  · exact .inl ⟨⟨_, q⟩, fun D hD => lc_list (Pv D) (h0 D hD) (fun i H _ p => SqL.sm (hl D hD i H p) q) (hs D hD) (hd D hD)⟩
  · exact .inr ⟨⟨_, q⟩, fun D hD => lc_tup (Pv D) (h0 D hD) (fun i H _ p => SqT.sm (hl D hD i H p) q) (hs D hD) (hd D hD)⟩
/-! ### what a row, prices, a bid are, by their data -/
def seqOf : PyData → Option (List PyData)
  | .list ds => some ds
  | .tuple ds => some ds
  | _ => none
def isRow (d : PyData) (n : Int) : Bool := match seqOf d with
  | some ds => decide ((ds.length : Int) = n)
  | none => false
def isZ (d : PyData) : Bool := isR d && decide (0 ≤ (ratOf d).1)
def areP (d : PyData) (n : Int) : Bool := match seqOf d with
  | some ds => decide ((ds.length : Int) = n) && ds.all isZ
  | none => false
def isBid (d : PyData) (n : Int) : Bool := match seqOf d with
  | some [x, y] => isW x && areP y n
  | _ => false
/-- the numbers in it are small -/
def smallS (d : PyData) : Prop := match seqOf d with
  | some ds => ds.length ≤ 1000 ∧ ∀ x ∈ ds, smallR x
  | none => True
def smallBid (d : PyData) : Prop := match seqOf d with
  | some [_, y] => smallS y
  | _ => True
theorem seq_none {d : PyData} (h : isSeq d = false) : seqOf d = none := by
  cases d <;> first | rfl | cases h
theorem Da.seq2 {K : PySem.W.Frag} {H : Hp} {v : V} {d : PyData} {ds : List PyData} (h : Da H v d) (s : seqOf d = some ds) : ∃ a xs, v = .ref a ∧ (SqL K H a xs ∨ SqT K H a xs) ∧ DaAll H xs ds ∧ xs.length = ds.length := by
  cases h with
  | lst e n t =>
    cases s
    exact ⟨_, _, rfl, .inl (.inl (.inl e)), t, t.length⟩
  | tup e t =>
    cases s
    exact ⟨_, _, rfl, .inr (.inl (.inl e)), t, t.length⟩
  | _ => cases s
theorem Same.stay' {H H' : Hp} (k : Same H H') : Stay H H' := Same.stay k
abbrev sRow : Stmt := topS 12
abbrev sZ : Stmt := topS 13
abbrev sPrices : Stmt := topS 14
abbrev sToldR : Stmt := topS 16
abbrev sBid : Stmt := topS 24
def spRow : Sp := fun vs H Q _ => ∃ v d n, vs = [v, .int n] ∧ Da H v d ∧ ∀ H', Same H H' → Q (.bl (isRow d n)) H'
def spZ : Sp := fun vs H Q _ => ∃ v d, vs = [v] ∧ Da H v d ∧ smallR d ∧ ∀ H', Same H H' → Q (.bl (isZ d)) H'
def spPrices : Sp := fun vs H Q _ => ∃ v d n, vs = [v, .int n] ∧ Da H v d ∧ smallS d ∧ ∀ H', Same H H' → Q (.bl (areP d n)) H'
def spBid : Sp := fun vs H Q _ => ∃ v d n, vs = [v, .int n] ∧ Da H v d ∧ smallBid d ∧ ∀ H', Same H H' → Q (.bl (isBid d n)) H'
section
variable {P : Program} {w : World} {K : PySem.W.Frag} {mg : Str → Option Value} {base : Heap}
theorem scRow : FnScope ["value", "many"] ["value", "many"] (defScope sRow) := ⟨rfl, rfl, rfl, by decide +kernel, rfl, by decide +kernel, by decide +kernel⟩
theorem kn_row (D : DefIs K mg "is_row" sRow) (T : RTxt K mg) : Kn P w K mg base "is_row" 1 ["value", "many"] spRow := by
  refine .of D (fun _ _ _ _ _ _ us hl => match us, hl with | [_, _], _ => rfl) fun _ _ F => ?_
  refine F.ok scRow (fun vs H Q E h => ?_) (fun cdv A outer s H vs Q E hr h => ?_)
  · obtain ⟨v, d, n, rfl, _⟩ := h
    rfl
  · obtain ⟨v, d, n, rfl, da, k⟩ := h
    refine ⟨_, pss_one (ps_ret (pe_and (pe_callB call_isiT (by rfl) T.isi bIsi (pa_cons (pv 0) (pa_cons (pe_tup (pa_cons (pe_bltn (v := .ty "tuple") rfl T.tuple bTuple rfl) (pa_cons (pe_bltn (v := .ty "list") rfl T.list bList rfl) pa_nil))) pa_nil)))
      (pe_one (pe_cmpR op_eq (pe_callB call_len_seq (by rfl) T.len PySem.boot_len (pa_cons (pv 0) pa_nil)) (pv 1) (nomark _))))), ?_⟩
    refine ⟨_, rfl, (by show 2 ≤ sizeLine; rw [sizeLine_eq]; decide), fun p np => ?_⟩
    have S1 := GG.Stay.new (Stay.refl (H := H)) np (o := .tup [.ty "tuple", .ty "list"])
    have da1 := da.stay S1
    have Sa : Same H (upd H p (.tup [.ty "tuple", .ty "list"])) := GG.Same.new (L2.Same.refl H) np
    refine ⟨v, p, _, _, _, _, rfl, upd_same, .cons (.ty _) (.cons (.ty _) .nil), da1.ty, kit_seq d, _, rfl, ?_⟩
    generalize (upd H p (.tup [.ty "tuple", .ty "list"])) = H1 at S1 da1 Sa ⊢
    cases hs : isSeq d with
    | false =>
      refine iteF ?_
      have e : isRow d n = false := by
        unfold isRow
        rw [seq_none hs]
      rw [e] at k
      exact k H1 Sa
    | true =>
      refine iteT ?_
      obtain ⟨a, xs, ds, rfl, sq, all, hd, hl⟩ := da1.seq (K := K) hs
      refine ⟨_, rfl, a, xs, rfl, sq, _, rfl, rfl, ?_⟩
      have e : isRow d n = decide (V.int (xs.length : Int) = V.int n) := by
        have q : seqOf d = some ds := by rcases hd with rfl | rfl <;> rfl
        unfold isRow
        rw [q, hl]
        show decide ((ds.length : Int) = n) = _
        by_cases z : (ds.length : Int) = n
        · rw [decide_eq_true z, decide_eq_true (by rw [z])]
        · rw [decide_eq_false z, decide_eq_false (fun q => z (V.int.inj q))]
      rw [e] at k
      exact k H1 Sa
theorem scZ : FnScope ["value"] ["value"] (defScope sZ) := ⟨rfl, rfl, rfl, by decide +kernel, rfl, by decide +kernel, by decide +kernel⟩
theorem kn_z {CN : Addr} (D : DefIs K mg "is_from_zero" sZ) (B2 : Kn P w K mg base "is_ratio" 2 ["value"] spRatio) (B4 : KnX P w K mg base "told" 3 ["value", "what"] (spTold CN)) : Kn P w K mg base "is_from_zero" 4 ["value"] spZ := by
  refine .of D (fun _ _ _ _ _ _ us hl => match us, hl with | [_], _ => rfl) fun _ _ F => ?_
  refine F.ok scZ (fun vs H Q E h => ?_) (fun cdv A outer s H vs Q E hr h => ?_)
  · obtain ⟨v, d, rfl, _⟩ := h
    rfl
  · obtain ⟨v, d, rfl, da, sm, k⟩ := h
    have hr2 : Room 2 _ := hr.mono (by decide)
    refine ⟨_, pss_one (ps_ret (pe_and (pe_kn B2 hr2 (pa_cons (pv 0) pa_nil)) (pe_one (pe_cmpR op_ge (pe_ix ix_tup (pe_knX B4 hr LamX.takes0 (E := fun _ _ _ => False) (fun _ _ _ _ z => z) (pa_cons (pv 0) (pa_cons pe_str pa_nil))) pe_int (fun _ _ => rfl)) pe_int (nomark _))))), ?_⟩
    refine ⟨_, rfl, v, d, rfl, da, fun H1 S1 => ⟨_, rfl, ?_⟩⟩
    cases hR : isR d with
    | false =>
      refine iteF ?_
      have e : isZ d = false := by
        unfold isZ
        rw [hR]
        rfl
      rw [e] at k
      exact k H1 S1
    | true =>
      refine iteT ?_
      refine ⟨_, rfl, v, .str "ratio", d, rfl, da.stay (Same.stay S1), sm, fun _ p H2 e2 S2 => ?_, fun z => absurd (hR.symm.trans z) (by decide)⟩
      refine ⟨p, _, _, _, rfl, rfl, .inl (.inl e2), atI_nat (j := 0) rfl, _, _, rfl, rfl, ?_⟩
      have e : isZ d = decide ((ratOf d).1 ≥ 0) := by
        unfold isZ
        rw [hR]
        rfl
      rw [e] at k
      exact k H2 (L2.Same.trans S1 S2)
theorem scPrices : FnScope ["value", "kinds", "item"] ["value", "kinds"] (defScope sPrices) := ⟨rfl, rfl, rfl, by decide +kernel, rfl, by decide +kernel, by decide +kernel⟩
theorem bAll : bootBuiltins "all" = some (.builtin "all") := by decide +kernel
theorem DaAll.get {H : Hp} : ∀ {vs : List V} {ds : List PyData} {i : Nat} {x : V}, DaAll H vs ds → vs[i]? = some x → ∃ d, ds[i]? = some d ∧ Da H x d
  | _, _, _, _, .nil, h => by cases h
  | _, _, 0, _, .cons a t, h => by
    cases h
    exact ⟨_, rfl, a⟩
  | _, _, i + 1, _, .cons a t, h => by
    obtain ⟨d, e, q⟩ := DaAll.get t (by simpa using h)
    exact ⟨d, by simpa using e, q⟩
theorem take_snoc {α : Type} {xs : List α} {i : Nat} {x : α} (h : xs[i]? = some x) : xs.take (i + 1) = xs.take i ++ [x] := by
  obtain ⟨lt, e⟩ := List.getElem?_eq_some_iff.mp h
  rw [List.take_succ_eq_append_getElem lt, e]
theorem kn_prices (D : DefIs K mg "are_prices" sPrices) (za : mg "all" = none) (B : Kn P w K mg base "is_row" 1 ["value", "many"] spRow) (BZ : Kn P w K mg base "is_from_zero" 4 ["value"] spZ) : Kn P w K mg base "are_prices" 5 ["value", "kinds"] spPrices := by
  refine .of D (fun _ _ _ _ _ _ us hl => match us, hl with | [_, _], _ => rfl) fun _ _ F => ?_
  refine F.ok scPrices (fun vs H Q E h => ?_) (fun cdv A outer s H vs Q E hr h => ?_)
  · obtain ⟨v, d, n, rfl, _⟩ := h
    rfl
  · obtain ⟨v, d, n, rfl, da, sm, k⟩ := h
    have hr1 : Room 1 _ := hr.mono (by decide)
    refine ⟨_, pss_one (ps_ret (pe_and (pe_kn B hr1 (pa_cons (pv 0) (pa_cons (pv 1) pa_nil)))
      (pe_one (pe_callB (cr_all rfl) (by rfl) za bAll (pa_cons (pe_lc (own := [("item", 2)]) (g := gName 2) (tt := tYes) rfl scPrices.nd (pi_ei (pv 0)) (blkOk_by (N := ["value", "kinds", "item"]) (sc := defScope sPrices) (by decide +kernel))
        (fun _ _ _ _ _ => pg_name (i := 2) scPrices.nd rfl (.inl rfl)) (fun _ _ _ _ _ => pts_nil) (fun _ _ _ _ _ => pe_kn BZ hr (pa_cons (pv 2) pa_nil))) pa_nil))))), ?_⟩
    refine ⟨_, rfl, _, rfl, v, d, n, rfl, da, fun H1 S1 => ⟨_, rfl, ?_⟩⟩
    have da1 := da.stay (Same.stay S1)
    cases hs : seqOf d with
    | none =>
      have e1 : isRow d n = false := by
        unfold isRow
        rw [hs]
      have e : areP d n = false := by
        unfold areP
        rw [hs]
      rw [e] at k
      rw [e1]
      exact iteF (k H1 S1)
    | some ds =>
      have e1 : isRow d n = decide ((ds.length : Int) = n) := by
        unfold isRow
        rw [hs]
      have e : areP d n = (decide ((ds.length : Int) = n) && ds.all isZ) := by
        unfold areP
        rw [hs]
      unfold smallS at sm
      rw [hs] at sm
      rw [e] at k
      rw [e1]
      refine ite2 (fun z => ?_) (fun z => ?_)
      · rw [z] at k
        obtain ⟨a, xs, rfl, sq, all, hl⟩ := da1.seq2 (K := K) hs
        refine ⟨_, rfl, a, rfl, ?_⟩
        refine lc_ei sq (fun D i H' => Same H1 H' ∧ H' D = some (.lst ((ds.take i).map fun x => V.bl (isZ x)))) (fun D hD => ⟨GG.Same.new (L2.Same.refl H1) hD, upd_same⟩) (fun D hD i H' p => p.1) (fun D hD i x H' hx p => ?_) (fun D hD H' p => ?_)
        · obtain ⟨dx, hdx, dax⟩ := all.get hx
          refine ⟨rfl, ?_⟩
          refine ⟨_, rfl, x, dx, rfl, dax.stay (Same.stay p.1), sm.2 _ (List.mem_of_getElem? hdx), fun H3 S3 => ?_⟩
          have e3 := S3 _ _ p.2
          refine ⟨_, e3, ?_, ?_, ?_⟩
          · rw [List.length_map, List.length_take, sizeLine_eq]
            have := sm.1
            omega
          · intro b o eb
            have nb : b ≠ D := ne_of_none eb hD
            rw [upd_ne nb]
            exact S3 _ _ (p.1 b o eb)
          · rw [upd_same, take_snoc hdx, List.map_append, List.map_cons, List.map_nil]
        · obtain ⟨p1, p2⟩ := p
          have q : xs.length = ds.length := hl
          rw [q, List.take_length] at p2
          refine ⟨D, ds.map isZ, rfl, .inl (.inl (by rw [p2, List.map_map]; rfl)), ?_⟩
          have ea : (ds.map isZ).all id = ds.all isZ := by
            rw [List.all_map]
            rfl
          rw [ea]
          rw [show (true && ds.all isZ) = ds.all isZ from Bool.true_and _] at k
          exact k H' (L2.Same.trans S1 p1)
      · have z' : decide ((ds.length : Int) = n) = false := by
          cases q : decide ((ds.length : Int) = n) with
          | false => rfl
          | true => exact absurd q z
        rw [z'] at k
        exact k H1 S1
theorem scBid : FnScope ["row", "kinds"] ["row", "kinds"] (defScope sBid) := ⟨rfl, rfl, rfl, by decide +kernel, rfl, by decide +kernel, by decide +kernel⟩
theorem kn_bid (D : DefIs K mg "is_bid" sBid) (B : Kn P w K mg base "is_row" 1 ["value", "many"] spRow) (BW : Kn P w K mg base "is_whole" 1 ["value"] spWhole) (BP : Kn P w K mg base "are_prices" 5 ["value", "kinds"] spPrices) : Kn P w K mg base "is_bid" 6 ["row", "kinds"] spBid := by
  refine .of D (fun _ _ _ _ _ _ us hl => match us, hl with | [_, _], _ => rfl) fun _ _ F => ?_
  refine F.ok scBid (fun vs H Q E h => ?_) (fun cdv A outer s H vs Q E hr h => ?_)
  · obtain ⟨v, d, n, rfl, _⟩ := h
    rfl
  · obtain ⟨v, d, n, rfl, da, sm, k⟩ := h
    have hr1 : Room 1 _ := hr.mono (by decide)
    refine ⟨_, pss_one (ps_ret (pe_and (pe_kn B hr1 (pa_cons (pv 0) (pa_cons pe_int pa_nil))) (pe_and (pe_kn BW hr1 (pa_cons (pe_ix ix_any (pv 0) pe_int (fun _ _ => rfl)) pa_nil)) (pe_one (pe_kn BP hr (pa_cons (pe_ix ix_any (pv 0) pe_int (fun _ _ => rfl)) (pa_cons (pv 1) pa_nil))))))), ?_⟩
    refine ⟨_, rfl, v, d, 2, rfl, da, fun H1 S1 => ⟨_, rfl, ?_⟩⟩
    have da1 := da.stay (Same.stay S1)
    have no : isRow d 2 = false → isBid d n = false := fun z => by
      unfold isRow at z
      unfold isBid
      split
      · rename_i q
        rw [q] at z
        simp at z
      · rfl
    cases h2 : isRow d 2 with
    | false =>
      rw [no h2] at k
      exact iteF (k H1 S1)
    | true =>
      refine iteT ?_
      obtain ⟨x, y, hs⟩ : ∃ x y, seqOf d = some [x, y] := by
        unfold isRow at h2
        split at h2
        · rename_i ds q
          have l : ds.length = 2 := by
            have := of_decide_eq_true h2
            omega
          match ds, l with
          | [x, y], _ => exact ⟨x, y, q⟩
        · cases h2
      have eb : isBid d n = (isW x && areP y n) := by
        unfold isBid
        rw [hs]
      unfold smallBid at sm
      rw [hs] at sm
      rw [eb] at k
      obtain ⟨a, xs, rfl, sq, all, hl⟩ := da1.seq2 (K := K) hs
      cases all with
      | @cons x0 xs' _ _ a0 all' =>
        cases all' with
        | @cons x1 xs'' _ _ a1 all'' =>
          cases all''
          have ix : ∀ (n : Nat) (x : V), [x0, x1][n]? = some x → ∀ (Q' : V → Hp → Prop), Q' x H1 → (rIxL K (.ref a) (.int (n : Int)) H1 Q' ∨ rIxT K (.ref a) (.int (n : Int)) H1 Q') := fun n x hx Q' q => by
            rcases sq with sq | sq
            · exact .inl ⟨a, _, _, x, rfl, rfl, sq, atI_nat hx, q⟩
            · exact .inr ⟨a, _, _, x, rfl, rfl, sq, atI_nat hx, q⟩
          refine ⟨_, rfl, ix 0 x0 rfl _ ⟨x0, x, rfl, a0, _, rfl, ?_⟩⟩
          cases hw : isW x with
          | false =>
            rw [hw] at k
            exact iteF (k H1 S1)
          | true =>
            rw [hw] at k
            refine iteT ?_
            exact ⟨_, rfl, ix 1 x1 rfl _ ⟨_, rfl, x1, y, n, rfl, a1, sm, fun H3 S3 => k H3 (L2.Same.trans S1 S3)⟩⟩
end
end GG


namespace GG
open PySem PySem.Spec PyProof.Rows L2
abbrev sBR : Stmt := inClass (topS 4) 0
/-! ### BadRow, one field -/
def spBR (C : Addr) : Sp := fun vs H Q _ => ∃ (a : Addr) (y : V), vs = [.ref a, y] ∧ H a = some (exo a C none) ∧ ∀ (dx : Addr) (H' : Hp), H dx = none → dx ≠ a → H' a = some (exo a C (some dx)) → H' dx = some (exd dx [("row", y)]) → Keep a H H' → Q .non H'
structure BRTxt (P : Program) (w : World) (K : PySem.W.Frag) (mg : Str → Option Value) (base : Heap) (C : Addr) : Prop where
  m : mg "BadRow" = some (.ref C)
  t : ExT K C
  ini : ∃ fI fd, PySem.W.findIn K (.ref C) "__init__" = some (some (.ref fI)) ∧ PySem.W.typeIn K (.ref fI) = some (.type "function") ∧ Binds K fd ["self", "row"] [] ∧ FnOk P w K mg base CX0 1 fI fd ["self", "row"] (spBR C)
section
variable {P : Program} {w : World} {K : PySem.W.Frag} {mg : Str → Option Value} {base : Heap}
theorem scBR : FnScope ["self", "row"] ["self", "row"] (defScope sBR) := ⟨rfl, rfl, rfl, by decide +kernel, rfl, by decide +kernel, by decide +kernel⟩
theorem br_of {C fI : Addr} {fd : FuncData} (m : mg "BadRow" = some (.ref C)) (t : ExT K C) (n1 : PySem.W.findIn K (.ref C) "row" = some none)
    (i : PySem.W.findIn K (.ref C) "__init__" = some (some (.ref fI))) (ti : PySem.W.typeIn K (.ref fI) = some (.type "function")) (U : Fun K "__init__" "BadRow.__init__" sBR fI fd) : BRTxt P w K mg base C := by
  refine ⟨m, t, fI, fd, i, ti, U.binds fun _ _ _ _ _ _ us hl => match us, hl with | [_, _], _ => rfl, ?_⟩
  refine U.ok scBR (fun vs H Q E h => ?_) (fun cdv A outer s H vs Q E hr h => ?_)
  · obtain ⟨a, y1, rfl, _⟩ := h
    rfl
  · obtain ⟨a, y1, rfl, he, k⟩ := h
    refine ⟨_, pss_one (ps_ost (pv 0) (pv 1)), ?_⟩
    refine ⟨_, rfl, _, rfl, a, C, rfl, t.ox, n1, .inl ⟨he, fun dx hdx ne => ?_⟩⟩
    refine k dx _ hdx ne upd_same (by rw [upd_ne ne, upd_same]) fun b o nb e => ?_
    rw [upd_ne nb, upd_ne (ne_of_none e hdx)]
    exact e
/-- raise BadRow(a): what is left behind the argument -/
theorem raiseBR {C : Addr} {y : V} {H1 : Hp} {R : Value → Option Addr → Hp → Prop} (k : ∀ (d : Addr) (H' : Hp), H' d = some (.xd [("row", y)]) → Same H1 H' → R (.ref C) (some d) H') :
    [y].length ≤ 1000 ∧ ∀ a, H1 a = none → spBR C (.ref a :: ([y] ++ [])) (upd H1 a (exo a C none))
      (fun v H2 => v = .non ∧ ∃ (d : Addr) (fs : List (Str × V)), H2 a = some (exo a C (some d)) ∧ H2 d = some (exd d fs) ∧ H1 d = none ∧ R (.ref C) (some d) (upd (del H2 a) d (.xd fs))) (fun _ _ _ => False) := by
  refine ⟨(by show 1 ≤ 1000; decide), fun a na => ⟨a, y, rfl, upd_same, fun dx H2 hdx ne e1 e2 kp => ⟨rfl, dx, _, e1, e2, ?_, ?_⟩⟩⟩
  · rw [upd_ne ne] at hdx
    exact hdx
  · refine k dx _ upd_same fun b o z => ?_
    have nd : H1 dx = none := by
      rw [upd_ne ne] at hdx
      exact hdx
    rw [upd_ne (ne_of_none z nd), del_ne (ne_of_none z na)]
    exact kp b o (ne_of_none z na) (by rw [upd_ne (ne_of_none z na)]; exact z)
theorem ps_raiseBR {X : Cx} {C : Addr} {W : WX} {e1 : Expr} {ta : TA} {p pos pos2 : Pos} (hc : X.calm = true) (T : BRTxt X.prog X.w X.K X.mg X.base C) (hr : Room 2 X.A) (tk : Takes X W) (ha : PA X [e1] ta) (hg : Gl X "BadRow" := by rfl)
    (he : starEach (e1 :: []) X.env = (false, eval e1 X.env) :: starEach [] X.env := by rfl) (hpl : (backTo pos (starEach [] X.env)).any (·.1) = false := by rfl) :
    PS X (.Raise (some (.Call (.Name "BadRow" p) [e1] [] pos)) none pos2) (fun _ σ H => tMkO C (spBR C) [] ta σ H fun cls d H' => W cls d σ H') := by
  obtain ⟨fI, fd, i, ti, hb, G⟩ := T.ini
  exact ps_raise hc tk (pmk_oex (CX := CX0) T.t.ox i ti G hr hb .nil (fun _ _ _ _ _ _ _ z => z.elim) hg T.m ha (by decide) he hpl)
end
/-- BadLine's __init__ -/
def spBL (C : Addr) : Sp := fun vs H Q _ => ∃ (a : Addr) (y1 y2 : V), vs = [.ref a, y1, y2] ∧ H a = some (exo a C none) ∧ ∀ (dx : Addr) (H' : Hp), H dx = none → dx ≠ a → H' a = some (exo a C (some dx)) → H' dx = some (exd dx [("column", y2), ("line", y1)]) → Keep a H H' → Q .non H'
structure BLTxt (P : Program) (w : World) (K : PySem.W.Frag) (mg : Str → Option Value) (base : Heap) (C : Addr) : Prop where
  m : mg "BadLine" = some (.ref C)
  t : ExT K C
  ini : ∃ fI fd, PySem.W.findIn K (.ref C) "__init__" = some (some (.ref fI)) ∧ PySem.W.typeIn K (.ref fI) = some (.type "function") ∧ Binds K fd ["self", "line", "column"] [] ∧ FnOk P w K mg base CX0 1 fI fd ["self", "line", "column"] (spBL C)
section
variable {P : Program} {w : World} {K : PySem.W.Frag} {mg : Str → Option Value} {base : Heap}
/-- raise BadLine(a, b): what is left behind the arguments -/
theorem raiseBL {C : Addr} {y1 y2 : V} {H1 : Hp} {R : Value → Option Addr → Hp → Prop} (k : ∀ (d : Addr) (H' : Hp), H' d = some (.xd [("column", y2), ("line", y1)]) → Same H1 H' → R (.ref C) (some d) H') :
    [y1, y2].length ≤ 1000 ∧ ∀ a, H1 a = none → spBL C (.ref a :: ([y1, y2] ++ [])) (upd H1 a (exo a C none))
      (fun v H2 => v = .non ∧ ∃ (d : Addr) (fs : List (Str × V)), H2 a = some (exo a C (some d)) ∧ H2 d = some (exd d fs) ∧ H1 d = none ∧ R (.ref C) (some d) (upd (del H2 a) d (.xd fs))) (fun _ _ _ => False) := by
  refine ⟨(by show 2 ≤ 1000; decide), fun a na => ⟨a, y1, y2, rfl, upd_same, fun dx H2 hdx ne e1 e2 kp => ⟨rfl, dx, _, e1, e2, ?_, ?_⟩⟩⟩
  · rw [upd_ne ne] at hdx
    exact hdx
  · refine k dx _ upd_same fun b o z => ?_
    have nd : H1 dx = none := by
      rw [upd_ne ne] at hdx
      exact hdx
    rw [upd_ne (ne_of_none z nd), del_ne (ne_of_none z na)]
    exact kp b o (ne_of_none z na) (by rw [upd_ne (ne_of_none z na)]; exact z)
theorem ps_raiseBL {X : Cx} {C : Addr} {W : WX} {e1 e2 : Expr} {ta : TA} {p pos pos2 : Pos} (hc : X.calm = true) (T : BLTxt X.prog X.w X.K X.mg X.base C) (hr : Room 2 X.A) (tk : Takes X W) (ha : PA X [e1, e2] ta) (hg : Gl X "BadLine" := by rfl)
    (he : starEach (e1 :: [e2]) X.env = (false, eval e1 X.env) :: starEach [e2] X.env := by rfl) (hpl : (backTo pos (starEach [e2] X.env)).any (·.1) = false := by rfl) :
    PS X (.Raise (some (.Call (.Name "BadLine" p) [e1, e2] [] pos)) none pos2) (fun _ σ H => tMkO C (spBL C) [] ta σ H fun cls d H' => W cls d σ H') := by
  obtain ⟨fI, fd, i, ti, hb, G⟩ := T.ini
  exact ps_raise hc tk (pmk_oex (CX := CX0) T.t.ox i ti G hr hb .nil (fun _ _ _ _ _ _ _ z => z.elim) hg T.m ha (by decide) he hpl)
end
end GG


namespace GG
open PySem PySem.Spec PyProof.Rows L2
abbrev sCK : Stmt := topS 23
abbrev sPlain : Stmt := topS 25
def okK : PyData → Bool
  | .int i => decide (1 ≤ i) && decide (i ≤ 3)
  | _ => false
def spCK (CN : Addr) : Sp := fun vs H Q E => ∃ v d, vs = [v] ∧ Da H v d ∧ (okK d = true → Q .non H) ∧ (okK d = false → ∀ dd H', H' dd = some (.xd [("number", v), ("what", .str "kinds")]) → Same H H' → E (.ref CN) (some dd) H')
def kOf (d : PyData) : NestedKey := .tup [.num (ratOf d).1, .num (ratOf d).2]
def spToldR : Sp := fun vs H Q _ => ∃ v d ds, vs = [v] ∧ Da H v d ∧ seqOf d = some ds ∧ smallS d ∧ (∀ x ∈ ds, isR x = true) ∧ ∀ p xs H', H' p = some (.tup xs) → NKs H' xs (ds.map kOf) → Same H H' → Q (.ref p) H'
section
variable {P : Program} {w : World} {K : PySem.W.Frag} {mg : Str → Option Value} {base : Heap}
theorem scCK : FnScope ["kinds"] ["kinds"] (defScope sCK) := ⟨rfl, rfl, rfl, by decide +kernel, rfl, by decide +kernel, by decide +kernel⟩
theorem kn_ck {CN : Addr} (D : DefIs K mg "check_kinds" sCK) (N : BNTxt P w K mg base CN) (BW : Kn P w K mg base "is_whole" 1 ["value"] spWhole) : KnX P w K mg base "check_kinds" 3 ["kinds"] (spCK CN) := by
  refine .of D (fun _ _ _ _ _ _ us hl => match us, hl with | [_], _ => rfl) fun _ _ F => ?_
  refine F.okX scCK (fun vs H Q E h => ?_) (fun cdv A outer s H vs Q E hr h => ?_)
  · obtain ⟨v, d, rfl, _⟩ := h
    rfl
  · obtain ⟨v, d, rfl, da, kQ, kE⟩ := h
    have hr1 : Room 1 _ := hr.mono (by decide)
    refine ⟨_, pss_one (ps_if (PW.pt (pw_or (pt_not (pt_val (pe_kn BW hr1 (pa_cons (pv 0) pa_nil)))) (pw_or1 (pt_not (pt_chain op_le op_le pe_int (pv 0) pe_int)))))
      (pss_one (ps_raiseBN rfl N hr (takes_of rfl rfl rfl rfl) (pa_cons pe_str (pa_cons (pv 0) pa_nil)))) pss_nil), ?_⟩
    refine ⟨_, rfl, v, d, rfl, da, _, rfl, ?_⟩
    cases hw : isW d with
    | false =>
      refine iteT ?_
      have z : okK d = false := by cases d <;> first | rfl | cases hw
      exact ⟨_, rfl, raiseBN fun dd H' e S' => kE z dd H' e S'⟩
    | true =>
      refine iteF ?_
      cases d with
      | int i =>
        cases da
        have e : okK (.int i) = (decide (1 ≤ i) && decide (i ≤ 3)) := rfl
        refine ⟨_, rfl, _, _, rfl, rfl, _, rfl, ?_⟩
        by_cases h1 : (1 : Int) ≤ i
        · rw [if_pos (decide_eq_true h1)]
          refine ⟨_, _, rfl, rfl, _, rfl, ?_⟩
          by_cases h3 : i ≤ 3
          · rw [decide_eq_true h3]
            refine iteF ?_
            exact kQ (by rw [e, decide_eq_true h1, decide_eq_true h3]; rfl)
          · rw [decide_eq_false h3]
            refine iteT ?_
            have z : okK (.int i) = false := by rw [e, decide_eq_false h3, Bool.and_false]
            exact ⟨_, rfl, raiseBN fun dd H' e S' => kE z dd H' e S'⟩
        · rw [if_neg (by rw [decide_eq_false h1]; decide)]
          refine ⟨_, rfl, ?_⟩
          refine iteT ?_
          have z : okK (.int i) = false := by rw [e, decide_eq_false h1, Bool.false_and]
          exact ⟨_, rfl, raiseBN fun dd H' e S' => kE z dd H' e S'⟩
      | _ => cases hw
theorem scToldR : FnScope ["row", "item"] ["row"] (defScope sToldR) := ⟨rfl, rfl, rfl, by decide +kernel, rfl, by decide +kernel, by decide +kernel⟩
theorem kn_toldR {CN : Addr} (D : DefIs K mg "told_row" sToldR) (T : RTxt K mg) (B4 : KnX P w K mg base "told" 3 ["value", "what"] (spTold CN)) : Kn P w K mg base "told_row" 4 ["row"] spToldR := by
  refine .of D (fun _ _ _ _ _ _ us hl => match us, hl with | [_], _ => rfl) fun _ _ F => ?_
  refine F.ok scToldR (fun vs H Q E h => ?_) (fun cdv A outer s H vs Q E hr h => ?_)
  · obtain ⟨v, d, ds, rfl, _⟩ := h
    rfl
  · obtain ⟨v, d, ds, rfl, da, hs, sm, ra, k⟩ := h
    refine ⟨_, pss_one (ps_ret (pe_callTy call_tuple_of (by rfl) T.tuple bTuple (pa_cons (pe_lc (own := [("item", 1)]) (g := gName 1) (tt := tYes) rfl scToldR.nd (pi_ei (pv 0)) (blkOk_by (N := ["row", "item"]) (sc := defScope sToldR) (by decide +kernel))
        (fun _ _ _ _ _ => pg_name (i := 1) scToldR.nd rfl (.inl rfl)) (fun _ _ _ _ _ => pts_nil) (fun _ _ _ _ _ => pe_knX B4 hr LamX.takes0 (E := fun _ _ _ => False) (fun _ _ _ _ z => z) (pa_cons (pv 1) (pa_cons pe_str pa_nil)))) pa_nil))), ?_⟩
    unfold smallS at sm
    rw [hs] at sm
    obtain ⟨a, xs, rfl, sq, all, hl⟩ := da.seq2 (K := K) hs
    refine ⟨_, rfl, a, rfl, ?_⟩
    refine lc_ei sq (fun D i H' => Same H H' ∧ ∃ acc, H' D = some (.lst acc) ∧ acc.length = i ∧ NKs H' acc ((ds.take i).map kOf)) (fun D hD => ⟨GG.Same.new (L2.Same.refl H) hD, [], upd_same, rfl, .nil⟩) (fun D hD i H' p => p.1) (fun D hD i x H' hx p => ?_) (fun D hD H' p => ?_)
    · obtain ⟨dx, hdx, dax⟩ := all.get hx
      obtain ⟨S, acc, eD, la, nk⟩ := p
      have mem := List.mem_of_getElem? hdx
      refine ⟨rfl, ?_⟩
      refine ⟨_, rfl, x, .str "ratio", dx, rfl, dax.stay (Same.stay S), sm.2 _ mem, fun _ q H3 e3 S3 => ?_, fun z => absurd ((ra _ mem).symm.trans z) (by decide)⟩
      have eD3 := S3 _ _ eD
      have noT : ∀ ys, H3 D ≠ some (.tup ys) := fun ys z => by
        rw [eD3] at z
        cases z
      refine ⟨acc, eD3, ?_, ?_, acc ++ [.ref q], upd_same, ?_, ?_⟩
      · have l1 : i < xs.length := (List.getElem?_eq_some_iff.mp hx).1
        have := sm.1
        rw [la, sizeLine_eq]
        omega
      · intro b o eb
        rw [upd_ne (ne_of_none eb hD)]
        exact S3 _ _ (S b o eb)
      · rw [List.length_append, la]
        rfl
      · rw [take_snoc hdx, List.map_append, List.map_cons, List.map_nil]
        exact NKs.snoc ((NK.tup e3 (.cons (.int _) (.cons (.int _) .nil))).ext noT) ((nk.same S3).ext noT)
    · obtain ⟨S, acc, eD, la, nk⟩ := p
      rw [hl, List.take_length] at nk
      refine ⟨D, acc, rfl, .inl ⟨.inl (.inl eD), fun l nl => ?_⟩⟩
      have S' := GG.Same.new (o := .tup acc) (L2.Same.refl H') nl
      exact k l acc _ upd_same (nk.same S') (L2.Same.trans S S')
end
end GG


namespace GG
open PySem PySem.Spec PyProof.Rows L2
/-! ### a dict by nested keys, read, also while it is walked -/
structure NDr (P : Program) (w : World) (H : Hp) (d : Addr) (kvs : List NE) : Prop where
  has : Rd H d (.ext (ndP P w d kvs))
  keys : ∀ e ∈ kvs, NK H (.ref e.2.1) e.1 ∧ e.1.depth ≤ 8
  ne : (d == sysModules) = false
theorem ND.r {P : Program} {w : World} {H : Hp} {d : Addr} {kvs : List NE} (n : ND P w H d kvs) : NDr P w H d kvs := ⟨.inl n.has, n.keys, n.ne⟩
theorem NDr.same {P : Program} {w : World} {H H' : Hp} {d : Addr} {kvs : List NE} (k : Same H H') (n : NDr P w H d kvs) : NDr P w H' d kvs := by
  refine ⟨?_, fun e he => ⟨(n.keys e he).1.same k, (n.keys e he).2⟩, n.ne⟩
  rcases n.has with h | ⟨o, h⟩
  · exact .inl (k _ _ h)
  · exact .inr ⟨o, k _ _ h⟩
section
variable {X : Cx} {pins : List (Addr × Obj)} {σ : L2.St} {H : Hp} {s : Shared} {d : Addr} {kvs : List NE}
theorem NDr.of (I : Inv X pins σ H s) (n : NDr X.prog X.w H d kvs) : ∃ xs : List (NestedKey × Addr × Value), Paired relE kvs xs ∧ s.heap.DictOfH (nestedKind X.prog X.w) d xs := by
  obtain ⟨⟨xs, r, o, es, ep, h1, h2, h3, h4, h5⟩, _⟩ := (show ObjOk X.prog X.w H s.heap d (.ext _) from n.has.ok I.hok)
  exact ⟨xs, r, o, es, ep, h1, h2, h3, h4, relE_is I r n.keys, h5⟩
/-- d[k], k there -/
def tNSub (P : Program) (w : World) (td ty : TE) : TE := fun σ H Q => td σ H fun x H1 => ty σ H1 fun y H2 => ∃ a kvs k b v, x = .ref a ∧ NDr P w H2 a kvs ∧ y = .ref b ∧ NK H2 (.ref b) k ∧ k.depth ≤ 8 ∧ atN kvs k = some v ∧ Q v H2
theorem pe_nsub {o i : Expr} {pos : Pos} {td ty : TE} (hu : X.A.units + 10 < cLine) (ho : PE X o td) (hi : PE X i ty) (hs : NoSl i) : PE X (.Subscript o i pos) (tNSub X.prog X.w td ty) := by
  refine ⟨fun pins s σ H Q I h => ?_⟩
  refine subD_of PySem.F.slot_dict_getitem.lookup hs (thn (ho.run pins s σ H _ I h) fun u s1 ⟨x, H1, I1, rx, q1⟩ => thn (hi.run pins s1 σ H1 _ I1 q1) fun iv s2 ⟨y, H2, I2, ry, a, kvs, k, b, v, ex, n, ey, nk, dk, hv, q2⟩ => ?_)
  subst ex ey
  obtain rfl : u = Value.ref a := rx
  obtain rfl : iv = Value.ref b := ry
  obtain ⟨xs, rel, dd⟩ := NDr.of I2 n
  have r := relE_val rel k
  rw [hv] at r
  obtain ⟨u', hu', ru⟩ := RelO.some_of r
  obtain ⟨p, hp, rfl⟩ := Option.map_eq_some_iff.mp hu'
  exact ⟨dd.typeIs, wpAny_getItem_heap (knd := nestedKind X.prog X.w) (by show X.A.units + 1 + 8 < cLine; omega) ⟨nk.is I2 rfl, dk⟩ dd hp ⟨v, H2, I2.tok _, ru, q2⟩⟩
end
/-! ### its keys, one by one -/
def ItN (P : Program) (w : World) (d : Addr) (o : Obj) (kvs : List NE) : It :=
  ⟨fun i H => H d = some (.frz o (.ext (ndP P w d kvs))) ∧ i < kvs.length, fun i H x H' => H' = H ∧ ∃ e, kvs[i]? = some e ∧ x = .ref e.2.1, fun i H => H d = some (.frz o (.ext (ndP P w d kvs))) ∧ kvs.length ≤ i⟩
theorem relE_get {kvs : List NE} {xs : List (NestedKey × Addr × Value)} (r : Paired relE kvs xs) : ∀ {i : Nat} {e : NE}, kvs[i]? = some e → ∃ b, xs[i]? = some b ∧ relE e b := fun h => paired_get r h
theorem Inv.frzN {X : Cx} {pins : List (Addr × Obj)} {σ : L2.St} {H : Hp} {s : Shared} {d : Addr} {o : Obj} {kvs : List NE} (I : Inv X pins σ H s) (h : H d = some (.frz o (.ext (ndP X.prog X.w d kvs)))) :
    s.heap.get? d = some o ∧ o.ExactDict ∧ ∃ (es : Array DictEntry) (ep : Nat), o.data = .dict es ep ∧ es.size = kvs.length ∧
      ∀ (i : Nat) (e : NE), kvs[i]? = some e → ∃ en : DictEntry, es[i]? = some en ∧ en.key = .ref e.2.1 := by
  obtain ⟨hd, ⟨xs, pr, o', es, ep, ho, hx, hdt, he, _⟩, _⟩ := (show ObjOk X.prog X.w H s.heap d (.frz o (.ext _)) from I.hok d _ h)
  rw [hd] at ho
  cases ho
  refine ⟨hd, hx, es, ep, hdt, ?_, fun i e hi => ?_⟩
  · have l1 : es.size = xs.length := size_of_entries he
    have l2 : kvs.length = xs.length := Paired.length pr
    omega
  · obtain ⟨b, hb, e1, e2, _⟩ := relE_get pr hi
    have q := entry_at he i
    rw [hb] at q
    exact ⟨_, q, by rw [e2]; rfl⟩
theorem turn_keysN {P : Program} {w : World} {K : PySem.W.Frag} {tg : Expr} {d : Addr} {o : Obj} {es : Array DictEntry} {ep : Nat} {kvs : List NE} (it : Addr) (hod : o.data = .dict es ep) : Turn P w K tg (ItN P w d o kvs) [it] it (fun i h => h.IsKeyIter it d i kvs.length ep) where
  mem := by simp
  obj := fun i h st b hb => by
    have e : b = it := by simpa using hb
    subst e
    obtain ⟨oi, e, c, dd⟩ := st
    exact ⟨oi, e, fun v z => by rw [dd] at z; cases z⟩
  keep := fun i h h' st k => st.at fun oi e => k it (by simp) oi e
  item := by
    intro X hP hw hK hc i pins s σ H E I hf st hg
    subst hP hw hK
    obtain ⟨hd, hi⟩ := hg
    obtain ⟨f0, f1, f2, f3, f4, f5⟩ := hf it (by simp)
    obtain ⟨hgd, hx, es', ep', hdt, hsz, ent⟩ := Inv.frzN I hd
    obtain ⟨rfl, rfl⟩ := dict_ep hod hdt
    obtain ⟨e0, hkv⟩ : ∃ p, kvs[i]? = some p := ⟨kvs[i], List.getElem?_eq_getElem hi⟩
    obtain ⟨en, hen, hkey⟩ := ent i e0 hkv
    refine next_key_item st hgd hdt hsz hen fun h' st' sb => ?_
    have I1 : Inv X pins σ H { s with heap := h' } := I.turned (t' := s.toks) (fun b ob hb e => (sb.2 b hb).trans e) f0 f1 f3 f4 f5
    obtain ⟨oi, e, c, dd⟩ := id st'
    exact ⟨en.key, rfl, go_of (s := { s with heap := h' }) e c dd (by decide) ⟨.ref e0.2.1, H, I1, hkey, ⟨rfl, e0, hkv, rfl⟩, st', fun b hb => (hf b hb).1⟩⟩
  done := by
    intro X hP hw hK hc i pins s σ H E I hf st hg
    subst hP hw hK
    obtain ⟨hd, hi⟩ := hg
    obtain ⟨f0, f1, f2, f3, f4, f5⟩ := hf it (by simp)
    obtain ⟨hgd, hx, es', ep', hdt, hsz, ent⟩ := Inv.frzN I hd
    obtain ⟨rfl, rfl⟩ := dict_ep hod hdt
    exact next_key_end (I.ok.hd hc) st hgd hdt hsz hi fun h' eb => ⟨rfl, I.turned (t' := s.toks) (fun b ob hb e => eb b ob hb e) f0 f1 f3 f4 f5⟩
  self := fun A i s Q E st h => by
    refine wpAny_pyIter_slot st.typeIs F.slot_dict_keyiterator_iter (wpAny_call_entry F.slot_dict_keyiterator_iter st.typeIs F.entry_dict_keyiterator_iter ?_ (F.args_dict_keyiterator_iter_1 _))
    show wpAny _ _ (ret (.ref it)) _ _ s
    exact wpAny_pure ⟨_, rfl, "dict_keyiterator", _, st.typeIs, F.slot_dict_keyiterator_next.lookup, h⟩
def iKeysN (P : Program) (w : World) (td : TE) : TI := fun σ H R => td σ H fun x H1 => ∃ d o kvs, x = .ref d ∧ (d == sysModules) = false ∧ H1 d = some (.frz o (.ext (ndP P w d kvs))) ∧ R (ItN P w d o kvs) H1
theorem pi_keysN {X : Cx} {tg e : Expr} {td : TE} (he : PE X e td) : PI X tg e (iKeysN X.prog X.w td) := by
  refine ⟨fun pins s σ H R I h => ?_⟩
  refine thn (he.run pins s σ H _ I h) fun u s1 ⟨x, H1, I1, rx, d, o, kvs, ex, ns, hd, q⟩ => ?_
  subst ex
  obtain rfl : u = Value.ref d := rx
  obtain ⟨hgd, hx, es, ep, hdt, hsz, ent⟩ := Inv.frzN I1 hd
  refine iter_keys ns hgd hx hdt (pi_one (tk := s1.toks) I1 _ (turn_keysN _ hdt) ⟨_, Heap.get?_push_size _ rfl, rfl, ?_⟩ q)
  rw [hsz] <;> rfl
/-- a comprehension over them -/
theorem lc_keysN {P : Program} {w : World} {d : Addr} {o : Obj} {kvs : List NE} {g : TG} {tt : TT} {te : TE} {vs : List Nat} {σ : L2.St} {H1 : Hp} {D : Addr} {Qd : Hp → Prop} (Pv : Nat → Hp → Prop) (h0 : Pv 0 (upd H1 D (.lst []))) (hl : ∀ i H, i ≤ kvs.length → Pv i H → H d = some (.frz o (.ext (ndP P w d kvs))))
    (hs : ∀ i e H, kvs[i]? = some e → Pv i H → g (.ref e.2.1) (wipe σ vs) H fun σ2 H2 => wipe σ2 vs = wipe σ vs ∧ tt σ2 H2 fun b H3 =>
      if b = true then te σ2 H3 fun y H4 => ∃ acc, H4 D = some (.lst acc) ∧ acc.length < sizeLine ∧ Pv (i + 1) (upd H4 D (.lst (acc ++ [y]))) else Pv (i + 1) H3) (hd : ∀ H, Pv kvs.length H → Qd H) :
    ∃ W : Nat → Nat → Hp → Prop, (∃ m, W 0 m (upd H1 D (.lst []))) ∧ ∀ i m H, W i m H →
      ((ItN P w d o kvs).stop i H ∧ Qd H) ∨ ((ItN P w d o kvs).go i H ∧ ∃ Nx : Hp → Prop, (∀ H', Nx H' → ∃ m', m' < m ∧ W (i + 1) m' H') ∧ ∀ x H', (ItN P w d o kvs).yld i H x H' → g x (wipe σ vs) H' fun σ2 H2 => wipe σ2 vs = wipe σ vs ∧ tt σ2 H2 fun b H3 =>
        if b = true then te σ2 H3 fun y H4 => ∃ acc, H4 D = some (.lst acc) ∧ acc.length < sizeLine ∧ Nx (upd H4 D (.lst (acc ++ [y]))) else Nx H3) := by
  refine ⟨fun i m H => m = kvs.length - i ∧ i ≤ kvs.length ∧ Pv i H, ⟨kvs.length, by simp, Nat.zero_le _, h0⟩, ?_⟩
  rintro i m H ⟨rfl, hi, p⟩
  have q := hl i H hi p
  by_cases hlt : i < kvs.length
  · refine .inr ⟨⟨q, hlt⟩, Pv (i + 1), fun H' p' => ⟨kvs.length - (i + 1), by omega, rfl, hlt, p'⟩, fun x H' y => ?_⟩
    obtain ⟨e, e0, he, hx⟩ := y
    subst e hx
    exact hs i e0 _ he p
  · have e : i = kvs.length := by omega
    subst e
    exact .inl ⟨⟨q, Nat.le_refl _⟩, hd H p⟩
end GG

namespace GG
open PySem PySem.Spec PyProof.Rows L2
/-! ### rows of numbers, and lists of weights by them -/
abbrev RK := List (Int × Int)
abbrev WL := List (RK × Int)
def rN (r : Int × Int) : NestedKey := .tup [.num r.1, .num r.2]
def keyN (K : RK) : NestedKey := .tup (K.map rN)
theorem rN_inj {a b : Int × Int} (h : rN a = rN b) : a = b := by
  obtain ⟨a1, a2⟩ := a
  obtain ⟨b1, b2⟩ := b
  simp only [rN, NestedKey.tup.injEq, List.cons.injEq, NestedKey.num.injEq, and_true] at h
  exact Prod.ext h.1 h.2
theorem rNs_inj : ∀ {K L : RK}, K.map rN = L.map rN → K = L
  | [], [], _ => rfl
  | [], _ :: _, h => by cases h
  | _ :: _, [], h => by cases h
  | a :: K, b :: L, h => by
    simp only [List.map_cons, List.cons.injEq] at h
    rw [rN_inj h.1, rNs_inj h.2]
theorem keyN_inj {K L : RK} (h : keyN K = keyN L) : K = L := rNs_inj (NestedKey.tup.inj h)
theorem keyN_depth (K : RK) : (keyN K).depth ≤ 8 := by
  have h : ∀ K : RK, NestedKey.depthAll (K.map rN) ≤ 1 := fun K => by
    induction K with
    | nil => simp [NestedKey.depthAll]
    | cons d ds ih =>
      rw [List.map_cons]
      unfold NestedKey.depthAll
      have e : (rN d).depth = 1 := rfl
      rw [e]
      omega
  unfold keyN NestedKey.depth
  have := h K
  omega
def getW (W : WL) (K : RK) : Option Int := (W.find? fun e => decide (e.1 = K)).map (·.2)
def addW (W : WL) (K : RK) (m : Int) : WL := if (getW W K).isSome then W.map (fun e => if e.1 = K then (e.1, (getW W K).getD 0 + m) else e) else W ++ [(K, (getW W K).getD 0 + m)]
def relW (e : NE) (x : RK × Int) : Prop := e.1 = keyN x.1 ∧ e.2.2 = .int x.2
theorem getW_of {kvs : List NE} {W : WL} (r : Paired relW kvs W) (K : RK) : atN kvs (keyN K) = (getW W K).map V.int := by
  induction r with
  | nil => rfl
  | @cons p q ps qs h t ih =>
    obtain ⟨h1, h2⟩ := h
    by_cases e : q.1 = K
    · have e' : p.1 = keyN K := by rw [h1, e]
      have b : atN (p :: ps) (keyN K) = some p.2.2 := by simp [atN, List.find?_cons, e']
      have c : getW (q :: qs) K = some q.2 := by simp [getW, List.find?_cons, e]
      rw [b, c, h2]
      rfl
    · have e' : ¬ p.1 = keyN K := fun z => e (keyN_inj (h1.symm.trans z))
      have b : atN (p :: ps) (keyN K) = atN ps (keyN K) := by simp [atN, List.find?_cons, e']
      have c : getW (q :: qs) K = getW qs K := by simp [getW, List.find?_cons, e]
      rw [b, c, ih]
theorem addW_of {kvs : List NE} {W : WL} (r : Paired relW kvs W) (K : RK) (b : Addr) (m : Int) : Paired relW (putN kvs (keyN K) b (.int ((getW W K).getD 0 + m))) (addW W K m) := by
  have e := getW_of r K
  unfold putN addW
  rw [e, Option.isSome_map]
  by_cases q : (getW W K).isSome = true
  · rw [if_pos q, if_pos q]
    generalize (getW W K).getD 0 + m = z
    clear e q
    induction r with
    | nil => exact .nil
    | @cons p x ps qs h t ih =>
      rw [List.map_cons, List.map_cons]
      refine .cons ?_ ih
      obtain ⟨h1, h2⟩ := h
      by_cases e : x.1 = K
      · rw [if_pos e, if_pos (by rw [h1, e])]
        exact ⟨h1, rfl⟩
      · rw [if_neg e, if_neg (fun z => e (keyN_inj (h1.symm.trans z)))]
        exact ⟨h1, h2⟩
  · rw [if_neg q, if_neg q]
    exact Paired.snoc r ⟨rfl, rfl⟩
def bidOf (d : PyData) : Int × RK := match seqOf d with
  | some [.int m, y] => (match seqOf y with
    | some ds => (m, ds.map ratOf)
    | none => (0, []))
  | _ => (0, [])
def wOf (rd : List PyData) : WL := rd.foldl (fun W d => addW W (bidOf d).2 (bidOf d).1) []
theorem wOf_snoc (rd : List PyData) (d : PyData) : wOf (rd ++ [d]) = addW (wOf rd) (bidOf d).2 (bidOf d).1 := by
  unfold wOf
  rw [List.foldl_append]
  rfl
def wants (K : RK) : Bool := K.any fun r => !decide (V.int r.1 = V.int 0)
def keepW (x : RK × Int) : Bool := (!decide (V.int x.2 = V.int 0)) && wants x.1
theorem kOf_map (ds : List PyData) : ds.map kOf = (ds.map ratOf).map rN := by
  rw [List.map_map]
  rfl
theorem bid_shape' {d : PyData} {n : Int} (h : isBid d n = true) : ∃ m y ds, seqOf d = some [.int m, y] ∧ seqOf y = some ds ∧ (∀ x ∈ ds, isR x = true) ∧ bidOf d = (m, ds.map ratOf) ∧ (ds.length : Int) = n := by
  unfold isBid at h
  split at h
  · rename_i x y e
    rw [Bool.and_eq_true] at h
    obtain ⟨hx, hy⟩ := h
    cases x with
    | int m =>
      unfold areP at hy
      split at hy
      · rename_i ds e2
        rw [Bool.and_eq_true] at hy
        refine ⟨m, y, ds, e, e2, fun x hx => ?_, ?_, of_decide_eq_true hy.1⟩
        · have z := List.all_eq_true.mp hy.2 x hx
          unfold isZ at z
          rw [Bool.and_eq_true] at z
          exact z.1
        · unfold bidOf
          rw [e]
          dsimp only
          rw [e2]
      · cases hy
    | _ => cases hx
  · cases h
/-- the numbers of a row, where they stand -/
theorem NK.row {H : Hp} {p : Addr} {K : RK} (h : NK H (.ref p) (keyN K)) : ∃ xs, H p = some (.tup xs) ∧ xs.length = K.length ∧ ∀ (i : Nat) (r : Int × Int), K[i]? = some r → ∃ q, xs[i]? = some (.ref q) ∧ H q = some (.tup [.int r.1, .int r.2]) := by
  have key : ∀ {xs : List V} {K : RK}, NKs H xs (K.map rN) → xs.length = K.length ∧ ∀ (i : Nat) (r : Int × Int), K[i]? = some r → ∃ q, xs[i]? = some (.ref q) ∧ H q = some (.tup [.int r.1, .int r.2]) := by
    intro xs K
    induction K generalizing xs with
    | nil =>
      intro t
      cases t
      exact ⟨rfl, fun i r e => by cases e⟩
    | cons r0 K ih =>
      intro t
      cases t with
      | cons h1 t1 =>
        obtain ⟨l, all⟩ := ih t1
        refine ⟨by rw [List.length_cons, List.length_cons, l], fun i r e => ?_⟩
        cases i with
        | zero =>
          simp only [List.getElem?_cons_zero, Option.some.injEq] at e
          subst e
          cases h1 with
          | tup e2 t2 =>
            cases t2 with
            | cons a1 t3 =>
              cases t3 with
              | cons a2 t4 =>
                cases t4
                cases a1
                cases a2
                exact ⟨_, rfl, e2⟩
        | succ j =>
          simp only [List.getElem?_cons_succ] at e
          obtain ⟨q, e1, e2⟩ := all j r e
          exact ⟨q, by simpa using e1, e2⟩
  cases h with
  | tup e t => exact ⟨_, e, key t⟩
abbrev sWants : Stmt := topS 26
def spWants : Sp := fun vs H Q _ => ∃ p K, vs = [.ref p] ∧ NK H (.ref p) (keyN K) ∧ K.length ≤ 1000 ∧ ∀ H', Same H H' → Q (.bl (wants K)) H'
theorem bAny : bootBuiltins "any" = some (.builtin "any") := by decide +kernel
section
variable {P : Program} {w : World} {K : PySem.W.Frag} {mg : Str → Option Value} {base : Heap}
theorem scWants : FnScope ["numbers", "number"] ["numbers"] (defScope sWants) := ⟨rfl, rfl, rfl, by decide +kernel, rfl, by decide +kernel, by decide +kernel⟩
theorem kn_wants (D : DefIs K mg "wants_some" sWants) (za : mg "any" = none) : Kn P w K mg base "wants_some" 1 ["numbers"] spWants := by
  refine .of D (fun _ _ _ _ _ _ us hl => match us, hl with | [_], _ => rfl) fun _ _ F => ?_
  refine F.ok scWants (fun vs H Q E h => ?_) (fun cdv A outer s H vs Q E hr h => ?_)
  · obtain ⟨p, K, rfl, _⟩ := h
    rfl
  · obtain ⟨p, R, rfl, nk, l9, k⟩ := h
    refine ⟨_, pss_one (ps_ret (pe_callB (cr_any rfl) (by rfl) za bAny (pa_cons (pe_lc (own := [("number", 1)]) (g := gName 1) (tt := tYes) rfl scWants.nd (pi_tup (pv 0)) (blkOk_by (N := ["numbers", "number"]) (sc := defScope sWants) (by decide +kernel))
        (fun _ _ _ _ _ => pg_name (i := 1) scWants.nd rfl (.inl rfl)) (fun _ _ _ _ _ => pts_nil) (fun _ _ _ _ _ => pe_cmpR op_ne (pe_ix (show IxR _ (rIxT K) from ix_tup) (pv 1) pe_int (fun _ _ => rfl)) pe_int (nomark _))) pa_nil))), ?_⟩
    obtain ⟨xs, ex, lx, all⟩ := nk.row
    refine ⟨_, rfl, p, rfl, ⟨_, SqT.of ex⟩, fun D nD => lc_tup (xs := xs) (fun i H' => Same H H' ∧ H' D = some (.lst ((R.take i).map fun r => V.bl (!decide (V.int r.1 = V.int 0))))) ⟨GG.Same.new (L2.Same.refl H) nD, upd_same⟩ (fun i H' _ p => SqT.of (p.1 _ _ ex)) (fun i x H' hx p => ?_) (fun H' p => ?_)⟩
    · obtain ⟨S, eD⟩ := p
      have il : i < xs.length := (List.getElem?_eq_some_iff.mp hx).1
      obtain ⟨r, hr'⟩ : ∃ r, R[i]? = some r := ⟨R[i]'(by omega), List.getElem?_eq_getElem (by omega)⟩
      obtain ⟨q, hq, eq⟩ := all i r hr'
      rw [hx] at hq
      cases hq
      refine ⟨rfl, ?_⟩
      refine ⟨_, rfl, q, _, _, _, rfl, rfl, .inl (.inl (S _ _ eq)), atI_nat (j := 0) rfl, rfl, _, eD, ?_, ?_, ?_⟩
      · rw [List.length_map, List.length_take, sizeLine_eq]
        omega
      · intro b o eb
        rw [upd_ne (ne_of_none eb nD)]
        exact S b o eb
      · rw [upd_same, take_snoc hr', List.map_append, List.map_cons, List.map_nil]
    · obtain ⟨S, eD⟩ := p
      rw [lx, List.take_length] at eD
      refine ⟨D, R.map fun r => !decide (V.int r.1 = V.int 0), rfl, .inl (.inl (by rw [eD, List.map_map]; rfl)), ?_⟩
      have e : (R.map fun r => !decide (V.int r.1 = V.int 0)).any id = wants R := by
        unfold wants
        rw [List.any_map]
        rfl
      rw [e]
      exact k H' S
end
end GG

namespace GG
open PySem PySem.Spec PyProof.Rows L2
/-! ### lists of rows; common bottoms, scaled numbers -/
/-- the row K of numbers stands at v -/
def RowV (H : Hp) (v : V) (K : RK) : Prop := ∃ b, v = .ref b ∧ NK H v (keyN K)
theorem RowV.same {H H' : Hp} (k : Same H H') {v : V} {K : RK} (h : RowV H v K) : RowV H' v K := by
  obtain ⟨b, rfl, n⟩ := h
  exact ⟨b, rfl, n.same k⟩
theorem rows_same {H H' : Hp} (k : Same H H') {vs : List V} {Ks : List RK} (h : Paired (RowV H) vs Ks) : Paired (RowV H') vs Ks := by
  induction h with
  | nil => exact .nil
  | cons a _ ih => exact .cons (a.same k) ih
theorem paired_at {α β : Type} {G : α → β → Prop} {l₁ : List α} {l₂ : List β} (h : Paired G l₁ l₂) : ∀ {i : Nat} {a : α}, l₁[i]? = some a → ∃ b, l₂[i]? = some b ∧ G a b := by
  induction h with
  | nil => intro i a e; simp at e
  | @cons a b l₁ l₂ r t ih =>
    intro i a' e
    cases i with
    | zero =>
      simp only [List.getElem?_cons_zero, Option.some.injEq] at e
      subst e
      exact ⟨b, rfl, r⟩
    | succ j =>
      simp only [List.getElem?_cons_succ] at e ⊢
      exact ih e
def lcmI (a b : Int) : Int := ((Nat.lcm a.natAbs b.natAbs : Nat) : Int)
def botOf (rs : List (Int × Int)) : Int := rs.foldl (fun b r => lcmI b r.2) 1
abbrev sBot : Stmt := topS 18
abbrev sScaled : Stmt := topS 19
/-- a ratio whose bottom divides N -/
def good2 (N : Nat) (r : Int × Int) : Prop := 0 < r.2 ∧ r.2.natAbs ∣ N ∧ r.1.natAbs < 2 ^ 120
theorem bot_snoc (rs : List (Int × Int)) (r : Int × Int) : botOf (rs ++ [r]) = lcmI (botOf rs) r.2 := by
  unfold botOf
  rw [List.foldl_append]
  rfl
theorem bot_pos {N : Nat} (n0 : 0 < N) {rs : List (Int × Int)} (h : ∀ r ∈ rs, good2 N r) : 0 < botOf rs ∧ (botOf rs).natAbs ∣ N ∧ ∀ r ∈ rs, r.2.natAbs ∣ (botOf rs).natAbs := by
  have key : ∀ (rs : List (Int × Int)) (b : Int), (∀ r ∈ rs, good2 N r) → 0 < b → b.natAbs ∣ N → 0 < rs.foldl (fun b r => lcmI b r.2) b ∧ (rs.foldl (fun b r => lcmI b r.2) b).natAbs ∣ N ∧ b.natAbs ∣ (rs.foldl (fun b r => lcmI b r.2) b).natAbs ∧ ∀ r ∈ rs, r.2.natAbs ∣ (rs.foldl (fun b r => lcmI b r.2) b).natAbs := by
    intro rs
    induction rs with
    | nil => intro b _ h0 h1; exact ⟨h0, h1, Nat.dvd_refl _, fun r hr => nomatch hr⟩
    | cons r rs ih =>
      intro b hg h0 h1
      obtain ⟨g0, g1, _⟩ := hg r List.mem_cons_self
      have p : 0 < Nat.lcm b.natAbs r.2.natAbs := Nat.lcm_pos (by omega) (by omega)
      obtain ⟨z1, z2, z3, z4⟩ := ih (lcmI b r.2) (fun x hx => hg x (List.mem_cons_of_mem _ hx)) (by unfold lcmI; omega) (by unfold lcmI; rw [Int.natAbs_natCast]; exact Nat.lcm_dvd h1 g1)
      rw [List.foldl_cons]
      have e : (lcmI b r.2).natAbs = Nat.lcm b.natAbs r.2.natAbs := Int.natAbs_natCast _
      rw [e] at z3
      refine ⟨z1, z2, Nat.dvd_trans (Nat.dvd_lcm_left _ _) z3, fun x hx => ?_⟩
      rcases List.mem_cons.mp hx with rfl | m
      · exact Nat.dvd_trans (Nat.dvd_lcm_right _ _) z3
      · exact z4 x m
  obtain ⟨a, b, _, c⟩ := key rs 1 h (by decide) (Nat.one_dvd _)
  exact ⟨a, b, c⟩
def rLcm : List V → Hp → VK → Prop := fun vs H Q => ∃ a b : Int, vs = [.int a, .int b] ∧ a.natAbs < 2 ^ 64 ∧ b.natAbs < 2 ^ 64 ∧ Q (.int (lcmI a b)) H
theorem cr_lcm {X : Cx} : CallR X (.builtin "math.lcm") rLcm := by
  intro pins s σ H vs us Q I r h
  obtain ⟨a, b, rfl, ha, hb, q⟩ := h
  obtain ⟨t, u, rfl⟩ := Vals.int2 r
  exact PySem.W.mc_lcm ha hb fun _ => ⟨.int _, H, I.tok _, ⟨_, rfl⟩, q⟩
/-- a ratio stands at v -/
def RatV (H : Hp) (v : V) (r : Int × Int) : Prop := ∃ q, v = .ref q ∧ H q = some (.tup [.int r.1, .int r.2])
def spBot : Sp := fun vs H Q _ => ∃ (a : Addr) (xs : List V) (rs : List (Int × Int)) (N : Nat), vs = [.ref a] ∧ H a = some (.lst xs) ∧ Paired (RatV H) xs rs ∧ 0 < N ∧ N < 2 ^ 60 ∧ (∀ r ∈ rs, good2 N r) ∧ Q (.int (botOf rs)) H
def spScaled : Sp := fun vs H Q _ => ∃ (q : Addr) (r : Int × Int) (b : Int), vs = [.ref q, .int b] ∧ H q = some (.tup [.int r.1, .int r.2]) ∧ 0 < r.2 ∧ r.2.natAbs < 2 ^ 120 ∧ r.1.natAbs < 2 ^ 120 ∧ 0 ≤ b ∧ b.natAbs < 2 ^ 60 ∧ Q (.int (r.1 * (b / r.2))) H
section
variable {P : Program} {w : World} {K : PySem.W.Frag} {mg : Str → Option Value} {base : Heap}
theorem scBot : FnScope ["ratios", "bottom", "ratio"] ["ratios"] (defScope sBot) := ⟨rfl, rfl, rfl, by decide +kernel, rfl, by decide +kernel, by decide +kernel⟩
theorem kn_bot (D : DefIs K mg "common_bottom" sBot) (ml : mg "lcm" = some (.builtin "math.lcm")) : Kn P w K mg base "common_bottom" 1 ["ratios"] spBot := by
  refine .of D (fun _ _ _ _ _ _ us hl => match us, hl with | [_], _ => rfl) fun _ _ F => ?_
  refine F.ok scBot (fun vs H Q E h => ?_) (fun cdv A outer s H vs Q E hr h => ?_)
  · obtain ⟨a, xs, rs, N, rfl, _⟩ := h
    rfl
  · obtain ⟨a, xs, rs, N, rfl, ea, pr, n0, n1, gd, k⟩ := h
    refine ⟨_, pss_cons (ps_set (i := 1) scBot.nd rfl (.inl rfl) pe_int) (pss_cons (ps_for PassesOwn.never rfl (pi_list (pv 0)) (pg_name (i := 2) scBot.nd rfl (.inl rfl))
      (pss_one (ps_set (i := 1) scBot.nd rfl (.inl rfl) (pe_callBfun cr_lcm (by rfl) ml (pa_cons (pv 1) (pa_cons (pe_ix ix_tup (pv 2) pe_int (fun _ _ => rfl)) pa_nil))))))
      (pss_one (ps_ret (pv 1)))), ?_⟩
    have lx : xs.length = rs.length := Paired.length pr
    refine ⟨_, rfl, a, rfl, ⟨_, SqL.of ea⟩, for_list (xs := xs) (fun i σ H' => H' = H ∧ ∃ v2, σ = [some (.ref a), some (.int (botOf (rs.take i))), v2]) ⟨rfl, none, rfl⟩ (fun i σ H' _ p => by rw [p.1]; exact SqL.of ea) (fun i x σ H' hx p => ?_) (fun σ H' p => ?_)⟩
    · obtain ⟨rfl, v2, rfl⟩ := p
      obtain ⟨r, hr', q, rfl, eq⟩ := paired_at pr hx
      have g := gd r (List.mem_of_getElem? hr')
      have b := bot_pos n0 (fun x hx => gd x (List.mem_of_mem_take hx) : ∀ x ∈ rs.take i, good2 N x)
      have l1 := Nat.le_of_dvd n0 b.2.1
      have l2 := Nat.le_of_dvd n0 g.2.1
      have up : (2 : Nat) ^ 60 < 2 ^ 64 := by decide
      refine ⟨_, rfl, _, rfl, q, _, _, _, rfl, rfl, .inl (.inl eq), atI_nat (j := 1) rfl, _, _, rfl, by omega, by omega, ?_⟩
      refine ⟨rfl, some (.ref q), ?_⟩
      rw [take_snoc hr', bot_snoc]
      rfl
    · obtain ⟨rfl, v2, rfl⟩ := p
      rw [lx, List.take_length]
      exact ⟨_, rfl, k⟩
theorem scScaled : FnScope ["ratio", "bottom"] ["ratio", "bottom"] (defScope sScaled) := ⟨rfl, rfl, rfl, by decide +kernel, rfl, by decide +kernel, by decide +kernel⟩
theorem kn_scaled (D : DefIs K mg "scaled" sScaled) : Kn P w K mg base "scaled" 1 ["ratio", "bottom"] spScaled := by
  refine .of D (fun _ _ _ _ _ _ us hl => match us, hl with | [_, _], _ => rfl) fun _ _ F => ?_
  refine F.ok scScaled (fun vs H Q E h => ?_) (fun cdv A outer s H vs Q E hr h => ?_)
  · obtain ⟨q, r, b, rfl, _⟩ := h
    rfl
  · obtain ⟨q, r, b, rfl, eq, r0, r1, r2, b0, b1, k⟩ := h
    refine ⟨_, pss_one (ps_ret (pe_op op_mulW (pe_ix ix_tup (pv 0) pe_int (fun _ _ => rfl)) (pe_op op_fdivW (pv 1) (pe_ix ix_tup (pv 0) pe_int (fun _ _ => rfl))))), ?_⟩
    have dv : CDivW b r.2 := wide_div (b := 120) r0 r1 (by decide) (by decide)
    have lq : (b / r.2).natAbs < 2 ^ 60 := by
      have q1 : 0 ≤ b / r.2 := Int.ediv_nonneg b0 (by omega)
      have q2 : b / r.2 ≤ b := Int.ediv_le_self _ b0
      omega
    refine ⟨_, rfl, q, _, _, _, rfl, rfl, .inl (.inl eq), atI_nat (j := 0) rfl, _, rfl, _, rfl, q, _, _, _, rfl, rfl, .inl (.inl eq), atI_nat (j := 1) rfl, _, _, rfl, rfl, dv, _, _, rfl, rfl, wide_mul (a := 120) (b := 60) r2 lq (by decide) (by decide) (by decide), k⟩
end
end GG

namespace GG
open PySem PySem.Spec PyProof.Rows L2
/-! ### sorted, of data that are alike -/
def rSortedD (K : PySem.W.Frag) : List V → Hp → VK → Prop := fun vs H Q => ∃ (a : Addr) (bs : List (V × PyData)), vs = [.ref a] ∧ SqL K H a (bs.map (·.1)) ∧ (∀ b ∈ bs, Da H b.1 b.2 ∧ noL b.2 = true) ∧ PySem.W.AllAlike (bs.map (·.2)) ∧ PySem.W.Sortable (bs.map (·.2)) ∧ (∀ b ∈ bs, b.2.depth ≤ 8) ∧
  ∀ p, H p = none → Q (.ref p) (upd H p (.lst ((bs.mergeSort (PySem.W.dataLe false (·.2))).map (·.1))))
theorem each_vals {bs : List (V × PyData)} : ∀ {us : List Value}, Vals (bs.map (·.1)) us → PySem.W.EachIs (fun u (b : V × PyData) => RelV b.1 u) us bs := by
  induction bs with
  | nil =>
    intro us r
    cases r
    exact .nil
  | cons b bs ih =>
    intro us r
    cases r with
    | cons r1 r2 => exact .cons r1 (ih r2)
theorem vals_each {bs : List (V × PyData)} : ∀ {us : List Value}, PySem.W.EachIs (fun u (b : V × PyData) => RelV b.1 u) us bs → Vals (bs.map (·.1)) us := by
  induction bs with
  | nil =>
    intro us r
    cases r
    exact .nil
  | cons b bs ih =>
    intro us r
    cases r with
    | cons r1 r2 => exact .cons r1 (ih r2)
theorem each_reads {X : Cx} {pins : List (Addr × Obj)} {σ : L2.St} {H : Hp} {s : Shared} (I : Inv X pins σ H s) {bs : List (V × PyData)} : ∀ {us : List Value}, Vals (bs.map (·.1)) us → (∀ b ∈ bs, Da H b.1 b.2 ∧ noL b.2 = true) → PySem.W.EachIs (fun u (b : V × PyData) => ∃ as, Reads s.heap u b.2 as) us bs := by
  induction bs with
  | nil =>
    intro us r _
    cases r
    exact .nil
  | cons b bs ih =>
    intro us r h
    cases r with
    | cons r1 r2 =>
      obtain ⟨as, q, _⟩ := (h b List.mem_cons_self).1.dt (h b List.mem_cons_self).2 pins σ s _ I r1
      exact .cons ⟨as, q⟩ (ih r2 fun x hx => h x (List.mem_cons_of_mem _ hx))
theorem cr_sortedD {X : Cx} (hu : X.A.units + 12 < cLine) : CallR X (.builtin "sorted") (rSortedD X.K) := by
  intro pins s σ H vs us Q I r h
  obtain ⟨a, bs, rfl, hs, hd, hal, hk, dp, q⟩ := h
  obtain ⟨its, rv, hl, hz⟩ := I.list hs
  obtain ⟨u, rfl, ru⟩ := vals1 r
  obtain rfl : u = Value.ref a := ru
  have hz' : bs.length ≤ sizeLine := by rw [← List.length_map (f := fun b : V × PyData => b.1)]; exact hz
  refine PySem.W.sorted_data (enc := (·.2)) hl.isList (each_vals rv) (each_reads I rv hd) hal hk hz' (fun b hb => by have := dp b hb; omega) fun out ho eo => ?_
  obtain ⟨c, hc⟩ := PyProof.Rows.sortedAll_at s.heap its out.toArray
  have free : H (s.heap.objs.size + 1) = none := I.hok.fresh (Nat.le_succ _)
  refine ⟨.ref (s.heap.objs.size + 1), _, I.laid (t' := s.toks) (a := s.heap.objs.size + 1) (o := .lst ((bs.mergeSort (PySem.W.dataLe false (·.2))).map (·.1))) (fun _ _ => PyProof.Rows.sortedAll_old) (Nat.le_succ _) ⟨?_, out, c, vals_each eo, hc⟩, rfl, q _ free⟩
  rw [List.length_map, List.length_mergeSort]
  exact hz'
end GG

namespace GG
open PySem PySem.Spec PyProof.Rows L2
abbrev sAsc : Stmt := topS 20
def atK (k : Nat) (K : RK) : Int × Int := K.getD k (0, 1)
def botsK (n : Nat) (Ks : List RK) : List Int := (List.range n).map fun k => botOf (Ks.map (atK k))
def scK (Bs : List Int) (K : RK) : List Int := (List.range K.length).map fun k => (atK k K).1 * (Bs.getD k 1 / (atK k K).2)
def dR (r : Int × Int) : PyData := .tuple [.int r.1, .int r.2]
def kD (Bs : List Int) (K : RK) : PyData := .tuple [.tuple ((scK Bs K).map .int), .tuple (K.map dR)]
def ascK (n : Nat) (Ks : List RK) : List RK := Ks.mergeSort (PySem.W.dataLe false (kD (botsK n Ks)))
def spAsc : Sp := fun vs H Q _ => ∃ (a : Addr) (xs : List V) (Ks : List RK) (n N : Nat), vs = [.ref a] ∧ H a = some (.lst xs) ∧ Paired (RowV H) xs Ks ∧ Ks.length ≤ 60 ∧ 1 ≤ n ∧ n ≤ 3 ∧ (∀ K ∈ Ks, K.length = n) ∧ 0 < N ∧ N < 2 ^ 60 ∧ (∀ K ∈ Ks, ∀ r ∈ K, good2 N r) ∧
  ∀ p ys H', H' p = some (.lst ys) → Paired (RowV H') ys (ascK n Ks) → Same H H' → Q (.ref p) H'
theorem RowV.item {H : Hp} {v : V} {K : RK} (h : RowV H v K) : ∃ b xs, v = .ref b ∧ H b = some (.tup xs) ∧ xs.length = K.length ∧ ∀ (i : Nat) (r : Int × Int), K[i]? = some r → ∃ q, xs[i]? = some (.ref q) ∧ H q = some (.tup [.int r.1, .int r.2]) := by
  obtain ⟨b, rfl, n⟩ := h
  obtain ⟨xs, e, l, a⟩ := n.row
  exact ⟨b, xs, rfl, e, l, a⟩
theorem RowV.da {H : Hp} {v : V} {K : RK} (h : RowV H v K) : Da H v (.tuple (K.map dR)) := by
  obtain ⟨b, rfl, n⟩ := h
  have key : ∀ {K : RK} {xs : List V}, NKs H xs (K.map rN) → DaAll H xs (K.map dR) := by
    intro K
    induction K with
    | nil =>
      intro xs t
      cases t
      exact .nil
    | cons r K ih =>
      intro xs t
      cases t with
      | cons h1 t1 =>
        refine .cons ?_ (ih t1)
        cases h1 with
        | tup e2 t2 =>
          cases t2 with
          | cons a1 t3 =>
            cases t3 with
            | cons a2 t4 =>
              cases t4
              cases a1
              cases a2
              exact .tup e2 (.cons (.int _) (.cons (.int _) .nil))
  cases n with
  | tup e t => exact .tup e (key t)
theorem atK_some {K : RK} {k : Nat} (h : k < K.length) : K[k]? = some (atK k K) := by
  unfold atK
  rw [List.getD_eq_getElem?_getD, List.getElem?_eq_getElem h]
  rfl
theorem alike_dR : ∀ K L : RK, K.length = L.length → PySem.W.alikeAll (K.map dR) (L.map dR) = true
  | [], [], _ => by simp [PySem.W.alikeAll]
  | [], _ :: _, h => by cases h
  | _ :: _, [], h => by cases h
  | a :: K, b :: L, h => by
    rw [List.map_cons, List.map_cons, PySem.W.alikeAll, alike_dR K L (by simpa using h)]
    simp [dR, PySem.W.alike, PySem.W.alikeAll]
theorem alike_kD (Bs : List Int) {K L : RK} (h : K.length = L.length) : PySem.W.alike (kD Bs K) (kD Bs L) = true := by
  have h1 := PySem.W.alike_ints (scK Bs K) (scK Bs L)
  have h2 := alike_dR K L h
  simp [kD, PySem.W.alike, PySem.W.alikeAll, h1, h2]
theorem depth_dR (K : RK) : PyData.depthAll (K.map dR) ≤ 1 := by
  induction K with
  | nil => simp [PyData.depthAll]
  | cons r K ih =>
    rw [List.map_cons]
    simp only [PyData.depthAll, dR, PyData.depth]
    omega
theorem noL_ints (xs : List Int) : noLs (xs.map .int) = true := by
  induction xs with
  | nil => simp [noLs]
  | cons x xs ih => simp [noLs, noL]; exact ih
theorem noL_dRs (K : RK) : noLs (K.map dR) = true := by
  induction K with
  | nil => simp [noLs]
  | cons x xs ih => simp [noLs, noL, dR]; exact ih
theorem noL_kD (Bs : List Int) (K : RK) : noL (kD Bs K) = true := by
  simp [kD, noL, noLs, noL_ints, noL_dRs]
theorem depth_kD (Bs : List Int) (K : RK) : (kD Bs K).depth ≤ 8 := by
  have h1 := PySem.W.depth_ints (scK Bs K)
  have h2 := depth_dR K
  simp only [kD, PyData.depth, PyData.depthAll, h1]
  omega
section
variable {P : Program} {w : World} {K : PySem.W.Frag} {mg : Str → Option Value} {base : Heap}
abbrev N6 : List Str := ["rows", "bottoms", "keyed", "k", "row", "_"]
theorem scAsc : FnScope N6 ["rows"] (defScope sAsc) := ⟨rfl, rfl, rfl, by decide +kernel, rfl, by decide +kernel, by decide +kernel⟩
theorem bSorted : bootBuiltins "sorted" = some (.builtin "sorted") := by decide +kernel
/-- a row beside its scaled numbers -/
def KeyV (H : Hp) (Bs : List Int) (v : V) (K : RK) : Prop := ∃ t u b, v = .ref t ∧ H t = some (.tup [.ref u, .ref b]) ∧ H u = some (.tup ((scK Bs K).map V.int)) ∧ RowV H (.ref b) K
theorem KeyV.same {H H' : Hp} {Bs : List Int} (k : Same H H') {v : V} {K : RK} (h : KeyV H Bs v K) : KeyV H' Bs v K := by
  obtain ⟨t, u, b, rfl, e1, e2, r⟩ := h
  exact ⟨t, u, b, rfl, k _ _ e1, k _ _ e2, r.same k⟩
theorem KeyV.da {H : Hp} {Bs : List Int} {v : V} {K : RK} (h : KeyV H Bs v K) : Da H v (kD Bs K) := by
  obtain ⟨t, u, b, rfl, e1, e2, r⟩ := h
  have intz : ∀ ns : List Int, DaAll H (ns.map V.int) (ns.map PyData.int) := fun ns => by
    induction ns with
    | nil => exact .nil
    | cons n ns ih => exact .cons (.int n) ih
  exact .tup e1 (.cons (.tup e2 (intz _)) (.cons r.da .nil))
theorem RowV.put {H : Hp} {D : Addr} {ys : List V} {o : HO} (eD : H D = some (.lst ys)) {v : V} {K : RK} (h : RowV H v K) : RowV (upd H D o) v K := by
  obtain ⟨b, rfl, n⟩ := h
  exact ⟨b, rfl, n.ext (fun xs z => by rw [eD] at z; cases z)⟩
theorem KeyV.put {H : Hp} {Bs : List Int} {D : Addr} {ys : List V} {o : HO} (eD : H D = some (.lst ys)) {v : V} {K : RK} (h : KeyV H Bs v K) : KeyV (upd H D o) Bs v K := by
  obtain ⟨t, u, b, rfl, e1, e2, r⟩ := h
  exact ⟨t, u, b, rfl, by rw [upd_ne (ne_of e1 eD (by intro z; cases z))]; exact e1, by rw [upd_ne (ne_of e2 eD (by intro z; cases z))]; exact e2, r.put eD⟩
def rTupOf (K : PySem.W.Frag) : List V → Hp → VK → Prop := fun xs H Q => ∃ p ys, xs = [.ref p] ∧ ((SqL K H p ys ∧ ∀ l, H l = none → Q (.ref l) (upd H l (.tup ys))) ∨ (SqT K H p ys ∧ Q (.ref p) H))
theorem kn_asc (D : DefIs K mg "ascending" sAsc) (T : RTxt K mg) (zr : mg "range" = none) (zs : mg "sorted" = none) (B : Kn P w K mg base "common_bottom" 1 ["ratios"] spBot) (BS : Kn P w K mg base "scaled" 1 ["ratio", "bottom"] spScaled) : Kn P w K mg base "ascending" 2 ["rows"] spAsc := by
  refine .of D (fun _ _ _ _ _ _ us hl => match us, hl with | [_], _ => rfl) fun fa _ F => ?_
  refine F.ok scAsc (fun vs H Q E h => ?_) (fun cdv A outer s H vs Q E hr h => ?_)
  · obtain ⟨a, xs, Ks, n, N, rfl, _⟩ := h
    rfl
  · obtain ⟨a, xs, Ks, n, N, rfl, ea, pr, l60, n1, n3, ln, N0, N1, gd, k⟩ := h
    have hu12 : (A.deeper (envOfC "ascending" (defScope sAsc) s.heap.objs.size fa cdv)).units + 12 < cLine := by have := hr.un; omega
    refine ⟨_, pss_cons (ps_if (pt_not (pt_truth (pv 0) (by intro _; rfl))) (pss_one (ps_ret (pe_lst pa_nil))) pss_nil)
      (pss_cons (ps_set (i := 1) scAsc.nd rfl (.inr rfl) (pe_lc (own := [("k", 3)]) (g := gName 3) (tt := tYes) rfl scAsc.nd (pi_range1 rfl zr (pa_cons (pe_callB call_len_seq (by rfl) T.len PySem.boot_len (pa_cons (pe_ix ix_list (pv 0) pe_int (fun _ _ => rfl)) pa_nil)) pa_nil)) (blkOk_by (N := N6) (sc := defScope sAsc) (by decide +kernel))
          (fun _ _ _ _ _ => pg_name (i := 3) scAsc.nd rfl (.inr rfl)) (fun _ _ _ _ _ => pts_nil)
          (fun _ _ _ _ _ => pe_kn B hr (pa_cons (pe_lc (own := [("row", 4)]) (wi := iList K (tVar 0)) (g := gName 4) (tt := tYes) (te := tOp (rIxT K) (tVar 4) (tVar 3)) rfl scAsc.nd (pi_list (pv 0)) (blkOk_by (N := N6) (by kernel_rfl))
            (fun _ _ _ _ _ => pg_name (i := 4) scAsc.nd rfl (.inl rfl)) (fun _ _ _ _ _ => pts_nil) (fun _ _ _ _ _ => pe_ix ix_tup (pv 4) (pv 3) (fun _ _ => rfl))) pa_nil))))
      (pss_cons (ps_setLc (i := 2) (own := [("row", 4)]) (g := gName 4) (tt := tYes) rfl scAsc.nd rfl rfl (sw_true rfl rfl rfl (by decide +kernel)) (pi_list (pv 0)) (blkOk_by (N := N6) (sc := defScope sAsc) (by decide +kernel))
          (fun _ _ _ _ _ => pg_name (i := 4) scAsc.nd rfl (.inr rfl)) (fun _ _ _ _ _ => pts_nil)
          (fun _ _ _ _ _ => pe_tup (pa_cons (pe_callTy (show CallR _ _ (rTupOf K) from call_tuple_of) (by rfl) T.tuple bTuple (pa_cons
            (pe_lc (own := [("k", 3)]) (wi := iRng1 (tCons (tCB (Evl.rLenS K) (tCons (tVar 4) tNil)) tNil)) (g := gName 3) (tt := tYes) (te := tCall spScaled [] (fun _ _ _ => False) (tCons (tOp (rIxT K) (tVar 4) (tVar 3)) (tCons (tOp (rIxL K) (tVar 1) (tVar 3)) tNil))) rfl scAsc.nd (pi_range1 rfl zr (pa_cons (pe_callB (show CallR _ _ (Evl.rLenS K) from call_len_seq) (by rfl) T.len PySem.boot_len (pa_cons (pv 4) pa_nil)) pa_nil)) (blkOk_by (N := N6) (by kernel_rfl))
              (fun _ _ _ _ _ => pg_name (i := 3) scAsc.nd rfl (.inl rfl)) (fun _ _ _ _ _ => pts_nil)
              (fun _ _ _ _ _ => pe_kn BS hr (pa_cons (pe_ix ix_tup (pv 4) (pv 3) (fun _ _ => rfl)) (pa_cons (pe_ix ix_list (pv 1) (pv 3) (fun _ _ => rfl)) pa_nil)))) pa_nil)) (pa_cons (pv 4) pa_nil))))
      (pss_one (ps_ret (pe_lc (own := [("_", 5), ("row", 4)]) (g := gTup K 2 (gCons (gName 5) (gCons (gName 4) gNil))) (tt := tYes) rfl scAsc.nd (pi_list (pe_callB (cr_sortedD hu12) (by rfl) zs bSorted (pa_cons (pv 2) pa_nil))) (blkOk_by (N := N6) (sc := defScope sAsc) (by decide +kernel))
          (fun _ _ _ _ _ => pg_tup rfl (pgs_cons (pg_name (i := 5) scAsc.nd rfl (.inl rfl)) (pgs_cons (pg_name (i := 4) scAsc.nd rfl (.inl rfl)) pgs_nil))) (fun _ _ _ _ _ => pts_nil) (fun _ _ _ _ _ => pv 4)))))), ?_⟩
    have lx : xs.length = Ks.length := Paired.length pr
    refine ⟨_, rfl, _, .inl ⟨_, SqL.of ea, rfl⟩, ?_⟩
    cases hk : Ks with
    | nil =>
      have ex : xs = [] := List.eq_nil_of_length_eq_zero (by rw [lx, hk]; rfl)
      subst ex hk
      refine iteT ?_
      refine ⟨(by show 0 ≤ sizeLine; exact Nat.zero_le _), fun L nL => ?_⟩
      refine k L [] _ upd_same ?_ (GG.Same.new (L2.Same.refl H) nL)
      have e : ascK n [] = [] := by unfold ascK; rw [List.mergeSort_nil]
      rw [e]
      exact .nil
    | cons K0 Kr =>
      obtain ⟨x0, xr, ex⟩ : ∃ x0 xr, xs = x0 :: xr := by
        cases xs with
        | nil => rw [hk] at lx; cases lx
        | cons x0 xr => exact ⟨_, _, rfl⟩
      have h0 : xs[0]? = some x0 := by rw [ex]; rfl
      have hK0 : K0.length = n := ln K0 (by rw [hk]; exact List.mem_cons_self)
      have pr0 : RowV H x0 K0 := by
        obtain ⟨b, hb, q⟩ := paired_at pr h0
        rw [hk] at hb
        cases hb
        exact q
      have ne : (!xs.isEmpty) = true := by rw [ex]; rfl
      rw [ne]
      refine iteF ?_
      obtain ⟨b0, ys0, rfl, e0, l0, _⟩ := pr0.item
      refine ⟨_, rfl, a, _, _, .ref b0, rfl, rfl, SqL.of ea, atI_nat (j := 0) h0, b0, ys0, rfl, .inr (.inl (.inl e0)), (ys0.length : Int), rfl, by omega, by omega, fun D nD => ?_⟩
      rw [Int.toNat_natCast, l0, hK0]
      refine lc_range (lo := 0) (n := n) (fun j H' => Same H H' ∧ H' D = some (.lst ((List.range j).map fun k => V.int (botOf (Ks.map (atK k)))))) ⟨GG.Same.new (L2.Same.refl H) nD, upd_same⟩ (fun j H1 hj p => ?_) (fun H1 p => ?_)
      · obtain ⟨S1, eD⟩ := p
        refine ⟨rfl, ?_⟩
        refine ⟨_, rfl, a, rfl, ⟨_, SqL.of (S1 _ _ ea)⟩, fun D2 nD2 => ?_⟩
        refine lc_list (xs := xs) (fun i H' => Same H1 H' ∧ ∃ ys, H' D2 = some (.lst ys) ∧ Paired (RatV H') ys ((Ks.take i).map (atK j))) ⟨GG.Same.new (L2.Same.refl H1) nD2, [], upd_same, .nil⟩ (fun i H' _ p => SqL.of (p.1 _ _ (S1 _ _ ea))) (fun i x H' hx p => ?_) (fun H' p => ?_)
        · obtain ⟨S2, ys, eD2, pq⟩ := p
          obtain ⟨Ki, hKi, rv⟩ := paired_at pr hx
          obtain ⟨b, zs', rfl, eb, lb, all⟩ := rv.item
          have lKi := ln Ki (List.mem_of_getElem? hKi)
          obtain ⟨q, hq, eq⟩ := all j _ (atK_some (k := j) (by omega))
          have S12 := L2.Same.trans S1 S2
          refine ⟨rfl, ?_⟩
          refine ⟨_, rfl, _, rfl, b, _, _, .ref q, rfl, rfl, .inl (.inl (S12 _ _ eb)), ?_, ?_⟩
          · rw [Int.zero_add]
            exact atI_nat hq
          · have ly : ys.length = i := by
              have z := Paired.length pq
              rw [List.length_map, List.length_take] at z
              have := (List.getElem?_eq_some_iff.mp hKi).1
              omega
            refine ⟨ys, eD2, by rw [ly, sizeLine_eq]; have := (List.getElem?_eq_some_iff.mp hx).1; omega, ?_, ys ++ [.ref q], upd_same, ?_⟩
            · intro c o ec
              rw [upd_ne (ne_of_none ec nD2)]
              exact S2 c o ec
            · rw [take_snoc hKi, List.map_append, List.map_cons, List.map_nil]
              have up : ∀ {v r}, RatV H' v r → RatV (upd H' D2 (.lst (ys ++ [.ref q]))) v r := fun {v r} h => by
                obtain ⟨q', rfl, e'⟩ := h
                exact ⟨q', rfl, by rw [upd_ne (ne_of e' eD2 (by intro z; cases z))]; exact e'⟩
              exact Paired.snoc (Paired.mapP pq fun _ _ h => up h) (up ⟨q, rfl, S12 _ _ eq⟩)
        · obtain ⟨S2, ys, eD2, pq⟩ := p
          rw [lx, List.take_length] at pq
          refine ⟨D2, ys, _, N, rfl, eD2, pq, N0, N1, ?_, ?_⟩
          · intro r hr'
            obtain ⟨Ki, hKi, rfl⟩ := List.mem_map.mp hr'
            have lKi := ln Ki hKi
            exact gd Ki hKi _ (List.mem_of_getElem? (atK_some (k := j) (by omega)))
          · refine ⟨_, S2 _ _ eD, by rw [List.length_map, List.length_range, sizeLine_eq]; omega, ?_, ?_⟩
            · intro c o ec
              rw [upd_ne (ne_of_none ec nD)]
              exact S2 c o (S1 c o ec)
            · rw [upd_same, List.range_succ, List.map_append]
              rfl
      · -- keyed
        obtain ⟨S1, eD⟩ := p
        have eB : ((List.range n).map fun k => V.int (botOf (Ks.map (atK k)))) = (botsK n Ks).map V.int := by
          unfold botsK
          rw [List.map_map]
          rfl
        rw [eB] at eD
        have lB : (botsK n Ks).length = n := by unfold botsK; rw [List.length_map, List.length_range]
        have hB : ∀ j, j < n → (botsK n Ks)[j]? = some (botOf (Ks.map (atK j))) ∧ (botsK n Ks).getD j 1 = botOf (Ks.map (atK j)) := fun j hj => by
          have e : (botsK n Ks)[j]? = some (botOf (Ks.map (atK j))) := by
            unfold botsK
            rw [List.getElem?_map, List.getElem?_range hj]
            rfl
          exact ⟨e, by rw [List.getD_eq_getElem?_getD, e]; rfl⟩
        have gB : ∀ j, j < n → 0 < botOf (Ks.map (atK j)) ∧ (botOf (Ks.map (atK j))).natAbs < 2 ^ 60 := fun j hj => by
          have z := bot_pos N0 (rs := Ks.map (atK j)) (fun r hr' => by
            obtain ⟨Ki, hKi, rfl⟩ := List.mem_map.mp hr'
            have lKi := ln Ki hKi
            exact gd Ki hKi _ (List.mem_of_getElem? (atK_some (k := j) (by omega))))
          have := Nat.le_of_dvd N0 z.2.1
          exact ⟨z.1, by omega⟩
        refine ⟨_, rfl, a, rfl, ⟨_, SqL.of (S1 _ _ ea)⟩, fun D3 nD3 => ?_⟩
        refine lc_list (xs := xs) (fun i H' => Same H1 H' ∧ ∃ ts, H' D3 = some (.lst ts) ∧ Paired (KeyV H' (botsK n Ks)) ts (Ks.take i)) ⟨GG.Same.new (L2.Same.refl H1) nD3, [], upd_same, .nil⟩ (fun i H' _ p => SqL.of (p.1 _ _ (S1 _ _ ea))) (fun i x H' hx p => ?_) (fun H' p => ?_)
        · obtain ⟨S2, ts, eD3, pq⟩ := p
          obtain ⟨Ki, hKi, rv⟩ := paired_at pr hx
          have S12 := L2.Same.trans S1 S2
          have rv' := rv.same S12
          have lKi := ln Ki (List.mem_of_getElem? hKi)
          obtain ⟨b, zs', rfl, eb, lb, all⟩ := rv'.item
          refine ⟨rfl, ?_⟩
          refine ⟨_, rfl, b, zs', rfl, .inr (.inl (.inl eb)), (zs'.length : Int), rfl, by omega, by omega, fun D4 nD4 => ?_⟩
          rw [Int.toNat_natCast, lb, lKi]
          refine lc_range (lo := 0) (n := n) (fun j H'' => Same H' H'' ∧ H'' D4 = some (.lst ((List.range j).map fun k => V.int ((atK k Ki).1 * ((botsK n Ks).getD k 1 / (atK k Ki).2))))) ⟨GG.Same.new (L2.Same.refl H') nD4, upd_same⟩ (fun j H'' hj p => ?_) (fun H'' p => ?_)
          · obtain ⟨S3, eD4⟩ := p
            have hr' := atK_some (K := Ki) (k := j) (by omega)
            obtain ⟨q, hq, eq⟩ := all j _ hr'
            have g := gd Ki (List.mem_of_getElem? hKi) _ (List.mem_of_getElem? hr')
            have l2 := Nat.le_of_dvd N0 g.2.1
            obtain ⟨hB1, hB2⟩ := hB j hj
            obtain ⟨gB1, gB2⟩ := gB j hj
            refine ⟨rfl, ?_⟩
            refine ⟨_, rfl, _, rfl, b, _, _, .ref q, rfl, rfl, .inl (.inl (S3 _ _ eb)), (by rw [Int.zero_add]; exact atI_nat hq), _, rfl, _, rfl, D, _, _, .int (botOf (Ks.map (atK j))), rfl, rfl, SqL.of (S3 _ _ (S2 _ _ eD)), ?_, ?_⟩
            · rw [Int.zero_add]
              exact atI_nat (by rw [List.getElem?_map, hB1]; rfl)
            · have up : (2 : Nat) ^ 60 < 2 ^ 120 := by decide
              refine ⟨q, atK j Ki, _, rfl, S3 _ _ eq, g.1, by omega, g.2.2, by omega, gB2, _, eD4, by rw [List.length_map, List.length_range, sizeLine_eq]; omega, ?_, ?_⟩
              · intro c o ec
                rw [upd_ne (ne_of_none ec nD4)]
                exact S3 c o ec
              · rw [upd_same, List.range_succ, List.map_append, List.map_cons, List.map_nil, hB2]
          · obtain ⟨S3, eD4⟩ := p
            have esc : ((List.range n).map fun k => V.int ((atK k Ki).1 * ((botsK n Ks).getD k 1 / (atK k Ki).2))) = (scK (botsK n Ks) Ki).map V.int := by
              unfold scK
              rw [List.map_map, lKi]
              rfl
            rw [esc] at eD4
            refine ⟨D4, _, rfl, .inl ⟨SqL.of eD4, fun u nu => ?_⟩⟩
            have S4 := GG.Same.new (L2.Same.refl H'') nu (o := .tup ((scK (botsK n Ks) Ki).map V.int))
            have eu : (upd H'' u (.tup ((scK (botsK n Ks) Ki).map V.int))) u = some (.tup ((scK (botsK n Ks) Ki).map V.int)) := upd_same
            generalize (upd H'' u (.tup ((scK (botsK n Ks) Ki).map V.int))) = H5 at S4 eu ⊢
            refine ⟨_, rfl, (by show 2 ≤ sizeLine; rw [sizeLine_eq]; decide), fun t nt => ?_⟩
            have S5 := GG.Same.new (L2.Same.refl H5) nt (o := .tup [.ref u, .ref b])
            have et : (upd H5 t (.tup [.ref u, .ref b])) t = some (.tup [.ref u, .ref b]) := upd_same
            generalize (upd H5 t (.tup [.ref u, .ref b])) = H6 at S5 et ⊢
            have S36 := L2.Same.trans S3 (L2.Same.trans S4 S5)
            have eD3' := S36 _ _ eD3
            have lt' : ts.length = i := by
              have z := Paired.length pq
              rw [List.length_take] at z
              have := (List.getElem?_eq_some_iff.mp hKi).1
              omega
            refine ⟨ts, eD3', by rw [lt', sizeLine_eq]; have := (List.getElem?_eq_some_iff.mp hx).1; omega, ?_, ts ++ [.ref t], upd_same, ?_⟩
            · intro c o ec
              rw [upd_ne (ne_of_none ec nD3)]
              exact S36 c o (S2 c o ec)
            · rw [take_snoc hKi]
              exact Paired.snoc (Paired.mapP pq fun _ _ h => (h.same S36).put eD3') (KeyV.put eD3' ⟨t, u, b, rfl, et, S5 _ _ eu, rv'.same S36⟩)
        · obtain ⟨S2, ts, eD3, pq⟩ := p
          rw [lx, List.take_length] at pq
          -- sorted
          have lt' : ts.length = Ks.length := Paired.length pq
          have m1 : ((ts.zip Ks).map fun z => (z.1, kD (botsK n Ks) z.2)).map (·.1) = ts := by
            rw [List.map_map]
            exact List.map_fst_zip (by omega)
          have m2 : (ts.zip Ks).map (·.2) = Ks := List.map_snd_zip (by omega)
          have zall : ∀ z ∈ ts.zip Ks, KeyV H' (botsK n Ks) z.1 z.2 ∧ z.2 ∈ Ks := by
            have key : ∀ (Bs : List Int) {ts : List V} {Ks : List RK}, Paired (KeyV H' Bs) ts Ks → ∀ z ∈ ts.zip Ks, KeyV H' Bs z.1 z.2 ∧ z.2 ∈ Ks := fun Bs {ts Ks} h => by
              induction h with
              | nil => intro z hz; cases hz
              | @cons p q ps qs h1 t ih =>
                intro z hz
                rw [List.zip_cons_cons] at hz
                rcases List.mem_cons.mp hz with rfl | m
                · exact ⟨h1, List.mem_cons_self⟩
                · exact ⟨(ih z m).1, List.mem_cons_of_mem _ (ih z m).2⟩
            exact key _ pq
          have so1 : ((ts.zip Ks).map fun z => (z.1, kD (botsK n Ks) z.2)).mergeSort (PySem.W.dataLe false (·.2)) = ((ts.zip Ks).mergeSort (PySem.W.dataLe false fun z => kD (botsK n Ks) z.2)).map fun z => (z.1, kD (botsK n Ks) z.2) :=
            (List.map_mergeSort (r := PySem.W.dataLe false fun z : V × RK => kD (botsK n Ks) z.2) (s := PySem.W.dataLe false (fun b : V × PyData => b.2)) (f := fun z => (z.1, kD (botsK n Ks) z.2)) (l := ts.zip Ks) fun _ _ _ _ => rfl).symm
          have so2 : ascK n Ks = ((ts.zip Ks).mergeSort (PySem.W.dataLe false fun z => kD (botsK n Ks) z.2)).map (·.2) := by
            have q := List.map_mergeSort (r := PySem.W.dataLe false fun z : V × RK => kD (botsK n Ks) z.2) (s := PySem.W.dataLe false (kD (botsK n Ks))) (f := fun z : V × RK => z.2) (l := ts.zip Ks) (fun _ _ _ _ => rfl)
            rw [m2] at q
            exact q.symm
          refine ⟨_, rfl, D3, (ts.zip Ks).map fun z => (z.1, kD (botsK n Ks) z.2), rfl, by rw [m1]; exact SqL.of eD3, ?_, ?_, ?_, ?_, fun p np => ?_⟩
          · intro b hb
            obtain ⟨z, hz, rfl⟩ := List.mem_map.mp hb
            exact ⟨(zall z hz).1.da, noL_kD _ _⟩
          · intro d hd d' hd'
            obtain ⟨b, hb, rfl⟩ := List.mem_map.mp hd
            obtain ⟨z, hz, rfl⟩ := List.mem_map.mp hb
            obtain ⟨b', hb', rfl⟩ := List.mem_map.mp hd'
            obtain ⟨z', hz', rfl⟩ := List.mem_map.mp hb'
            exact alike_kD _ (by rw [ln _ (zall z hz).2, ln _ (zall z' hz').2])
          · refine .inl fun d hd => ?_
            obtain ⟨b, hb, rfl⟩ := List.mem_map.mp hd
            obtain ⟨z, hz, rfl⟩ := List.mem_map.mp hb
            exact ⟨_, _, rfl⟩
          · intro b hb
            obtain ⟨z, hz, rfl⟩ := List.mem_map.mp hb
            exact depth_kD _ _
          · rw [so1, List.map_map]
            have zall2 : ∀ z ∈ (ts.zip Ks).mergeSort (PySem.W.dataLe false fun z => kD (botsK n Ks) z.2), KeyV H' (botsK n Ks) z.1 z.2 := fun z hz => (zall z (List.mem_mergeSort.mp hz)).1
            have lz : ((ts.zip Ks).mergeSort (PySem.W.dataLe false fun z => kD (botsK n Ks) z.2)).length ≤ 60 := by
              rw [List.length_mergeSort, List.length_zip]
              omega
            generalize (ts.zip Ks).mergeSort (PySem.W.dataLe false fun z => kD (botsK n Ks) z.2) = zz at so2 zall2 lz ⊢
            rw [so2] at k
            have S6 := GG.Same.new (L2.Same.refl H') np (o := .lst (zz.map ((fun x : V × PyData => x.1) ∘ fun z => (z.1, kD (botsK n Ks) z.2))))
            have ep : (upd H' p (.lst (zz.map ((fun x : V × PyData => x.1) ∘ fun z => (z.1, kD (botsK n Ks) z.2))))) p = some (.lst (zz.map (·.1))) := upd_same
            generalize (upd H' p (.lst (zz.map ((fun x : V × PyData => x.1) ∘ fun z => (z.1, kD (botsK n Ks) z.2))))) = H7 at S6 ep ⊢
            refine ⟨p, rfl, ⟨_, SqL.of ep⟩, fun D5 nD5 => ?_⟩
            refine lc_list (xs := zz.map (·.1)) (fun i G => Same H7 G ∧ ∃ ys, G D5 = some (.lst ys) ∧ Paired (RowV G) ys ((zz.take i).map (·.2))) ⟨GG.Same.new (L2.Same.refl H7) nD5, [], upd_same, .nil⟩ (fun i G _ p => SqL.of (p.1 _ _ ep)) (fun i x G hx q => ?_) (fun G q => ?_)
            · obtain ⟨S8, ys, eD5, pq5⟩ := q
              obtain ⟨z, hz, rfl⟩ : ∃ z, zz[i]? = some z ∧ z.1 = x := by
                rw [List.getElem?_map] at hx
                obtain ⟨z, hz, e⟩ := Option.map_eq_some_iff.mp hx
                exact ⟨z, hz, e⟩
              obtain ⟨t, u, b, ez, et, eu, rb⟩ := (zall2 z (List.mem_of_getElem? hz)).same (L2.Same.trans S6 S8)
              refine ⟨t, _, ez, .inl (.inl et), rfl, _, _, rfl, _, _, rfl, rfl, rfl, ?_⟩
              have ly : ys.length = i := by
                have q := Paired.length pq5
                rw [List.length_map, List.length_take] at q
                have := (List.getElem?_eq_some_iff.mp hz).1
                omega
              refine ⟨_, rfl, ys, eD5, by rw [ly, sizeLine_eq]; have := (List.getElem?_eq_some_iff.mp hz).1; omega, ?_, ys ++ [.ref b], upd_same, ?_⟩
              · intro c o ec
                rw [upd_ne (ne_of_none ec nD5)]
                exact S8 c o ec
              · rw [take_snoc hz, List.map_append, List.map_cons, List.map_nil]
                exact Paired.snoc (Paired.mapP pq5 fun _ _ h => h.put eD5) (rb.put eD5)
            · obtain ⟨S8, ys, eD5, pq5⟩ := q
              rw [List.length_map, List.take_length] at pq5
              exact k D5 ys G eD5 pq5 (L2.Same.trans S1 (L2.Same.trans S2 (L2.Same.trans S6 S8)))
end
end GG

namespace GG
open PySem PySem.Spec PyProof.Rows L2
/-! ### the plain list -/
def keptK (W : WL) : List RK := (W.filter keepW).map (·.1)
def plainL (n : Nat) (W : WL) : List (Int × RK) := (ascK n (keptK W)).map fun K => ((getW W K).getD 0, K)
def plainD (n : Nat) (W : WL) : PyData := .tuple ((plainL n W).map fun e => .tuple [.int e.1, .tuple (e.2.map dR)])
def spPlainOk : Sp := fun vs H Q _ => ∃ (n N : Nat) (gv : V) (dv : PyData) (rd : List PyData), vs = [.int (n : Int), gv] ∧ Da H gv dv ∧ seqOf dv = some rd ∧ rd.length ≤ 60 ∧ 1 ≤ n ∧ n ≤ 3 ∧ 0 < N ∧ N < 2 ^ 60 ∧
  (∀ d ∈ rd, isBid d (n : Int) = true ∧ smallBid d ∧ ∀ r ∈ (bidOf d).2, good2 N r) ∧ ∀ p H', Da H' (.ref p) (plainD n (wOf rd)) → Same H H' → Q (.ref p) H'
theorem addW_keys (W : WL) (K : RK) (m : Int) : ∀ e ∈ addW W K m, e.1 = K ∨ ∃ x ∈ W, x.1 = e.1 := by
  intro e he
  unfold addW at he
  split at he
  · obtain ⟨x, hx, rfl⟩ := List.mem_map.mp he
    split
    · exact .inr ⟨x, hx, rfl⟩
    · exact .inr ⟨x, hx, rfl⟩
  · rcases List.mem_append.mp he with q | q
    · exact .inr ⟨e, q, rfl⟩
    · rw [List.mem_singleton.mp q]
      exact .inl rfl
theorem wOf_keys {rd : List PyData} {p : RK → Prop} (h : ∀ d ∈ rd, p (bidOf d).2) : ∀ e ∈ wOf rd, p e.1 := by
  have key : ∀ (rd : List PyData) (W : WL), (∀ d ∈ rd, p (bidOf d).2) → (∀ e ∈ W, p e.1) → ∀ e ∈ rd.foldl (fun W d => addW W (bidOf d).2 (bidOf d).1) W, p e.1 := by
    intro rd
    induction rd with
    | nil => intro W _ h2; exact h2
    | cons d rd ih =>
      intro W h1 h2
      refine ih _ (fun x hx => h1 x (List.mem_cons_of_mem _ hx)) fun e he => ?_
      rcases addW_keys _ _ _ e he with q | ⟨x, hx, q⟩
      · rw [q]
        exact h1 d List.mem_cons_self
      · rw [← q]
        exact h2 x hx
  exact key rd [] h fun e he => nomatch he
theorem getW_none {W : WL} {K : RK} (h : (getW W K).isSome = false) : ∀ x ∈ W, x.1 ≠ K := by
  intro x hx e
  have z : W.find? (fun e => decide (e.1 = K)) = none := by
    unfold getW at h
    cases q : W.find? (fun e => decide (e.1 = K)) with
    | none => rfl
    | some v => rw [q] at h; cases h
  have := List.find?_eq_none.mp z x hx
  exact this (decide_eq_true e)
theorem addW_nodup {W : WL} {K : RK} {m : Int} (h : (W.map (·.1)).Nodup) : ((addW W K m).map (·.1)).Nodup := by
  unfold addW
  split
  · have e : (W.map fun e => if e.1 = K then (e.1, (getW W K).getD 0 + m) else e).map (·.1) = W.map (·.1) := by
      rw [List.map_map]
      refine List.map_congr_left fun x _ => ?_
      show (if x.1 = K then (x.1, (getW W K).getD 0 + m) else x).1 = x.1
      split <;> rfl
    rw [e]
    exact h
  · rename_i z
    rw [List.map_append, List.map_cons, List.map_nil]
    refine List.nodup_append.mpr ⟨h, by simp, fun a ha b hb e => ?_⟩
    rw [List.mem_singleton.mp hb] at e
    obtain ⟨x, hx, q⟩ := List.mem_map.mp ha
    exact getW_none (by cases q : (getW W K).isSome with
      | true => exact absurd q z
      | false => rfl) x hx (q.trans e)
theorem wOf_nodup (rd : List PyData) : ((wOf rd).map (·.1)).Nodup := by
  have key : ∀ (rd : List PyData) (W : WL), (W.map (·.1)).Nodup → ((rd.foldl (fun W d => addW W (bidOf d).2 (bidOf d).1) W).map (·.1)).Nodup := by
    intro rd
    induction rd with
    | nil => intro W h; exact h
    | cons d rd ih => intro W h; exact ih _ (addW_nodup h)
  exact key rd [] List.nodup_nil
theorem addW_len (W : WL) (K : RK) (m : Int) : (addW W K m).length ≤ W.length + 1 := by
  unfold addW
  split
  · rw [List.length_map]
    omega
  · rw [List.length_append]
    exact Nat.le_refl _
theorem wOf_len (rd : List PyData) : (wOf rd).length ≤ rd.length := by
  have key : ∀ (rd : List PyData) (W : WL), (rd.foldl (fun W d => addW W (bidOf d).2 (bidOf d).1) W).length ≤ W.length + rd.length := by
    intro rd
    induction rd with
    | nil => intro W; exact Nat.le_refl _
    | cons d rd ih =>
      intro W
      have h1 := ih (addW W (bidOf d).2 (bidOf d).1)
      have h2 := addW_len W (bidOf d).2 (bidOf d).1
      rw [List.foldl_cons, List.length_cons]
      omega
  have := key rd []
  simpa [wOf] using this
theorem getW_mem {W : WL} (h : (W.map (·.1)).Nodup) {x : RK × Int} (hx : x ∈ W) : getW W x.1 = some x.2 := by
  induction W with
  | nil => cases hx
  | cons y W ih =>
    rw [List.map_cons] at h
    obtain ⟨h1, h2⟩ := List.nodup_cons.mp h
    rcases List.mem_cons.mp hx with rfl | m
    · simp [getW, List.find?_cons]
    · have e : ¬ y.1 = x.1 := fun q => h1 (by rw [q]; exact List.mem_map.mpr ⟨x, m, rfl⟩)
      have := ih h2 m
      unfold getW at this ⊢
      rw [List.find?_cons]
      simp only [e, decide_false]
      exact this
/-- the keys kept, where they stand -/
theorem kept_rows {H : Hp} {kvs : List NE} {W : WL} (r : Paired relW kvs W) (keys : ∀ e ∈ kvs, NK H (.ref e.2.1) e.1 ∧ e.1.depth ≤ 8) : Paired (RowV H) (((kvs.zip W).filter fun z => keepW z.2).map fun z => V.ref z.1.2.1) (keptK W) := by
  unfold keptK
  induction r with
  | nil => exact .nil
  | @cons p q ps qs h t ih =>
    have ih' := ih fun e he => keys e (List.mem_cons_of_mem _ he)
    rw [List.zip_cons_cons, List.filter_cons, List.filter_cons]
    dsimp only
    cases z : keepW q with
    | false =>
      simp only [Bool.false_eq_true, if_false]
      exact ih'
    | true =>
      simp only [if_true]
      rw [List.map_cons, List.map_cons]
      refine .cons ⟨_, rfl, ?_⟩ ih'
      have := (keys p List.mem_cons_self).1
      rw [h.1] at this
      exact this
/-- a row of the plain list stands at v -/
def PlV (H : Hp) (W : WL) (v : V) (L : RK) : Prop := ∃ t b, v = .ref t ∧ H t = some (.tup [.int ((getW W L).getD 0), .ref b]) ∧ RowV H (.ref b) L
theorem PlV.same {H H' : Hp} {W : WL} (k : Same H H') {v : V} {L : RK} (h : PlV H W v L) : PlV H' W v L := by
  obtain ⟨t, b, rfl, e, r⟩ := h
  exact ⟨t, b, rfl, k _ _ e, r.same k⟩
theorem PlV.put {H : Hp} {W : WL} {D : Addr} {ys : List V} {o : HO} (eD : H D = some (.lst ys)) {v : V} {L : RK} (h : PlV H W v L) : PlV (upd H D o) W v L := by
  obtain ⟨t, b, rfl, e, r⟩ := h
  exact ⟨t, b, rfl, by rw [upd_ne (ne_of e eD (by intro z; cases z))]; exact e, r.put eD⟩
theorem pl_all {H : Hp} {W : WL} {vs : List V} {Ls : List RK} (h : Paired (PlV H W) vs Ls) : DaAll H vs ((Ls.map fun K => ((getW W K).getD 0, K)).map fun e => .tuple [.int e.1, .tuple (e.2.map dR)]) := by
  induction h with
  | nil => exact .nil
  | cons a _ ih =>
    obtain ⟨t, b, rfl, e, r⟩ := a
    exact .cons (.tup e (.cons (.int _) (.cons r.da .nil))) ih
theorem for_ei {K : PySem.W.Frag} {a : Addr} {xs : List V} {g : TG} {tb : TS} {D : Ends} {σ : L2.St} {H : Hp} (Pv : Nat → L2.St → Hp → Prop) (sq : (∀ i σ' H', Pv i σ' H' → SqL K H' a xs) ∨ (∀ i σ' H', Pv i σ' H' → SqT K H' a xs)) (h0 : Pv 0 σ H)
    (hs : ∀ i x σ H, xs[i]? = some x → Pv i σ H → g x σ H fun σ2 H2 => tb { D with nx := Pv (i + 1), ct := Pv (i + 1), bk := D.nx } σ2 H2) (hd : ∀ σ H, Pv xs.length σ H → D.nx σ H) :
    ((∃ ys, SqL K H a ys) ∧ ∃ W : Nat → Nat → L2.St → Hp → Prop, (∃ m, W 0 m σ H) ∧ ∀ i m σ H, W i m σ H →
      ((Itl K a).stop i H ∧ D.nx σ H) ∨ ((Itl K a).go i H ∧ ∃ N : L2.St → Hp → Prop, (∀ σ' H', N σ' H' → ∃ m', m' < m ∧ W (i + 1) m' σ' H') ∧ ∀ x H', (Itl K a).yld i H x H' → g x σ H' fun σ2 H2 => tb { D with nx := N, ct := N, bk := D.nx } σ2 H2)) ∨
    ((∃ ys, SqT K H a ys) ∧ ∃ W : Nat → Nat → L2.St → Hp → Prop, (∃ m, W 0 m σ H) ∧ ∀ i m σ H, W i m σ H →
      ((Itt K a).stop i H ∧ D.nx σ H) ∨ ((Itt K a).go i H ∧ ∃ N : L2.St → Hp → Prop, (∀ σ' H', N σ' H' → ∃ m', m' < m ∧ W (i + 1) m' σ' H') ∧ ∀ x H', (Itt K a).yld i H x H' → g x σ H' fun σ2 H2 => tb { D with nx := N, ct := N, bk := D.nx } σ2 H2)) := by
  rcases sq with q | q
  · exact .inl ⟨⟨_, q _ _ _ h0⟩, for_list Pv h0 (fun i σ' H' _ p => q i σ' H' p) hs hd⟩
  · exact .inr ⟨⟨_, q _ _ _ h0⟩, for_tup Pv h0 (fun i σ' H' _ p => q i σ' H' p) hs hd⟩
section
variable {P : Program} {w : World} {K : PySem.W.Frag} {mg : Str → Option Value} {base : Heap}
abbrev NP : List Str := ["kinds", "rows", "weights", "row", "numbers", "kept"]
theorem scPlain : FnScope NP ["kinds", "rows"] (defScope sPlain) := ⟨rfl, rfl, rfl, by decide +kernel, rfl, by decide +kernel, by decide +kernel⟩
theorem kn_plain {CR : Addr} (D : DefIs K mg "plain_rows" sPlain) (T : RTxt K mg) (R : BRTxt P w K mg base CR) (B : Kn P w K mg base "is_bid" 6 ["row", "kinds"] spBid) (BT : Kn P w K mg base "told_row" 4 ["row"] spToldR) (BW : Kn P w K mg base "wants_some" 1 ["numbers"] spWants) (BA : Kn P w K mg base "ascending" 2 ["rows"] spAsc) :
    KnX P w K mg base "plain_rows" 7 ["kinds", "rows"] spPlainOk := by
  refine .of D (fun _ _ _ _ _ _ us hl => match us, hl with | [_, _], _ => rfl) fun fa fd F => ?_
  refine F.okX scPlain (fun vs H Q E h => ?_) (fun cdv A outer s H vs Q E hr h => ?_)
  · obtain ⟨n, N, gv, dv, rd, rfl, _⟩ := h
    rfl
  · obtain ⟨n, N, gv, dv, rd, rfl, ag, sg, l60, n1, n3, N0, N1, good, k⟩ := h
    have hr1 : Room 1 _ := hr.mono (by decide)
    have hr2 : Room 2 _ := hr.mono (by decide)
    have hr4 : Room 4 _ := hr.mono (by decide)
    have hu10 : (A.deeper (envOfC "plain_rows" (defScope sPlain) s.heap.objs.size fa cdv)).units + 10 < cLine := by have := hr.un; omega
    refine ⟨_, pss_cons (ps_set (i := 2) scPlain.nd rfl (.inr rfl) pe_nnew)
      (pss_cons (ps_for PassesOwn.leaving rfl (pi_ei (pv 1)) (pg_name (i := 3) scPlain.nd rfl (.inl rfl))
        (pss_cons (ps_if (pt_not (pt_val (pe_kn B hr (pa_cons (pv 3) (pa_cons (pv 0) pa_nil))))) (pss_one (ps_raiseBR rfl R hr2 (takes_of rfl rfl rfl rfl) (pa_cons (pv 3) pa_nil))) pss_nil)
        (pss_cons (ps_set (i := 4) scPlain.nd rfl (.inl rfl) (pe_kn BT hr4 (pa_cons (pe_ix ix_any (pv 3) pe_int (fun _ _ => rfl)) pa_nil)))
        (pss_one (ps_nput hu10 (pv 2) (pv 4) (pe_op op_add (pe_nget2 hu10 (pv 2) (pv 4) pe_int ⟨rfl, rfl, rfl, rfl⟩) (pe_ix ix_any (pv 3) pe_int (fun _ _ => rfl))) rfl)))))
      (pss_cons (ps_lock (ps_setLc (i := 5) (own := [("numbers", 4)]) (g := gName 4) rfl scPlain.nd rfl rfl (sw_true rfl rfl rfl (by decide +kernel)) (pi_keysN (pv 2)) (blkOk_by (N := NP) (sc := defScope sPlain) (by decide +kernel))
        (fun _ _ _ _ _ => pg_name (i := 4) scPlain.nd rfl (.inl rfl)) (fun _ _ _ _ _ => pts_one (PW.pt (pw_and (pt_cmpR op_ne (show PE _ _ (tNSub P w (tVar 2) (tVar 4)) from pe_nsub hu10 (pv 2) (pv 4) (fun _ _ => rfl)) pe_int (nomark _)) (pw_and1 (pt_val (pe_kn BW hr1 (pa_cons (pv 4) pa_nil))))))) (fun _ _ _ _ _ => pv 4)))
      (pss_one (ps_ret (pe_callTy call_tuple_of (by rfl) T.tuple bTuple (pa_cons (pe_lc (own := [("numbers", 4)]) (g := gName 4) (tt := tYes) rfl scPlain.nd (pi_list (pe_kn BA hr2 (pa_cons (pv 5) pa_nil))) (blkOk_by (N := NP) (sc := defScope sPlain) (by decide +kernel))
        (fun _ _ _ _ _ => pg_name (i := 4) scPlain.nd rfl (.inl rfl)) (fun _ _ _ _ _ => pts_nil) (fun _ _ _ _ _ => pe_tup (pa_cons (show PE _ _ (tNSub P w (tVar 2) (tVar 4)) from pe_nsub hu10 (pv 2) (pv 4) (fun _ _ => rfl)) (pa_cons (pv 4) pa_nil)))) pa_nil)))))), ?_⟩
    intro wd nwd N00
    have S0 : Same H (upd H wd (.ext (ndP P w wd []))) := GG.Same.new (L2.Same.refl H) nwd
    obtain ⟨ga, gxs, rfl, gsq, gall, gl⟩ := ag.seq2 (K := K) sg
    have goodW : ∀ i, ∀ e ∈ wOf (rd.take i), e.1.length = n ∧ ∀ r ∈ e.1, good2 N r := fun i => wOf_keys (p := fun L => L.length = n ∧ ∀ r ∈ L, good2 N r) fun d hd => by
      have g := good d (List.mem_of_mem_take hd)
      obtain ⟨m, y, ds, s1, s2, ra, eb, ln⟩ := bid_shape' g.1
      refine ⟨?_, g.2.2⟩
      rw [eb, List.length_map]
      omega
    refine ⟨_, rfl, ga, rfl, for_ei (xs := gxs) (fun i σ H' => ∃ (kvs : List NE) (v3 v4 : Option V), σ = [some (.int (n : Int)), some (.ref ga), some (.ref wd), v3, v4, none] ∧ Same H H' ∧ ND P w H' wd kvs ∧ Paired relW kvs (wOf (rd.take i)) ∧ kvs.length ≤ i)
      ?_ ⟨[], none, none, rfl, S0, N00, .nil, Nat.le_refl _⟩ (fun i x σ H' hx p => ?_) (fun σ H' p => ?_)⟩
    · rcases gsq with q | q
      · exact .inl fun i σ' H' p => by
          obtain ⟨_, _, _, _, S, _⟩ := p
          exact SqL.sm S q
      · exact .inr fun i σ' H' p => by
          obtain ⟨_, _, _, _, S, _⟩ := p
          exact SqT.sm S q
    · obtain ⟨kvs, v3, v4, rfl, S, N3, pr, lk⟩ := p
      obtain ⟨d, hd, ad⟩ := gall.get hx
      have g := good d (List.mem_of_getElem? hd)
      obtain ⟨m, y, ds, s1, s2, ra, eb, _⟩ := bid_shape' g.1
      refine ⟨_, rfl, _, rfl, x, d, (n : Int), rfl, ad.stay (Same.stay S), g.2.1, fun H1 S1 => ⟨_, rfl, ?_⟩⟩
      rw [g.1]
      refine iteF ?_
      have S01 := L2.Same.trans S S1
      have ad1 := ad.stay (Same.stay S01)
      have sb := g.2.1
      unfold smallBid at sb
      rw [s1] at sb
      obtain ⟨a, xs, rfl, sq, all, hl⟩ := ad1.seq2 (K := K) s1
      cases all with
      | @cons x0 xs' _ _ a0 all' =>
      cases all' with
      | @cons x1 xs'' _ _ a1 all'' =>
      cases all''
      cases a0
      have ix : ∀ (G : Hp), Same H1 G → ∀ (n : Nat) (x : V), [V.int m, x1][n]? = some x → ∀ (Q' : V → Hp → Prop), Q' x G → (rIxL K (.ref a) (.int (n : Int)) G Q' ∨ rIxT K (.ref a) (.int (n : Int)) G Q') := fun G SG n x hx Q' q => by
        rcases sq with sq | sq
        · exact .inl ⟨a, _, _, x, rfl, rfl, SqL.sm SG sq, atI_nat hx, q⟩
        · exact .inr ⟨a, _, _, x, rfl, rfl, SqT.sm SG sq, atI_nat hx, q⟩
      refine ⟨_, rfl, ix H1 (L2.Same.refl H1) 1 x1 rfl _ ⟨x1, y, ds, rfl, a1, s2, sb, ra, fun p ks H2 e2 nk S2 => ?_⟩⟩
      have N2 := (N3.same S1).same S2
      rw [kOf_map] at nk
      have key : NK H2 (.ref p) (keyN (ds.map ratOf)) := .tup e2 nk
      have dk := keyN_depth (ds.map ratOf)
      refine ⟨_, rfl, wd, rfl, ⟨kvs, N2⟩, _, rfl, kvs, _, p, N2, rfl, key, dk, ?_⟩
      have hz : (atN kvs (keyN (ds.map ratOf))).getD (.int 0) = .int ((getW (wOf (rd.take i)) (ds.map ratOf)).getD 0) := by
        rw [getW_of pr]
        cases getW (wOf (rd.take i)) (ds.map ratOf) <;> rfl
      rw [hz]
      have il : i < 60 := by have := (List.getElem?_eq_some_iff.mp hd).1; omega
      refine ⟨_, rfl, ix H2 S2 0 (.int m) rfl _ ⟨_, _, rfl, rfl, _, rfl, _, rfl, wd, kvs, _, p, rfl, N2, (by rw [sizeLine_eq]; omega), rfl, key, dk, fun N4 => ?_⟩⟩
      refine ⟨_, _, _, rfl, ?_, N4, ?_, Nat.le_trans (putN_len _ _ _ _) (by omega)⟩
      · intro b o e
        rw [upd_ne (ne_of_none e nwd)]
        exact S2 _ _ (S01 b o e)
      · rw [take_snoc hd, wOf_snoc, eb]
        exact addW_of pr (ds.map ratOf) p m
    · obtain ⟨kvs, v3, v4, rfl, S, N3, pr, lk⟩ := p
      have gW := goodW gxs.length
      have nW := wOf_nodup (rd.take gxs.length)
      have lW := wOf_len (rd.take gxs.length)
      rw [gl, List.take_length] at pr gW nW lW
      clear goodW ag gall gsq sg
      generalize hWW : wOf rd = W at pr gW nW lW k
      have lkW : kvs.length = W.length := Paired.length pr
      clear hWW
      -- kept
      refine ⟨wd, _, N3.has, trivial, fun od => ?_⟩
      have nT := N3.noTup
      have keysL : ∀ e ∈ kvs, NK (upd H' wd (.frz od (.ext (ndP P w wd kvs)))) (.ref e.2.1) e.1 ∧ e.1.depth ≤ 8 := fun e he => ⟨(N3.keys e he).1.ext nT, (N3.keys e he).2⟩
      refine ⟨_, rfl, wd, od, kvs, rfl, N3.ne, upd_same, fun D nD => ?_⟩
      refine lc_keysN (fun i G => Same (upd H' wd (.frz od (.ext (ndP P w wd kvs)))) G ∧ G D = some (.lst ((((kvs.zip W).take i).filter fun z => keepW z.2).map fun z => V.ref z.1.2.1))) ⟨GG.Same.new (L2.Same.refl _) nD, upd_same⟩ (fun i G _ p => p.1 _ _ upd_same) (fun i e G he p => ?_) (fun G p => ?_)
      · obtain ⟨S1, eD⟩ := p
        obtain ⟨x, hx, rel⟩ := paired_at pr he
        have hz : (kvs.zip W)[i]? = some (e, x) := by rw [List.getElem?_zip_eq_some]; exact ⟨he, hx⟩
        have nr : NDr P w G wd kvs := ⟨.inr ⟨od, S1 _ _ upd_same⟩, fun e he => ⟨(keysL e he).1.same S1, (keysL e he).2⟩, N3.ne⟩
        have ke := keysL e (List.mem_of_getElem? he)
        have at1 : atN kvs e.1 = some (.int x.2) := by
          rw [rel.1, getW_of pr, getW_mem nW (List.mem_of_getElem? hx)]
          rfl
        have lx := (gW x (List.mem_of_getElem? hx)).1
        have il : i < 60 := by have := (List.getElem?_eq_some_iff.mp hx).1; omega
        refine ⟨rfl, ?_⟩
        refine ⟨_, rfl, _, rfl, wd, kvs, e.1, e.2.1, .int x.2, rfl, nr, rfl, ke.1.same S1, ke.2, at1, rfl, _, rfl, ?_⟩
        have fin : ∀ (b : Bool) (G2 : Hp), b = keepW x → Same G G2 → (if b = true then ∃ v, (wipe [some (V.int (n : Int)), some (.ref ga), some (.ref wd), v3, v4, none] [4] |>.set 4 (some (.ref e.2.1)))[4]? = some (some v) ∧ (∃ acc, G2 D = some (.lst acc) ∧ acc.length < sizeLine ∧ (Same (upd H' wd (.frz od (.ext (ndP P w wd kvs)))) (upd G2 D (.lst (acc ++ [v]))) ∧ (upd G2 D (.lst (acc ++ [v]))) D = some (.lst ((((kvs.zip W).take (i + 1)).filter fun z => keepW z.2).map fun z => V.ref z.1.2.1))))
            else (Same (upd H' wd (.frz od (.ext (ndP P w wd kvs)))) G2 ∧ G2 D = some (.lst ((((kvs.zip W).take (i + 1)).filter fun z => keepW z.2).map fun z => V.ref z.1.2.1)))) := fun b G2 hb S2 => by
          have eD2 := S2 _ _ eD
          rw [take_snoc hz, List.filter_append, List.map_append]
          cases hk : keepW x with
          | false =>
            rw [hb, hk]
            refine iteF ⟨L2.Same.trans S1 S2, ?_⟩
            rw [eD2]
            simp [List.filter_cons, hk]
          | true =>
            rw [hb, hk]
            refine iteT ⟨_, rfl, _, eD2, ?_, ?_, ?_⟩
            · rw [List.length_map, sizeLine_eq]
              have q := List.length_filter_le (fun z : NE × RK × Int => keepW z.2) ((kvs.zip W).take i)
              rw [List.length_take] at q
              omega
            · intro c o ec
              rw [upd_ne (ne_of_none ec nD)]
              exact S2 c o (S1 c o ec)
            · rw [upd_same]
              simp [List.filter_cons, hk]
        cases h1 : !decide (V.int x.2 = V.int 0) with
        | false =>
          refine iteF ?_
          exact fin false G (by unfold keepW; rw [h1]; rfl) (L2.Same.refl G)
        | true =>
          refine iteT ?_
          refine ⟨_, rfl, e.2.1, x.1, rfl, by rw [← rel.1]; exact ke.1.same S1, by omega, fun G2 S2 => ⟨_, rfl, ?_⟩⟩
          exact fin _ G2 (by unfold keepW; rw [h1]; rfl) S2
      · obtain ⟨S1, eD⟩ := p
        have lz : (kvs.zip W).length = kvs.length := by rw [List.length_zip]; omega
        rw [← lz, List.take_length] at eD
        have eG := S1 _ _ upd_same
        refine ⟨eG, ?_⟩
        have S2 : Same H' (upd G wd (.ext (ndP P w wd kvs))) := fun b o e => by
          by_cases q : b = wd
          · rw [q, N3.has] at e
            cases e
            rw [q, upd_same]
          · rw [upd_ne q]
            exact S1 b o (by rw [upd_ne q]; exact e)
        have N5 := N3.same S2
        have Dwd : D ≠ wd := fun q => by
          rw [q, upd_same] at nD
          cases nD
        have eD2 : (upd G wd (.ext (ndP P w wd kvs))) D = _ := (upd_ne Dwd).trans eD
        generalize (upd G wd (.ext (ndP P w wd kvs))) = H2 at S2 N5 eD2 ⊢
        have kr := kept_rows pr N5.keys
        have lK : (keptK W).length ≤ 60 := by
          unfold keptK
          rw [List.length_map]
          have := List.length_filter_le keepW W
          omega
        have mK : ∀ L ∈ keptK W, ∃ x ∈ W, x.1 = L := fun L hL => by
          obtain ⟨x, hx, e⟩ := List.mem_map.mp hL
          exact ⟨x, (List.mem_filter.mp hx).1, e⟩
        refine ⟨_, rfl, D, _, keptK W, n, N, rfl, eD2, kr, lK, n1, n3, fun L hL => ?_, N0, N1, fun L hL => ?_, fun p ys H3 ep pq S3 => ?_⟩
        · obtain ⟨x, hx, rfl⟩ := mK L hL
          exact (gW x hx).1
        · obtain ⟨x, hx, rfl⟩ := mK L hL
          exact (gW x hx).2
        have N6 := N5.same S3
        have mA : ∀ L ∈ ascK n (keptK W), ∃ x ∈ W, x.1 = L := fun L hL => mK L (List.mem_mergeSort.mp hL)
        have lA : (ascK n (keptK W)).length ≤ 60 := by
          unfold ascK
          rw [List.length_mergeSort]
          exact lK
        refine ⟨p, rfl, ⟨_, SqL.of ep⟩, fun D6 nD6 => ?_⟩
        have ly : ys.length = (ascK n (keptK W)).length := Paired.length pq
        refine lc_list (xs := ys) (fun i G => Same H3 G ∧ ∃ ts, G D6 = some (.lst ts) ∧ Paired (PlV G W) ts ((ascK n (keptK W)).take i)) ⟨GG.Same.new (L2.Same.refl H3) nD6, [], upd_same, .nil⟩ (fun i G _ p => SqL.of (p.1 _ _ ep)) (fun i x G hx q => ?_) (fun G q => ?_)
        · obtain ⟨S4, ts, e6, p6⟩ := q
          obtain ⟨L, hL, rv⟩ := paired_at pq hx
          have mL := List.mem_of_getElem? hL
          obtain ⟨xw, hxw, exw⟩ := mA L mL
          have gw := getW_mem nW hxw
          rw [exw] at gw
          obtain ⟨b, rfl, nk⟩ := rv.same S4
          refine ⟨rfl, ?_⟩
          refine ⟨_, rfl, _, rfl, wd, kvs, _, b, .int xw.2, rfl, (N6.same S4).r, rfl, nk, keyN_depth L, by rw [getW_of pr, gw]; rfl, _, rfl, (by show 2 ≤ sizeLine; rw [sizeLine_eq]; decide), fun t nt => ?_⟩
          have S5 := GG.Same.new (L2.Same.refl G) nt (o := .tup [.int xw.2, .ref b])
          have et : (upd G t (.tup [.int xw.2, .ref b])) t = some (.tup [.int xw.2, .ref b]) := upd_same
          generalize (upd G t (.tup [.int xw.2, .ref b])) = G5 at S5 et ⊢
          have e6' := S5 _ _ e6
          have lt' : ts.length = i := by
            have z := Paired.length p6
            rw [List.length_take] at z
            have := (List.getElem?_eq_some_iff.mp hL).1
            omega
          refine ⟨ts, e6', by rw [lt', sizeLine_eq]; have := (List.getElem?_eq_some_iff.mp hL).1; omega, ?_, ts ++ [.ref t], upd_same, ?_⟩
          · intro c o ec
            rw [upd_ne (ne_of_none ec nD6)]
            exact S5 c o (S4 c o ec)
          · rw [take_snoc hL]
            refine Paired.snoc (Paired.mapP p6 fun _ _ h => (h.same S5).put e6') (PlV.put e6' ⟨t, b, rfl, ?_, ⟨b, rfl, nk.same S5⟩⟩)
            rw [gw]
            exact et
        · obtain ⟨S4, ts, e6, p6⟩ := q
          rw [ly, List.take_length] at p6
          refine ⟨D6, _, rfl, .inl ⟨SqL.of e6, fun l nl => ?_⟩⟩
          have S6 := GG.Same.new (L2.Same.refl G) nl (o := .tup ts)
          refine k l _ ?_ (L2.Same.trans S (L2.Same.trans S2 (L2.Same.trans S3 (L2.Same.trans S4 S6))))
          exact .tup upd_same (pl_all (Paired.mapP p6 fun _ _ h => h.same S6))
end
end GG

namespace GG
open PySem PySem.Spec PyProof.Rows L2
/-! ### lists of bids as objects -/
abbrev sInit : Stmt := inClass (topS 22) 0
abbrev sEq : Stmt := inClass (topS 22) 1
mutual
theorem Da.mv {H H' : Hp} (k : ∀ b o, H b = some o → (∀ C dx fs, o ≠ .ins C dx fs) → H' b = some o) : ∀ {v : V} {d : PyData}, Da H v d → Da H' v d
  | _, _, .non => .non
  | _, _, .bl b => .bl b
  | _, _, .int i => .int i
  | _, _, .str x => .str x
  | _, _, .lst e n t => .lst (k _ _ e (fun _ _ _ z => by cases z)) n (t.mv k)
  | _, _, .tup e t => .tup (k _ _ e (fun _ _ _ z => by cases z)) (t.mv k)
  | _, _, .dic e t => .dic (k _ _ e (fun _ _ _ z => by cases z)) (t.mv k)
theorem DaAll.mv {H H' : Hp} (k : ∀ b o, H b = some o → (∀ C dx fs, o ≠ .ins C dx fs) → H' b = some o) : ∀ {vs : List V} {ds : List PyData}, DaAll H vs ds → DaAll H' vs ds
  | _, _, .nil => .nil
  | _, _, .cons h t => .cons (h.mv k) (t.mv k)
end
/-- rows of bids that may be made a list of -/
def RowsOk (n N : Nat) (rd : List PyData) : Prop := rd.length ≤ 60 ∧ 1 ≤ n ∧ n ≤ 3 ∧ 0 < N ∧ N < 2 ^ 60 ∧ ∀ d ∈ rd, isBid d (n : Int) = true ∧ smallBid d ∧ ∀ r ∈ (bidOf d).2, good2 N r
/-- at x stands a list of bids, with its plain list -/
def BidsAt (C : Addr) (H : Hp) (x : Addr) (n : Nat) (d : PyData) : Prop := ∃ dx fs p, H x = some (.ins C dx fs) ∧ fs.lookup ("kinds" : Str) = some (.int (n : Int)) ∧ fs.lookup ("rows" : Str) = some (.ref p) ∧ Da H (.ref p) d
theorem BidsAt.same {C : Addr} {H H' : Hp} {x : Addr} {n : Nat} {d : PyData} (k : Same H H') (h : BidsAt C H x n d) : BidsAt C H' x n d := by
  obtain ⟨dx, fs, p, e, f1, f2, a⟩ := h
  exact ⟨dx, fs, p, k _ _ e, f1, f2, a.stay (Same.stay k)⟩
def spInitOk (C : Addr) : Sp := fun vs H Q _ => ∃ (x dx : Addr) (n N : Nat) (gv : V) (dv : PyData) (rd : List PyData), vs = [.ref x, .int (n : Int), gv] ∧ H x = some (.ins C dx []) ∧ Da H gv dv ∧ seqOf dv = some rd ∧ RowsOk n N rd ∧
  ∀ H', BidsAt C H' x n (plainD n (wOf rd)) → Keep x H H' → Q .non H'
structure BiTxt (P : Program) (w : World) (K : PySem.W.Frag) (mg : Str → Option Value) (base : Heap) (C : Addr) : Prop where
  m : mg "Bids" = some (.ref C)
  cl : Cls K C
  n1 : NoAttr K C "kinds"
  n2 : NoAttr K C "rows"
  ini : ∃ fI fd, Mk K C fI ∧ Binds K fd ["self", "kinds", "rows"] [] ∧ FnOk P w K mg base (L2.CX P w) 8 fI fd ["self", "kinds", "rows"] (spInitOk C)
/-! ### == -/
mutual
def noD : PyData → Bool
  | .none => true
  | .bool _ => true
  | .int _ => true
  | .str _ => true
  | .list ds => noDs ds
  | .tuple ds => noDs ds
  | .dict _ => false
def noDs : List PyData → Bool
  | [] => true
  | d :: ds => noD d && noDs ds
end
mutual
theorem Da.dp {K : PySem.W.Frag} {H : Hp} : ∀ {v : V} {d : PyData}, Da H v d → noD d = true → Dp K H v d
  | _, _, .non, _ => .non
  | _, _, .bl b, _ => .bl b
  | _, _, .int i, _ => .int i
  | _, _, .str x, _ => .str x
  | _, _, .lst e _ t, h => .lst (.inl (.inl e)) (t.dp (by simpa [noD] using h))
  | _, _, .tup e t, h => .tup (.inl (.inl e)) (t.dp (by simpa [noD] using h))
  | _, _, .dic _ _, h => by simp [noD] at h
theorem DaAll.dp {K : PySem.W.Frag} {H : Hp} : ∀ {vs : List V} {ds : List PyData}, DaAll H vs ds → noDs ds = true → DpAll K H vs ds
  | _, _, .nil, _ => .nil
  | _, _, .cons h t, q => by
    simp only [noDs, Bool.and_eq_true] at q
    exact .cons (h.dp q.1) (t.dp q.2)
end
/-- two lists with one plain list -/
def SameB (C : Addr) (a b : Addr) (H : Hp) : Prop := ∃ n d, BidsAt C H a n d ∧ BidsAt C H b n d ∧ SeqAt.shaped d = true ∧ PyData.eqv d d = true ∧ noD d = true
section
variable {P : Program} {w : World} {K : PySem.W.Frag} {mg : Str → Option Value} {base : Heap}
theorem scInit : FnScope ["self", "kinds", "rows"] ["self", "kinds", "rows"] (defScope sInit) := ⟨rfl, rfl, rfl, by decide +kernel, rfl, by decide +kernel, by decide +kernel⟩
theorem putF2 (a b : V) : (putF "rows" b (putF "kinds" a [])).lookup ("kinds" : Str) = some a ∧ (putF "rows" b (putF "kinds" a [])).lookup ("rows" : Str) = some b ∧ (putF "kinds" a []).length < 1000 := ⟨by kernel_rfl, by kernel_rfl, by show 1 < 1000; decide⟩
theorem bi_of {C CN fI : Addr} {fd : FuncData} (m : mg "Bids" = some (.ref C)) (M : Mk K C fI) (cl : Cls K C) (n1 : NoAttr K C "kinds") (n2 : NoAttr K C "rows") (U : Fun K "__init__" "Bids.__init__" sInit fI fd)
    (CK : KnX P w K mg base "check_kinds" 3 ["kinds"] (spCK CN)) (PL : KnX P w K mg base "plain_rows" 7 ["kinds", "rows"] spPlainOk) : BiTxt P w K mg base C := by
  refine ⟨m, cl, n1, n2, fI, fd, M, U.binds fun _ _ _ _ _ _ us hl => match us, hl with | [_, _, _], _ => rfl, ?_⟩
  refine U.okX scInit (fun vs H Q E h => ?_) (fun cdv A outer s H vs Q E hr h => ?_)
  · obtain ⟨x, dx, n, N, gv, dv, rd, rfl, _⟩ := h
    rfl
  · obtain ⟨x, dx, n, N, gv, dv, rd, rfl, ex, ag, sg, ⟨l60, n1', n3, N0, N1, gd⟩, k⟩ := h
    have hr3 : Room 3 _ := hr.mono (by decide)
    refine ⟨_, pss_cons (ps_expr (pe_knX CK hr3 (takes_of rfl rfl rfl rfl) (fun _ _ _ _ z => z) (pa_cons (pv 1) pa_nil)))
      (pss_cons (ps_fld (pv 0) (pv 1) rfl)
      (pss_one (ps_fld (pv 0) (pe_knX PL hr (takes_of rfl rfl rfl rfl) (fun _ _ _ _ z => z) (pa_cons (pv 1) (pa_cons (pv 2) pa_nil))) rfl))), ?_⟩
    have ok : okK (.int (n : Int)) = true := by
      show (decide (1 ≤ (n : Int)) && decide ((n : Int) ≤ 3)) = true
      rw [decide_eq_true (by omega), decide_eq_true (by omega)]
      rfl
    refine ⟨_, rfl, .int (n : Int), .int (n : Int), rfl, .int _, fun _ => ?_, fun z => absurd (ok.symm.trans z) (by decide)⟩
    refine ⟨_, rfl, _, rfl, x, C, dx, [], rfl, ex, cl, n1, (by show 0 < 1000; decide), ?_⟩
    have mv : ∀ b o, H b = some o → (∀ C dx fs, o ≠ .ins C dx fs) → upd H x (.ins C dx (putF "kinds" (.int (n : Int)) [])) b = some o := fun b o q ne => by
      rw [upd_ne (fun z => by
        rw [z, ex] at q
        exact ne _ _ _ (Option.some.inj q).symm)]
      exact q
    refine ⟨_, rfl, _, rfl, n, N, gv, dv, rd, rfl, ag.mv mv, sg, l60, n1', n3, N0, N1, gd, fun p H' dp S => ?_⟩
    have ex' := S _ _ (upd_same (H := H) (a := x) (o := .ins C dx (putF "kinds" (.int (n : Int)) [])))
    obtain ⟨f1, f2, f3⟩ := putF2 (.int (n : Int)) (.ref p)
    refine ⟨_, rfl, x, C, dx, _, rfl, ex', cl, n2, f3, ?_⟩
    refine k _ ⟨dx, _, p, upd_same, f1, f2, dp.mv fun b o q ne => ?_⟩ fun b o nb q => ?_
    · rw [upd_ne (fun z => by
        rw [z, ex'] at q
        exact ne _ _ _ (Option.some.inj q).symm)]
      exact q
    · rw [upd_ne nb]
      exact S b o (by rw [upd_ne nb]; exact q)
/-- what is known of the class for isinstance -/
structure InC (K : PySem.W.Frag) (C : Addr) : Prop where
  ha : PySem.W.findIn K (.ref C) "__class__" = some (some (.builtin "object.__class__"))
  hn : PySem.W.specialIn K (.builtin "object.__class__") "__get__" = some (some (.builtin "getset_descriptor.__get__"))
  htk : PySem.W.takesIn K (.builtin "object.__class__") = some true
  hm : PySem.W.mroIn K C (.type "object") = some true
  kit : PySem.W.kitOne K (.ref C) (.ref C) = some true
theorem scEq : FnScope ["self", "other"] ["self", "other"] (defScope sEq) := ⟨rfl, rfl, rfl, by decide +kernel, rfl, by decide +kernel, by decide +kernel⟩
theorem eq_of {C fE : Addr} {fd : FuncData} (T : RTxt K mg) (m : mg "Bids" = some (.ref C)) (cl : Cls K C) (n1 : NoAttr K C "kinds") (n2 : NoAttr K C "rows") (ic : InC K C) (U : Fun K "__eq__" "Bids.__eq__" sEq fE fd) : FnOk P w K mg base CX0 1 fE fd ["self", "other"] (spEq (SameB C)) := by
  refine U.ok scEq (fun vs H Q E h => ?_) (fun cdv A outer s H vs Q E hr h => ?_)
  · obtain ⟨a, b, rfl, _⟩ := h
    rfl
  · obtain ⟨a, b, rfl, ⟨n, d, ⟨dxa, fsa, pa', ea, ka, ra, da⟩, ⟨dxb, fsb, pb, eb, kb, rb, db⟩, sh, eqv, nd⟩, k⟩ := h
    have hu64 : (A.deeper (envOfC "Bids.__eq__" (defScope sEq) s.heap.objs.size fE cdv)).units + 64 < cLine := by have := hr.un; omega
    refine ⟨_, pss_one (ps_ret (pe_and (pe_callB call_isi (by rfl) T.isi bIsi (pa_cons (pv 1) (pa_cons (pe_glob (v := .ref C) rfl m rfl) pa_nil)))
      (pe_and (pe_cmpR op_eq (pe_fld (pv 0) rfl) (pe_fld (pv 1) rfl) (nomark _)) (pe_one (pe_cmpR (op_eqD hu64) (pe_fld (pv 0) rfl) (pe_fld (pv 1) rfl) (nomark _)))))), ?_⟩
    refine ⟨_, rfl, .ref b, .ref C, .ref C, .ref C, true, rfl, .own C, .base (.ins eb cl ic.ha ic.hn ic.htk ic.hm), ic.kit, _, rfl, iteT ?_⟩
    refine ⟨_, rfl, a, C, dxa, fsa, _, rfl, ea, cl, n1, ka, _, rfl, b, C, dxb, fsb, _, rfl, eb, cl, n1, kb, rfl, _, rfl, ?_⟩
    rw [decide_eq_true rfl]
    refine iteT ?_
    refine ⟨_, rfl, a, C, dxa, fsa, _, rfl, ea, cl, n2, ra, _, rfl, b, C, dxb, fsb, _, rfl, eb, cl, n2, rb, d, d, ?_, ?_, sh, sh, ?_⟩
    · exact da.dp nd
    · exact db.dp nd
    · rw [eqv]
      exact k H (L2.Ext.rfl')
end
/-! ### the plain list, to be shown and compared -/
theorem canLay_dRs (L : RK) : PyData.canLayAll0 (L.map dR) = true := by
  induction L with
  | nil => simp [PyData.canLayAll0]
  | cons r L ih => simp [PyData.canLayAll0, dR, PyData.canLay0, ih]
theorem noD_dRs (L : RK) : noDs (L.map dR) = true := by
  induction L with
  | nil => simp [noDs]
  | cons r L ih => simp [noDs, dR, noD, ih]
def rowD (e : Int × RK) : PyData := .tuple [.int e.1, .tuple (e.2.map dR)]
theorem canLay_rows (es : List (Int × RK)) : PyData.canLayAll0 (es.map rowD) = true := by
  induction es with
  | nil => simp [PyData.canLayAll0]
  | cons e es ih => simp [PyData.canLayAll0, rowD, PyData.canLay0, ih, canLay_dRs]
theorem noD_rows (es : List (Int × RK)) : noDs (es.map rowD) = true := by
  induction es with
  | nil => simp [noDs]
  | cons e es ih => simp [noDs, rowD, noD, ih, noD_dRs]
theorem depth_rows (es : List (Int × RK)) : PyData.depthAll (es.map rowD) ≤ 3 := by
  induction es with
  | nil => simp [PyData.depthAll]
  | cons e es ih =>
    have h := depth_dR e.2
    rw [List.map_cons]
    simp only [PyData.depthAll, rowD, PyData.depth]
    omega
theorem rows_sh (es : List (Int × RK)) : SeqAt.shaped (.tuple (es.map rowD)) = true ∧ noD (.tuple (es.map rowD)) = true := by
  refine ⟨?_, by simp [noD, noD_rows]⟩
  have h1 := canLay_rows es
  have h2 := depth_rows es
  show (PyData.canLay0 _ && decide (PyData.depth _ ≤ 64)) = true
  rw [Bool.and_eq_true]
  refine ⟨by simp [PyData.canLay0, h1], decide_eq_true ?_⟩
  simp only [PyData.depth]
  omega
end GG


namespace GG
open PySem PySem.Spec PyProof.Rows L2
/-! ### the order of rows of ratios -/
def lessR (a b : Int × Int) : Bool := decide (a.1 * b.2 < b.1 * a.2)
def ahead : RK → RK → Bool
  | a :: K, b :: L => if a = b then ahead K L else lessR a b
  | _, _ => false
/-- a row of n ratios in lowest terms, from 0 on, their bottoms dividing N -/
def okR (N : Nat) (r : Int × Int) : Prop := good2 N r ∧ copr r.1 r.2 ∧ 0 ≤ r.1
def okK' (n N : Nat) (K : RK) : Prop := K.length = n ∧ ∀ r ∈ K, okR N r
def sc1 (B : Int) (r : Int × Int) : Int := r.1 * (B / r.2)
theorem sc1_le {B : Int} {a b : Int × Int} (B0 : 0 < B) (a0 : 0 < a.2) (b0 : 0 < b.2) (ha : a.2 ∣ B) (hb : b.2 ∣ B) : (sc1 B a < sc1 B b ↔ a.1 * b.2 < b.1 * a.2) ∧ (sc1 B a = sc1 B b ↔ a.1 * b.2 = b.1 * a.2) := by
  obtain ⟨x, rfl⟩ := ha
  obtain ⟨y, hy⟩ := hb
  have ea : a.2 * x / a.2 = x := Int.mul_ediv_cancel_left _ (by omega)
  have eb : a.2 * x / b.2 = y := by rw [hy]; exact Int.mul_ediv_cancel_left _ (by omega)
  have x0 : 0 < x := by
    rcases Int.lt_trichotomy x 0 with h | h | h
    · have := Int.mul_neg_of_pos_of_neg a0 h
      omega
    · rw [h, Int.mul_zero] at B0
      omega
    · exact h
  have y0 : 0 < y := by
    rw [hy] at B0
    rcases Int.lt_trichotomy y 0 with h | h | h
    · have := Int.mul_neg_of_pos_of_neg b0 h
      omega
    · rw [h, Int.mul_zero] at B0
      omega
    · exact h
  unfold sc1
  rw [ea, eb]
  -- a.1 * x < b.1 * y  iff  a.1 * b.2 < b.1 * a.2, as a.2 * x = b.2 * y
  have k1 : a.1 * x * (a.2 * b.2) = a.1 * b.2 * (a.2 * x) := by
    rw [Int.mul_assoc, Int.mul_assoc]
    congr 1
    rw [Int.mul_comm a.2 b.2, Int.mul_left_comm, Int.mul_comm x a.2]
  have k2 : b.1 * y * (a.2 * b.2) = b.1 * a.2 * (a.2 * x) := by
    rw [hy, Int.mul_assoc, Int.mul_assoc]
    congr 1
    rw [Int.mul_left_comm, Int.mul_comm y b.2]
  have ab : 0 < a.2 * b.2 := Int.mul_pos a0 b0
  constructor
  · constructor
    · intro h
      have := Int.mul_lt_mul_of_pos_right h ab
      rw [k1, k2] at this
      exact Int.lt_of_mul_lt_mul_right this (Int.le_of_lt B0)
    · intro h
      have := Int.mul_lt_mul_of_pos_right h B0
      rw [← k1, ← k2] at this
      exact Int.lt_of_mul_lt_mul_right this (Int.le_of_lt ab)
  · constructor
    · intro h
      have : a.1 * x * (a.2 * b.2) = b.1 * y * (a.2 * b.2) := by rw [h]
      rw [k1, k2] at this
      exact Int.eq_of_mul_eq_mul_right (by omega) this
    · intro h
      have : a.1 * b.2 * (a.2 * x) = b.1 * a.2 * (a.2 * x) := by rw [h]
      rw [← k1, ← k2] at this
      exact Int.eq_of_mul_eq_mul_right (by omega) this
theorem copr_eq {a b : Int × Int} (a0 : 0 < a.2) (b0 : 0 < b.2) (ca : copr a.1 a.2) (cb : copr b.1 b.2) (h : a.1 * b.2 = b.1 * a.2) : a = b := by
  unfold copr at ca cb
  have h1 : a.1.natAbs * b.2.natAbs = b.1.natAbs * a.2.natAbs := by rw [← Int.natAbs_mul, ← Int.natAbs_mul, h]
  have d1 : a.2.natAbs ∣ b.2.natAbs := by
    have : a.2.natAbs ∣ a.1.natAbs * b.2.natAbs := by rw [h1]; exact Nat.dvd_mul_left _ _
    exact (Nat.Coprime.symm ca : Nat.Coprime a.2.natAbs a.1.natAbs).dvd_of_dvd_mul_left this
  have d2 : b.2.natAbs ∣ a.2.natAbs := by
    have : b.2.natAbs ∣ b.1.natAbs * a.2.natAbs := by rw [← h1]; exact Nat.dvd_mul_left _ _
    exact (Nat.Coprime.symm cb : Nat.Coprime b.2.natAbs b.1.natAbs).dvd_of_dvd_mul_left this
  have e2 : a.2 = b.2 := by
    have := Nat.dvd_antisymm d1 d2
    omega
  have e1 : a.1 = b.1 := by
    rw [e2] at h
    exact Int.eq_of_mul_eq_mul_right (by omega) h
  exact Prod.ext e1 e2
theorem ok_dvd {N : Nat} {B : Int} {r : Int × Int} (h : r.2.natAbs ∣ B.natAbs) : r.2 ∣ B := Int.natAbs_dvd_natAbs.mp h
/-- by scaled numbers, whatever the common bottoms are -/
theorem ahead_sc : ∀ {K L : List (Int × Int)} {Bs : List Int}, K.length = L.length → K.length = Bs.length → (∀ (i : Nat) (r : Int × Int) (B : Int), K[i]? = some r → Bs[i]? = some B → 0 < B ∧ 0 < r.2 ∧ r.2 ∣ B ∧ copr r.1 r.2) → (∀ (i : Nat) (r : Int × Int) (B : Int), L[i]? = some r → Bs[i]? = some B → 0 < B ∧ 0 < r.2 ∧ r.2 ∣ B ∧ copr r.1 r.2) →
    (ahead K L = decide (List.zipWith sc1 Bs K < List.zipWith sc1 Bs L)) ∧ (List.zipWith sc1 Bs K = List.zipWith sc1 Bs L → K = L)
  | [], [], Bs, _, _, _, _ => by
    refine ⟨?_, fun _ => rfl⟩
    simp [ahead]
  | [], _ :: _, _, h, _, _, _ => by cases h
  | _ :: _, [], _, h, _, _, _ => by cases h
  | _ :: _, _ :: _, [], _, h, _, _ => by cases h
  | a :: K, b :: L, B :: Bs, h1, h2, ha, hb => by
    obtain ⟨B0, a0, da, ca⟩ := ha 0 a B rfl rfl
    obtain ⟨_, b0, db, cb⟩ := hb 0 b B rfl rfl
    obtain ⟨i1, i2⟩ := ahead_sc (K := K) (L := L) (Bs := Bs) (by simpa using h1) (by simpa using h2) (fun i r B' e e' => ha (i + 1) r B' (by simpa using e) (by simpa using e')) (fun i r B' e e' => hb (i + 1) r B' (by simpa using e) (by simpa using e'))
    obtain ⟨s1, s2⟩ := sc1_le B0 a0 b0 da db
    rw [List.zipWith_cons_cons, List.zipWith_cons_cons]
    refine ⟨?_, fun e => ?_⟩
    · unfold ahead
      by_cases q : a = b
      · rw [if_pos q, i1, q]
        simp [List.cons_lt_cons_iff]
      · rw [if_neg q]
        have ne : ¬ sc1 B a = sc1 B b := fun z => q (copr_eq a0 b0 ca cb (s2.mp z))
        unfold lessR
        simp [List.cons_lt_cons_iff, ne, s1]
    · simp only [List.cons.injEq] at e
      rw [copr_eq a0 b0 ca cb (s2.mp e.1), i2 e.2]
theorem scK_zip {Bs : List Int} {K : RK} (h : K.length = Bs.length) : scK Bs K = List.zipWith sc1 Bs K := by
  apply List.ext_getElem?
  intro i
  unfold scK
  rw [List.getElem?_map, List.getElem?_zipWith]
  by_cases hi : i < K.length
  · rw [List.getElem?_range hi, atK_some hi, List.getElem?_eq_getElem (by omega : i < Bs.length)]
    have e2 : Bs.getD i 1 = Bs[i]'(by omega) := by
      rw [List.getD_eq_getElem?_getD, List.getElem?_eq_getElem (by omega)]
      rfl
    show some ((atK i K).1 * (Bs.getD i 1 / (atK i K).2)) = some (sc1 _ (atK i K))
    rw [e2]
    rfl
  · rw [List.getElem?_eq_none (by rw [List.length_range]; omega), List.getElem?_eq_none (by omega : Bs.length ≤ i)]
    rfl
/-- the sorted ones of a list are one list -/
theorem sorted_one {α : Type} {f : α → α → Bool} (asym : ∀ a b, f a b = true → f b a = true → False) : ∀ {l m : List α}, l.Pairwise (fun a b => f a b = true) → m.Pairwise (fun a b => f a b = true) → (∀ x, x ∈ l ↔ x ∈ m) → l = m
  | [], [], _, _, _ => rfl
  | [], b :: m, _, _, h => absurd ((h b).mpr List.mem_cons_self) List.not_mem_nil
  | a :: l, [], _, _, h => absurd ((h a).mp List.mem_cons_self) List.not_mem_nil
  | a :: l, b :: m, hl, hm, h => by
    obtain ⟨l1, l2⟩ := List.pairwise_cons.mp hl
    obtain ⟨m1, m2⟩ := List.pairwise_cons.mp hm
    have irr : ∀ x, f x x = true → False := fun x q => asym x x q q
    have e : a = b := by
      rcases List.mem_cons.mp ((h a).mp List.mem_cons_self) with q | q
      · exact q
      · rcases List.mem_cons.mp ((h b).mpr List.mem_cons_self) with q' | q'
        · exact q'.symm
        · exact (asym _ _ (m1 a q) (l1 b q')).elim
    subst e
    refine congrArg (a :: ·) (sorted_one asym l2 m2 fun x => ?_)
    constructor
    · intro hx
      rcases List.mem_cons.mp ((h x).mp (List.mem_cons_of_mem _ hx)) with q | q
      · rw [q] at hx
        exact (irr a (l1 a hx)).elim
      · exact q
    · intro hx
      rcases List.mem_cons.mp ((h x).mpr (List.mem_cons_of_mem _ hx)) with q | q
      · rw [q] at hx
        exact (irr a (m1 a hx)).elim
      · exact q
end GG

namespace GG
open PySem PySem.Spec PyProof.Rows L2
/-! ### rows in order -/
def RR (n N : Nat) (K L : RK) : Prop := okK' n N K ∧ okK' n N L ∧ ahead K L = true
def scN (n N : Nat) (K : RK) : List Int := List.zipWith sc1 (List.replicate n (N : Int)) K
theorem okR_at {n N : Nat} (N0 : 0 < N) {K : RK} (h : okK' n N K) : ∀ (i : Nat) (r : Int × Int) (B : Int), K[i]? = some r → (List.replicate n (N : Int))[i]? = some B → 0 < B ∧ 0 < r.2 ∧ r.2 ∣ B ∧ copr r.1 r.2 := by
  intro i r B hr hB
  rw [List.getElem?_replicate] at hB
  split at hB
  · cases hB
    obtain ⟨⟨g1, g2, _⟩, g3, _⟩ := h.2 r (List.mem_of_getElem? hr)
    exact ⟨by omega, g1, Int.natAbs_dvd_natAbs.mp (by rw [Int.natAbs_natCast]; exact g2), g3⟩
  · cases hB
theorem ahead_N {n N : Nat} (N0 : 0 < N) {K L : RK} (hK : okK' n N K) (hL : okK' n N L) : ahead K L = decide (scN n N K < scN n N L) ∧ (scN n N K = scN n N L → K = L) :=
  ahead_sc (by rw [hK.1, hL.1]) (by rw [hK.1, List.length_replicate]) (okR_at N0 hK) (okR_at N0 hL)
theorem RR.asym {n N : Nat} (N0 : 0 < N) {K L : RK} (h : RR n N K L) (h' : RR n N L K) : False := by
  have a := h.2.2
  have b := h'.2.2
  rw [(ahead_N N0 h.1 h.2.1).1] at a
  rw [(ahead_N N0 h.2.1 h.1).1] at b
  exact List.lt_irrefl _ (List.lt_trans (of_decide_eq_true a) (of_decide_eq_true b))
theorem RR.trans {n N : Nat} (N0 : 0 < N) {K L M : RK} (h : RR n N K L) (h' : RR n N L M) : RR n N K M := by
  have a := h.2.2
  have b := h'.2.2
  rw [(ahead_N N0 h.1 h.2.1).1] at a
  rw [(ahead_N N0 h'.1 h'.2.1).1] at b
  refine ⟨h.1, h'.2.1, ?_⟩
  rw [(ahead_N N0 h.1 h'.2.1).1]
  exact decide_eq_true (List.lt_trans (of_decide_eq_true a) (of_decide_eq_true b))
theorem lt_of_not {a b : List Int} (h : ¬ b < a) (ne : a ≠ b) : a < b := by
  rcases List.le_iff_lt_or_eq.mp (List.not_lt.mp h) with q | q
  · exact q
  · exact absurd q ne
theorem RR.total {n N : Nat} (N0 : 0 < N) {K L : RK} (hK : okK' n N K) (hL : okK' n N L) (ne : K ≠ L) (h : ahead K L = false) : RR n N L K := by
  refine ⟨hL, hK, ?_⟩
  rw [(ahead_N N0 hK hL).1] at h
  rw [(ahead_N N0 hL hK).1]
  exact decide_eq_true (lt_of_not (of_decide_eq_false h) fun q => ne ((ahead_N N0 hK hL).2 q.symm))
theorem sorted_R {n N : Nat} (N0 : 0 < N) : ∀ {l m : List RK}, l.Pairwise (RR n N) → m.Pairwise (RR n N) → (∀ x, x ∈ l ↔ x ∈ m) → l = m
  | [], [], _, _, _ => rfl
  | [], b :: m, _, _, h => absurd ((h b).mpr List.mem_cons_self) List.not_mem_nil
  | a :: l, [], _, _, h => absurd ((h a).mp List.mem_cons_self) List.not_mem_nil
  | a :: l, b :: m, hl, hm, h => by
    obtain ⟨l1, l2⟩ := List.pairwise_cons.mp hl
    obtain ⟨m1, m2⟩ := List.pairwise_cons.mp hm
    have irr : ∀ {x}, RR n N x x → False := fun q => q.asym N0 q
    have e : a = b := by
      rcases List.mem_cons.mp ((h a).mp List.mem_cons_self) with q | q
      · exact q
      · rcases List.mem_cons.mp ((h b).mpr List.mem_cons_self) with q' | q'
        · exact q'.symm
        · exact ((m1 a q).asym N0 (l1 b q')).elim
    subst e
    refine congrArg (a :: ·) (sorted_R N0 l2 m2 fun x => ?_)
    constructor
    · intro hx
      rcases List.mem_cons.mp ((h x).mp (List.mem_cons_of_mem _ hx)) with q | q
      · rw [q] at hx
        exact (irr (l1 a hx)).elim
      · exact q
    · intro hx
      rcases List.mem_cons.mp ((h x).mpr (List.mem_cons_of_mem _ hx)) with q | q
      · rw [q] at hx
        exact (irr (m1 a hx)).elim
      · exact q
/-! ### sorted's order -/
theorem eqv_ints : ∀ xs ys : List Int, PyData.eqvAll (xs.map .int) (ys.map .int) = true → xs = ys
  | [], [], _ => rfl
  | [], _ :: _, h => by simp [PyData.eqvAll] at h
  | _ :: _, [], h => by simp [PyData.eqvAll] at h
  | x :: xs, y :: ys, h => by
    simp only [List.map_cons, PyData.eqvAll, PyData.eqv, Bool.and_eq_true, beq_iff_eq] at h
    rw [h.1, eqv_ints xs ys h.2]
theorem asc_pair {n N : Nat} {Bs : List Int} (lB : Bs.length = n) {K L : RK} (hK : okK' n N K) (hL : okK' n N L) (bK : ∀ (i : Nat) (r : Int × Int) (B : Int), K[i]? = some r → Bs[i]? = some B → 0 < B ∧ r.2 ∣ B) (bL : ∀ (i : Nat) (r : Int × Int) (B : Int), L[i]? = some r → Bs[i]? = some B → 0 < B ∧ r.2 ∣ B)
    (le : PySem.W.dataLe false (kD Bs) K L = true) (ne : K ≠ L) : RR n N K L := by
  have up : ∀ {M : RK}, okK' n N M → (∀ (i : Nat) (r : Int × Int) (B : Int), M[i]? = some r → Bs[i]? = some B → 0 < B ∧ r.2 ∣ B) → ∀ (i : Nat) (r : Int × Int) (B : Int), M[i]? = some r → Bs[i]? = some B → 0 < B ∧ 0 < r.2 ∧ r.2 ∣ B ∧ copr r.1 r.2 := fun hM b i r B hr hB => by
    obtain ⟨⟨g1, _, _⟩, g3, _⟩ := hM.2 r (List.mem_of_getElem? hr)
    exact ⟨(b i r B hr hB).1, g1, (b i r B hr hB).2, g3⟩
  obtain ⟨s1, s2⟩ := ahead_sc (K := K) (L := L) (Bs := Bs) (by rw [hK.1, hL.1]) (by rw [hK.1, lB]) (up hK bK) (up hL bL)
  refine ⟨hK, hL, ?_⟩
  rw [s1]
  rw [← scK_zip (by rw [hK.1, lB]), ← scK_zip (by rw [hL.1, lB])] at s2 ⊢
  have ne' : scK Bs K ≠ scK Bs L := fun q => ne (s2 q)
  refine decide_eq_true (lt_of_not (fun q => ?_) ne')
  have e : PySem.W.dataLt (kD Bs L) (kD Bs K) = true := by
    unfold kD
    rw [PySem.W.dataLt_pair (by simp [PySem.W.alike, PySem.W.alike_ints]) (by simp [PySem.W.alike, alike_dR L K (by rw [hK.1, hL.1])])]
    rw [if_neg]
    · rw [PySem.W.dataLt_tuple]
      have := PySem.W.dataLt_ints (scK Bs L) (scK Bs K)
      unfold PySem.W.rowLt at this
      rw [this]
      exact decide_eq_true q
    · intro z
      have z' : PyData.eqvAll ((scK Bs L).map .int) ((scK Bs K).map .int) = true := by simpa [PyData.eqv] using z
      exact ne' (eqv_ints _ _ z').symm
  have le' : (!PySem.W.dataLt (kD Bs L) (kD Bs K)) = true := le
  rw [e] at le'
  cases le'
theorem asc_sorted {n N : Nat} (N0 : 0 < N) {Ks : List RK} (ok : ∀ K ∈ Ks, okK' n N K) (nd : Ks.Nodup) : (ascK n Ks).Pairwise (RR n N) ∧ ∀ K, K ∈ ascK n Ks ↔ K ∈ Ks := by
  have mem : ∀ K, K ∈ ascK n Ks ↔ K ∈ Ks := fun K => List.mem_mergeSort
  refine ⟨?_, mem⟩
  have T : PySem.W.TotalLe (PySem.W.dataLe false (kD (botsK n Ks))) := PySem.W.sortLe_total _ _ _
  have p1 : (ascK n Ks).Pairwise fun a b => PySem.W.dataLe false (kD (botsK n Ks)) a b = true :=
    List.pairwise_mergeSort (le := PySem.W.dataLe false (kD (botsK n Ks))) (fun a b c => T.trans a b c) (fun a b => by
      rcases T.total a b with q | q
      · have q' : PySem.W.dataLe false (kD (botsK n Ks)) a b = true := q
        rw [q']
        rfl
      · have q' : PySem.W.dataLe false (kD (botsK n Ks)) b a = true := q
        rw [q', Bool.or_true]) Ks
  have p2 : (ascK n Ks).Nodup := (List.mergeSort_perm Ks _).nodup_iff.mpr nd
  have lB : (botsK n Ks).length = n := by unfold botsK; rw [List.length_map, List.length_range]
  have bs : ∀ K ∈ Ks, ∀ (i : Nat) (r : Int × Int) (B : Int), K[i]? = some r → (botsK n Ks)[i]? = some B → 0 < B ∧ r.2 ∣ B := fun K hK i r B hr hB => by
    unfold botsK at hB
    rw [List.getElem?_map] at hB
    obtain ⟨j, hj, rfl⟩ := Option.map_eq_some_iff.mp hB
    have hlt : i < n := by
      have := (List.getElem?_eq_some_iff.mp hj).1
      rwa [List.length_range] at this
    rw [List.getElem?_range hlt] at hj
    cases hj
    have z := bot_pos N0 (rs := Ks.map (atK i)) (fun r hr' => by
      obtain ⟨L, hL, rfl⟩ := List.mem_map.mp hr'
      exact ((ok L hL).2 _ (List.mem_of_getElem? (atK_some (k := i) (by rw [(ok L hL).1]; exact hlt)))).1)
    have er : atK i K = r := by
      have := atK_some (K := K) (k := i) (by rw [(ok K hK).1]; exact hlt)
      rw [hr] at this
      exact (Option.some.inj this).symm
    refine ⟨z.1, Int.natAbs_dvd_natAbs.mp ?_⟩
    rw [← er]
    exact z.2.2 _ (List.mem_map.mpr ⟨K, hK, rfl⟩)
  refine List.Pairwise.imp_of_mem ?_ (p1.and p2)
  intro a b ha hb h
  have ha' := (mem a).mp ha
  have hb' := (mem b).mp hb
  exact asc_pair lB (ok a ha') (ok b hb') (bs a ha') (bs b hb') h.1 h.2
end GG

namespace GG
open PySem PySem.Spec PyProof.Rows L2
/-! ### sums of weights -/
abbrev WS := List (Int × RK)
def total (Ws : WS) (K : RK) : Int := (Ws.map fun e => if e.2 = K then e.1 else 0).sum
def ofWs (Ws : WS) : WL := Ws.foldl (fun W e => addW W e.2 e.1) []
theorem wOf_map (rd : List PyData) : wOf rd = ofWs (rd.map bidOf) := by
  unfold wOf ofWs
  rw [List.foldl_map]
theorem getW_add (W : WL) (K L : RK) (m : Int) : getW (addW W K m) L = if L = K then some ((getW W K).getD 0 + m) else getW W L := by
  unfold addW
  cases q : (getW W K).isSome with
  | true =>
    rw [if_pos rfl]
    generalize (getW W K).getD 0 + m = z
    induction W with
    | nil => cases q
    | cons e W ih =>
      rw [List.map_cons]
      by_cases h : e.1 = K
      · by_cases h2 : L = K
        · simp [getW, List.find?_cons, h, h2]
        · have h3 : ¬ e.1 = L := fun z => h2 (z.symm.trans h)
          have h4 : ¬ K = L := fun z => h2 z.symm
          have hh : ∀ W : WL, getW (W.map fun e => if e.1 = K then (e.1, z) else e) L = getW W L := fun W => by
            induction W with
            | nil => rfl
            | cons y W ih =>
              rw [List.map_cons]
              unfold getW at ih ⊢
              rw [List.find?_cons, List.find?_cons]
              by_cases hy : y.1 = K
              · have hn : ¬ y.1 = L := fun q => h2 (q.symm.trans hy)
                simp only [hy, if_true, h4, decide_false] at ih ⊢
                exact ih
              · rw [if_neg hy]
                by_cases hl : y.1 = L
                · simp [hl]
                · simp only [hl, decide_false]
                  exact ih
          rw [if_neg h2, if_pos h]
          have := hh W
          unfold getW at this ⊢
          rw [List.find?_cons, List.find?_cons]
          simp only [h3, decide_false]
          exact this
      · have q' : (getW W K).isSome = true := by
          unfold getW at q ⊢
          rw [List.find?_cons] at q
          simp only [h, decide_false] at q
          exact q
        have := ih q'
        rw [if_neg h]
        unfold getW at this ⊢
        rw [List.find?_cons, List.find?_cons]
        by_cases h2 : e.1 = L
        · have h3 : ¬ L = K := fun z => h (h2.trans z)
          simp [h2, h3]
        · simp only [h2, decide_false]
          exact this
  | false =>
    rw [if_neg (by simp)]
    have none : getW W K = none := by
      cases z : getW W K with
      | none => rfl
      | some v => rw [z] at q; cases q
    have app : getW (W ++ [(K, (getW W K).getD 0 + m)]) L = (getW W L).or (if K = L then some ((getW W K).getD 0 + m) else Option.none) := by
      generalize (getW W K).getD 0 + m = z
      unfold getW
      rw [List.find?_append, Option.map_or]
      congr 1
      by_cases h : K = L <;> simp [List.find?_cons, h]
    rw [app]
    by_cases h : L = K
    · rw [if_pos h, h, none, if_pos rfl]
      rfl
    · rw [if_neg h, if_neg (fun z => h z.symm), Option.or_none]
theorem ofWs_get (Ws : WS) (K : RK) : (getW (ofWs Ws) K).getD 0 = total Ws K ∧ ((getW (ofWs Ws) K).isSome = true ↔ K ∈ Ws.map (·.2)) := by
  have key : ∀ (Ws : WS) (W : WL), (getW (Ws.foldl (fun W e => addW W e.2 e.1) W) K).getD 0 = (getW W K).getD 0 + total Ws K ∧ ((getW (Ws.foldl (fun W e => addW W e.2 e.1) W) K).isSome = true ↔ (getW W K).isSome = true ∨ K ∈ Ws.map (·.2)) := by
    intro Ws
    induction Ws with
    | nil => intro W; simp [total]
    | cons e Ws ih =>
      intro W
      obtain ⟨i1, i2⟩ := ih (addW W e.2 e.1)
      rw [List.foldl_cons, i1, i2, getW_add]
      by_cases h : K = e.2
      · subst h
        rw [if_pos rfl]
        refine ⟨?_, by simp⟩
        simp [total, Int.add_assoc]
      · rw [if_neg h]
        have h' : ¬ e.2 = K := fun z => h z.symm
        refine ⟨by simp [total, h'], by simp [h]⟩
  obtain ⟨k1, k2⟩ := key Ws []
  refine ⟨by rw [show ofWs Ws = Ws.foldl (fun W e => addW W e.2 e.1) [] from rfl, k1]; simp [getW], by rw [show ofWs Ws = Ws.foldl (fun W e => addW W e.2 e.1) [] from rfl, k2]; simp [getW]⟩
theorem ofWs_nodup (Ws : WS) : ((ofWs Ws).map (·.1)).Nodup := by
  have key : ∀ (Ws : WS) (W : WL), (W.map (·.1)).Nodup → ((Ws.foldl (fun W e => addW W e.2 e.1) W).map (·.1)).Nodup := by
    intro Ws
    induction Ws with
    | nil => intro W h; exact h
    | cons e Ws ih => intro W h; exact ih _ (addW_nodup h)
  exact key Ws [] List.nodup_nil
theorem total_none {Ws : WS} {K : RK} (h : K ∉ Ws.map (·.2)) : total Ws K = 0 := by
  unfold total
  induction Ws with
  | nil => rfl
  | cons e Ws ih =>
    rw [List.map_cons] at h ⊢
    have h1 : ¬ e.2 = K := fun z => h (by rw [z]; exact List.mem_cons_self)
    rw [if_neg h1, List.sum_cons, ih (fun z => h (List.mem_cons_of_mem _ z))]
    rfl
theorem wants_iff (K : RK) : wants K = true ↔ ∃ r ∈ K, r.1 ≠ 0 := by
  unfold wants
  rw [List.any_eq_true]
  constructor
  · rintro ⟨r, hr, h⟩
    refine ⟨r, hr, fun z => ?_⟩
    rw [z] at h
    simp at h
  · rintro ⟨r, hr, h⟩
    refine ⟨r, hr, ?_⟩
    have : ¬ V.int r.1 = V.int 0 := fun z => h (V.int.inj z)
    simp [this]
theorem kept_iff (Ws : WS) (K : RK) : K ∈ keptK (ofWs Ws) ↔ total Ws K ≠ 0 ∧ wants K = true := by
  obtain ⟨g1, g2⟩ := ofWs_get Ws K
  unfold keptK
  constructor
  · intro h
    obtain ⟨x, hx, rfl⟩ := List.mem_map.mp h
    obtain ⟨h1, h2⟩ := List.mem_filter.mp hx
    unfold keepW at h2
    rw [Bool.and_eq_true] at h2
    have gw := getW_mem (ofWs_nodup Ws) h1
    rw [gw] at g1
    refine ⟨fun z => ?_, h2.2⟩
    have e : x.2 = 0 := g1.trans z
    rw [e] at h2
    simp at h2
  · rintro ⟨h1, h2⟩
    have hin : K ∈ Ws.map (·.2) := by
      by_cases q : K ∈ Ws.map (·.2)
      · exact q
      · exact absurd (total_none q) h1
    have hs := g2.mpr hin
    obtain ⟨m, hm⟩ := Option.isSome_iff_exists.mp hs
    have hf : ∃ x ∈ ofWs Ws, x.1 = K ∧ x.2 = m := by
      unfold getW at hm
      obtain ⟨x, hx, rfl⟩ := Option.map_eq_some_iff.mp hm
      exact ⟨x, List.mem_of_find?_eq_some hx, of_decide_eq_true (List.find?_some (p := fun e : RK × Int => decide (e.1 = K)) hx), rfl⟩
    obtain ⟨x, hx, e1, e2⟩ := hf
    refine List.mem_map.mpr ⟨x, List.mem_filter.mpr ⟨hx, ?_⟩, e1⟩
    unfold keepW
    rw [e1, h2, Bool.and_true]
    rw [hm] at g1
    have : ¬ V.int x.2 = V.int 0 := fun z => h1 (by rw [← g1, ← e2]; exact V.int.inj z)
    simp [this]
theorem kept_nodup (Ws : WS) : (keptK (ofWs Ws)).Nodup := by
  unfold keptK
  exact (List.filter_sublist.map _).nodup (ofWs_nodup Ws)
/-- the plain list, by what it holds -/
theorem plain_eq {n N : Nat} (N0 : 0 < N) {Ws : WS} (ok : ∀ e ∈ Ws, okK' n N e.2) {Ls : List RK} (srt : Ls.Pairwise (RR n N)) (mem : ∀ K, K ∈ Ls ↔ total Ws K ≠ 0 ∧ wants K = true) : plainL n (ofWs Ws) = Ls.map fun K => (total Ws K, K) := by
  have okk : ∀ K ∈ keptK (ofWs Ws), okK' n N K := fun K hK => by
    have h := (kept_iff Ws K).mp hK
    have hin : K ∈ Ws.map (·.2) := by
      by_cases q : K ∈ Ws.map (·.2)
      · exact q
      · exact absurd (total_none q) h.1
    obtain ⟨e, he, rfl⟩ := List.mem_map.mp hin
    exact ok e he
  obtain ⟨a1, a2⟩ := asc_sorted N0 okk (kept_nodup Ws)
  have e : ascK n (keptK (ofWs Ws)) = Ls := sorted_R N0 a1 srt fun K => by rw [a2, kept_iff, mem]
  unfold plainL
  rw [e]
  exact List.map_congr_left fun K _ => by rw [(ofWs_get Ws K).1]
/-! ### the law's own list -/
def insK (keys : List RK) (K : RK) : List RK := keys.takeWhile (fun L => ahead L K) ++ K :: keys.dropWhile (fun L => ahead L K)
def lawKeys (Ws : WS) : List RK := Ws.foldl (fun keys e => if e.2 ∈ keys then keys else insK keys e.2) []
theorem insK_mem (keys : List RK) (K L : RK) : L ∈ insK keys K ↔ L = K ∨ L ∈ keys := by
  unfold insK
  rw [List.mem_append, List.mem_cons]
  conv => rhs; rw [← List.takeWhile_append_dropWhile (p := fun L => ahead L K) (l := keys), List.mem_append]
  constructor
  · rintro (h | h | h)
    · exact .inr (.inl h)
    · exact .inl h
    · exact .inr (.inr h)
  · rintro (h | h | h)
    · exact .inr (.inl h)
    · exact .inl h
    · exact .inr (.inr h)
theorem insK_sorted {n N : Nat} (N0 : 0 < N) {keys : List RK} {K : RK} (ok : ∀ L ∈ keys, okK' n N L) (okK : okK' n N K) (h : keys.Pairwise (RR n N)) (new : K ∉ keys) : (insK keys K).Pairwise (RR n N) := by
  unfold insK
  have sp := List.takeWhile_append_dropWhile (p := fun L => ahead L K) (l := keys)
  have pw := h
  rw [← sp] at pw
  obtain ⟨p1, p2, p3⟩ := List.pairwise_append.mp pw
  have t1 : ∀ a ∈ keys.takeWhile (fun L => ahead L K), RR n N a K := fun a ha => by
    have hm : a ∈ keys := (List.takeWhile_sublist _).subset ha
    have := List.all_eq_true.mp (List.all_takeWhile (p := fun L => ahead L K) (l := keys)) a ha
    exact ⟨ok a hm, okK, this⟩
  have t2 : ∀ b ∈ keys.dropWhile (fun L => ahead L K), RR n N K b := by
    cases hd : keys.dropWhile (fun L => ahead L K) with
    | nil => intro b hb; cases hb
    | cons d ds =>
      have dm : d ∈ keys := (List.dropWhile_sublist (fun L => ahead L K)).subset (by rw [hd]; exact List.mem_cons_self)
      have dn : ahead d K = false := by
        have := List.head?_dropWhile_not (fun L => ahead L K) keys
        rw [hd] at this
        simpa using this
      have first : RR n N K d := RR.total N0 (ok d dm) okK (fun q => new (by rw [← q]; exact dm)) dn
      intro b hb
      rcases List.mem_cons.mp hb with rfl | q
      · exact first
      · rw [hd] at p2
        exact first.trans N0 ((List.pairwise_cons.mp p2).1 b q)
  refine List.pairwise_append.mpr ⟨p1, List.pairwise_cons.mpr ⟨t2, p2⟩, fun a ha b hb => ?_⟩
  rcases List.mem_cons.mp hb with rfl | q
  · exact t1 a ha
  · exact p3 a ha b q
theorem lawKeys_ok {n N : Nat} (N0 : 0 < N) {Ws : WS} (ok : ∀ e ∈ Ws, okK' n N e.2) : (lawKeys Ws).Pairwise (RR n N) ∧ ∀ K, K ∈ lawKeys Ws ↔ K ∈ Ws.map (·.2) := by
  have key : ∀ (Ws : WS) (keys : List RK), (∀ e ∈ Ws, okK' n N e.2) → (∀ L ∈ keys, okK' n N L) → keys.Pairwise (RR n N) →
      (Ws.foldl (fun keys e => if e.2 ∈ keys then keys else insK keys e.2) keys).Pairwise (RR n N) ∧ ∀ K, K ∈ Ws.foldl (fun keys e => if e.2 ∈ keys then keys else insK keys e.2) keys ↔ K ∈ keys ∨ K ∈ Ws.map (·.2) := by
    intro Ws
    induction Ws with
    | nil => intro keys _ _ h; exact ⟨h, fun K => by simp⟩
    | cons e Ws ih =>
      intro keys h1 h2 h3
      rw [List.foldl_cons]
      by_cases q : e.2 ∈ keys
      · rw [if_pos q]
        obtain ⟨a, b⟩ := ih keys (fun x hx => h1 x (List.mem_cons_of_mem _ hx)) h2 h3
        refine ⟨a, fun K => ?_⟩
        rw [b, List.map_cons, List.mem_cons]
        constructor
        · rintro (z | z)
          · exact .inl z
          · exact .inr (.inr z)
        · rintro (z | z | z)
          · exact .inl z
          · exact .inl (by rw [z]; exact q)
          · exact .inr z
      · rw [if_neg q]
        have ok1 := h1 e List.mem_cons_self
        obtain ⟨a, b⟩ := ih (insK keys e.2) (fun x hx => h1 x (List.mem_cons_of_mem _ hx)) (fun L hL => by
          rcases (insK_mem _ _ _).mp hL with z | z
          · rw [z]; exact ok1
          · exact h2 L z) (insK_sorted N0 h2 ok1 h3 q)
        refine ⟨a, fun K => ?_⟩
        rw [b, insK_mem, List.map_cons, List.mem_cons]
        constructor
        · rintro ((z | z) | z)
          · exact .inr (.inl z)
          · exact .inl z
          · exact .inr (.inr z)
        · rintro (z | z | z)
          · exact .inl (.inr z)
          · exact .inl (.inl z)
          · exact .inr z
  obtain ⟨a, b⟩ := key Ws [] ok (fun L hL => nomatch hL) List.Pairwise.nil
  exact ⟨a, fun K => by rw [show lawKeys Ws = Ws.foldl (fun keys e => if e.2 ∈ keys then keys else insK keys e.2) [] from rfl, b]; simp⟩
def condK (Ws : WS) (K : RK) : Bool := decide (total Ws K ≠ 0) && K.any fun r => decide (0 < r.1)
def lawL (Ws : WS) : List (Int × RK) := ((lawKeys Ws).filter (condK Ws)).map fun K => (total Ws K, K)
theorem any_pos {n N : Nat} {K : RK} (ok : okK' n N K) : (K.any fun r => decide (0 < r.1)) = wants K := by
  unfold wants
  rw [Bool.eq_iff_iff, List.any_eq_true, List.any_eq_true]
  constructor
  · rintro ⟨r, hr, h⟩
    refine ⟨r, hr, ?_⟩
    have h' := of_decide_eq_true h
    have : ¬ V.int r.1 = V.int 0 := fun z => by have := V.int.inj z; omega
    simp [this]
  · rintro ⟨r, hr, h⟩
    refine ⟨r, hr, decide_eq_true ?_⟩
    have h0 := (ok.2 r hr).2.2
    have : r.1 ≠ 0 := fun z => by rw [z] at h; simp at h
    omega
/-- the law's list holds what the plain list of any rows with the same sums holds -/
theorem law_plain {n N : Nat} (N0 : 0 < N) {Ws Ws' : WS} (ok : ∀ e ∈ Ws, okK' n N e.2) (ok' : ∀ e ∈ Ws', okK' n N e.2) (same : ∀ K, wants K = true → total Ws' K = total Ws K) : plainL n (ofWs Ws') = lawL Ws := by
  obtain ⟨s, m⟩ := lawKeys_ok N0 ok
  have mem : ∀ K, K ∈ (lawKeys Ws).filter (condK Ws) ↔ total Ws K ≠ 0 ∧ wants K = true := fun K => by
    rw [List.mem_filter, m]
    unfold condK
    constructor
    · rintro ⟨h1, h2⟩
      rw [Bool.and_eq_true] at h2
      obtain ⟨e, he, rfl⟩ := List.mem_map.mp h1
      rw [any_pos (ok e he)] at h2
      exact ⟨of_decide_eq_true h2.1, h2.2⟩
    · rintro ⟨h1, h2⟩
      have hin : K ∈ Ws.map (·.2) := by
        by_cases q : K ∈ Ws.map (·.2)
        · exact q
        · exact absurd (total_none q) h1
      obtain ⟨e, he, rfl⟩ := List.mem_map.mp hin
      refine ⟨hin, ?_⟩
      rw [any_pos (ok e he), h2, Bool.and_true]
      exact decide_eq_true h1
  rw [plain_eq N0 ok' (Ls := (lawKeys Ws).filter (condK Ws)) (s.sublist List.filter_sublist) (fun K => by
    rw [mem]
    constructor
    · rintro ⟨a, b⟩; exact ⟨by rw [same K b]; exact a, b⟩
    · rintro ⟨a, b⟩; exact ⟨by rw [← same K b]; exact a, b⟩)]
  unfold lawL
  exact List.map_congr_left fun K hK => by rw [same K ((mem K).mp hK).2]
end GG

namespace GG
open PySem PySem.Spec PyProof.Rows L2 RZ
abbrev sAhead : Stmt := topS 38
def spAhead : Sp := fun vs H Q _ => ∃ (p q : Addr) (K L : RK) (n N : Nat), vs = [.ref p, .ref q] ∧ NK H (.ref p) (keyN K) ∧ NK H (.ref q) (keyN L) ∧ okK' n N K ∧ okK' n N L ∧ 0 < N ∧ N < 2 ^ 60 ∧ ∀ H', Same H H' → Q (.bl (ahead K L)) H'
theorem dR_dp {K : PySem.W.Frag} {H : Hp} {q : Addr} {r : Int × Int} (e : H q = some (.tup [.int r.1, .int r.2])) : Dp K H (.ref q) (dR r) := .tup (.inl (.inl e)) (.cons (.int _) (.cons (.int _) .nil))
theorem dR_sh (r : Int × Int) : SeqAt.shaped (dR r) = true := by
  show (PyData.canLay0 _ && decide (PyData.depth _ ≤ 64)) = true
  simp [dR, PyData.canLay0, PyData.canLayAll0, PyData.depth, PyData.depthAll]
theorem dR_eqv (a b : Int × Int) : PyData.eqv (dR a) (dR b) = decide (a = b) := by
  obtain ⟨a1, a2⟩ := a
  obtain ⟨b1, b2⟩ := b
  rw [Bool.eq_iff_iff]
  simp [dR, PyData.eqv, PyData.eqvAll]
theorem okR.small {N : Nat} (N0 : 0 < N) (N1 : N < 2 ^ 60) {r : Int × Int} (h : okR N r) : smallP r := by
  obtain ⟨⟨g0, g1, g2⟩, _⟩ := h
  have l := Nat.le_of_dvd N0 g1
  have up : (2 : Nat) ^ 60 < 2 ^ 120 := by decide
  exact ⟨g2, by omega, g0⟩
/-- ahead from place i on -/
theorem ahead_drop {K L : RK} {i : Nat} {a b : Int × Int} (ha : K[i]? = some a) (hb : L[i]? = some b) : ahead (K.drop i) (L.drop i) = if a = b then ahead (K.drop (i + 1)) (L.drop (i + 1)) else lessR a b := by
  have e1 : K.drop i = a :: K.drop (i + 1) := by
    obtain ⟨h, e⟩ := List.getElem?_eq_some_iff.mp ha
    rw [← e, List.getElem_cons_drop]
  have e2 : L.drop i = b :: L.drop (i + 1) := by
    obtain ⟨h, e⟩ := List.getElem?_eq_some_iff.mp hb
    rw [← e, List.getElem_cons_drop]
  rw [e1, e2]
  rfl
section
variable {P : Program} {w : World} {K : PySem.W.Frag} {mg : Str → Option Value} {base : Heap}
theorem scAhead : FnScope ["_law_one", "_law_other", "_law_first", "_law_second"] ["_law_one", "_law_other"] (defScope sAhead) := ⟨rfl, rfl, rfl, by decide +kernel, rfl, by decide +kernel, by decide +kernel⟩
theorem kn_ahead (D : DefIs K mg "_law_is_ahead" sAhead) (zz : mg "zip" = none) (B : Kn P w K mg base "_law_less" 1 ["_law_one", "_law_two"] (spLaw2 okLess)) : Kn P w K mg base "_law_is_ahead" 2 ["_law_one", "_law_other"] spAhead := by
  refine .of D (fun _ _ _ _ _ _ us hl => match us, hl with | [_, _], _ => rfl) fun fa _ F => ?_
  refine F.ok scAhead (fun vs H Q E h => ?_) (fun cdv A outer s H vs Q E hr h => ?_)
  · obtain ⟨p, q, K, L, n, N, rfl, _⟩ := h
    rfl
  · obtain ⟨p, q, R, L, n, N, rfl, kp, kq, oR, oL, N0, N1, k⟩ := h
    have hu64 : (A.deeper (envOfC "_law_is_ahead" (defScope sAhead) s.heap.objs.size fa cdv)).units + 64 < cLine := by have := hr.un; omega
    refine ⟨_, pss_cons (ps_for PassesOwn.never rfl (pi_zipA (by rfl) zz (pa_cons (pv 0) (pa_cons (pv 1) pa_nil))) (pg_tup rfl (pgs_cons (pg_name (i := 2) scAhead.nd rfl (.inl rfl)) (pgs_cons (pg_name (i := 3) scAhead.nd rfl (.inl rfl)) pgs_nil)))
        (pss_one (ps_if (pt_cmpR (op_neD hu64) (pv 2) (pv 3) (nomark _)) (pss_one (ps_ret (pe_kn B hr (pa_cons (pv 2) (pa_cons (pv 3) pa_nil))))) pss_nil)))
      (pss_one (ps_ret pe_bl)), ?_⟩
    obtain ⟨xs, ex, lx, ax⟩ := kp.row
    obtain ⟨ys, ey, ly, ay⟩ := kq.row
    have ll : xs.length = ys.length := by rw [lx, ly, oR.1, oL.1]
    refine ⟨_, rfl, _, rfl, p, q, xs, ys, rfl, .inr ⟨SqT.of ex, SqT.of ey, for_zipT ll (fun i σ H' => ∃ v2 v3, σ = [some (.ref p), some (.ref q), v2, v3] ∧ Same H H' ∧ ahead R L = ahead (R.drop i) (L.drop i)) ⟨none, none, rfl, L2.Same.refl H, rfl⟩
      (fun i σ H' h => ?_) (fun i x y T σ H' hx hy h nT => ?_) (fun σ H' h => ?_)⟩⟩
    · obtain ⟨_, _, _, S, _⟩ := h
      exact ⟨SqT.of (S _ _ ex), SqT.of (S _ _ ey)⟩
    · obtain ⟨v2, v3, rfl, S, eq⟩ := h
      have il : i < xs.length := (List.getElem?_eq_some_iff.mp hx).1
      obtain ⟨a, ha⟩ : ∃ a, R[i]? = some a := ⟨R[i]'(by omega), List.getElem?_eq_getElem (by omega)⟩
      obtain ⟨b, hb⟩ : ∃ b, L[i]? = some b := ⟨L[i]'(by omega), List.getElem?_eq_getElem (by omega)⟩
      obtain ⟨qa, hqa, ea⟩ := ax i a ha
      obtain ⟨qb, hqb, eb⟩ := ay i b hb
      rw [hx] at hqa
      rw [hy] at hqb
      cases hqa
      cases hqb
      have S1 := GG.Same.new S nT (o := .tup [.ref qa, .ref qb])
      have eT : (upd H' T (.tup [.ref qa, .ref qb])) T = some (.tup [.ref qa, .ref qb]) := upd_same
      generalize (upd H' T (.tup [.ref qa, .ref qb])) = H1 at S1 eT ⊢
      rw [ahead_drop ha hb] at eq
      refine ⟨T, _, rfl, .inl (.inl eT), rfl, _, _, rfl, _, _, rfl, rfl, ?_⟩
      refine ⟨_, rfl, _, rfl, _, _, dR_dp (S1 _ _ ea), dR_dp (S1 _ _ eb), dR_sh a, dR_sh b, _, rfl, ?_⟩
      rw [dR_eqv]
      by_cases q : a = b
      · rw [decide_eq_true q]
        rw [if_pos q] at eq
        exact iteF ⟨_, _, rfl, S1, eq⟩
      · rw [decide_eq_false q]
        rw [if_neg q] at eq
        refine iteT ⟨_, rfl, _, rfl, qa, qb, a, b, rfl, S1 _ _ ea, S1 _ _ eb, (oR.2 a (List.mem_of_getElem? ha)).small N0 N1, (oL.2 b (List.mem_of_getElem? hb)).small N0 N1, fun H2 S2 => ?_⟩
        have := k H2 (L2.Same.trans S1 S2)
        rw [eq] at this
        exact this
    · obtain ⟨v2, v3, rfl, S, eq⟩ := h
      have e1 : R.drop xs.length = [] := List.drop_eq_nil_of_le (by omega)
      rw [e1] at eq
      have := k H' S
      rw [eq] at this
      exact this
end
end GG

namespace GG
open PySem PySem.Spec PyProof.Rows L2 RZ
abbrev sLPlain : Stmt := topS 37
/-- a weight beside its row stands at v -/
def GivV (H : Hp) (v : V) (e : Int × RK) : Prop := ∃ t b, v = .ref t ∧ H t = some (.tup [.int e.1, .ref b]) ∧ RowV H (.ref b) e.2
theorem GivV.same {H H' : Hp} (k : Same H H') {v : V} {e : Int × RK} (h : GivV H v e) : GivV H' v e := by
  obtain ⟨t, b, rfl, e1, r⟩ := h
  exact ⟨t, b, rfl, k _ _ e1, r.same k⟩
theorem GivV.put {H : Hp} {D : Addr} {ys : List V} {o : HO} (eD : H D = some (.lst ys)) {v : V} {e : Int × RK} (h : GivV H v e) : GivV (upd H D o) v e := by
  obtain ⟨t, b, rfl, e1, r⟩ := h
  exact ⟨t, b, rfl, by rw [upd_ne (ne_of e1 eD (by intro z; cases z))]; exact e1, r.put eD⟩
def spLPlain : Sp := fun vs H Q _ => ∃ (a : Addr) (xs : List V) (Ws : WS) (n N : Nat), vs = [.ref a] ∧ H a = some (.lst xs) ∧ Paired (GivV H) xs Ws ∧ (∀ e ∈ Ws, okK' n N e.2) ∧ Ws.length ≤ 60 ∧ n ≤ 3 ∧ 0 < N ∧ N < 2 ^ 60 ∧ ∀ p H', Da H' (.ref p) (.tuple ((lawL Ws).map rowD)) → Same H H' → Q (.ref p) H'
theorem lawKeys_snoc (Ws : WS) (e : Int × RK) : lawKeys (Ws ++ [e]) = if e.2 ∈ lawKeys Ws then lawKeys Ws else insK (lawKeys Ws) e.2 := by
  unfold lawKeys
  rw [List.foldl_append]
  rfl
theorem lawKeys_len (Ws : WS) : (lawKeys Ws).length ≤ Ws.length := by
  have key : ∀ (Ws : WS) (ks : List RK), (Ws.foldl (fun keys e => if e.2 ∈ keys then keys else insK keys e.2) ks).length ≤ ks.length + Ws.length := by
    intro Ws
    induction Ws with
    | nil => intro ks; exact Nat.le_refl _
    | cons e Ws ih =>
      intro ks
      rw [List.foldl_cons, List.length_cons]
      split
      · have := ih ks
        omega
      · have h := ih (insK ks e.2)
        have l : (insK ks e.2).length = ks.length + 1 := by
          unfold insK
          rw [List.length_append, List.length_cons]
          have := congrArg List.length (List.takeWhile_append_dropWhile (p := fun L => ahead L e.2) (l := ks))
          rw [List.length_append] at this
          omega
        omega
  have := key Ws []
  simpa [lawKeys] using this
theorem total_sum (Ws : WS) (K : RK) : ((Ws.filter fun e => decide (e.2 = K)).map (·.1)).sum = total Ws K := by
  unfold total
  induction Ws with
  | nil => rfl
  | cons e Ws ih =>
    rw [List.filter_cons, List.map_cons, List.sum_cons]
    by_cases h : e.2 = K
    · simp only [h, decide_true, if_true]
      rw [List.map_cons, List.sum_cons, ih]
    · simp only [h, decide_false, if_false]
      rw [Int.zero_add]
      exact ih
def rowT (K : RK) : PyData := .tuple (K.map dR)
theorem rowT_sh (K : RK) : SeqAt.shaped (rowT K) = true := by
  have h := depth_dR K
  show (PyData.canLay0 _ && decide (PyData.depth _ ≤ 64)) = true
  rw [Bool.and_eq_true]
  refine ⟨by simp [rowT, PyData.canLay0, canLay_dRs], decide_eq_true ?_⟩
  simp only [rowT, PyData.depth]
  omega
theorem rowTs_sh (Ks : List RK) : SeqAt.shaped (.list (Ks.map rowT)) = true := by
  have h1 : PyData.canLayAll0 (Ks.map rowT) = true := by
    induction Ks with
    | nil => simp [PyData.canLayAll0]
    | cons K Ks ih => simp [PyData.canLayAll0, rowT, PyData.canLay0, canLay_dRs]; exact ih
  have h2 : PyData.depthAll (Ks.map rowT) ≤ 2 := by
    clear h1
    induction Ks with
    | nil => simp [PyData.depthAll]
    | cons K Ks ih =>
      have h := depth_dR K
      rw [List.map_cons]
      simp only [PyData.depthAll, rowT, PyData.depth]
      clear h
      have h := depth_dR K
      omega
  show (PyData.canLay0 _ && decide (PyData.depth _ ≤ 64)) = true
  rw [Bool.and_eq_true]
  refine ⟨by simp [PyData.canLay0, h1], decide_eq_true ?_⟩
  simp only [PyData.depth]
  omega
theorem dRs_eqv : ∀ K L : RK, PyData.eqvAll (K.map dR) (L.map dR) = decide (K = L)
  | [], [] => by simp [PyData.eqvAll]
  | [], _ :: _ => by simp [PyData.eqvAll]
  | _ :: _, [] => by simp [PyData.eqvAll]
  | a :: K, b :: L => by
    rw [List.map_cons, List.map_cons]
    simp only [PyData.eqvAll]
    rw [dR_eqv, dRs_eqv K L, Bool.eq_iff_iff]
    simp
theorem rowT_eqv (K L : RK) : PyData.eqv (rowT K) (rowT L) = decide (K = L) := by
  unfold rowT
  simp only [PyData.eqv]
  exact dRs_eqv K L
theorem RowV.dp {K : PySem.W.Frag} {H : Hp} {v : V} {R : RK} (h : RowV H v R) : Dp K H v (rowT R) := h.da.dp (by simp [noD, noD_dRs])
theorem rows_dp {K : PySem.W.Frag} {H : Hp} {vs : List V} {Ks : List RK} (h : Paired (RowV H) vs Ks) : DpAll K H vs (Ks.map rowT) := by
  induction h with
  | nil => exact .nil
  | cons a _ ih => exact .cons a.dp ih
theorem any_in (Ks : List RK) (K : RK) : ((Ks.map rowT).any fun z => PyData.eqv z (rowT K)) = decide (K ∈ Ks) := by
  rw [Bool.eq_iff_iff, List.any_eq_true, decide_eq_true_iff]
  constructor
  · rintro ⟨z, hz, h⟩
    obtain ⟨L, hL, rfl⟩ := List.mem_map.mp hz
    rw [rowT_eqv] at h
    rw [← of_decide_eq_true h]
    exact hL
  · intro h
    exact ⟨_, List.mem_map.mpr ⟨K, h, rfl⟩, by rw [rowT_eqv]; exact decide_eq_true rfl⟩
theorem cut_take {xs : List V} {j : Nat} : cutV xs none (some (j : Int)) = xs.take j := by
  unfold cutV
  rw [HT.sIx_none, HT.sIx_nat, List.drop_zero, Nat.sub_zero]
  rw [List.take_eq_take_iff]
  omega
theorem cut_drop {xs : List V} {j : Nat} (h : j ≤ xs.length) : cutV xs (some (j : Int)) none = xs.drop j := by
  unfold cutV
  rw [HT.sIx_none, HT.sIx_nat, Nat.min_eq_left h, List.take_of_length_le]
  rw [List.length_drop]
  exact Nat.le_refl _
theorem paired_take {α β : Type} {G : α → β → Prop} {l : List α} {m : List β} (h : Paired G l m) : ∀ j, Paired G (l.take j) (m.take j) := by
  induction h with
  | nil => intro j; simp; exact .nil
  | cons a _ ih =>
    intro j
    cases j with
    | zero => exact .nil
    | succ j => exact .cons a (ih j)
theorem paired_drop {α β : Type} {G : α → β → Prop} {l : List α} {m : List β} (h : Paired G l m) : ∀ j, Paired G (l.drop j) (m.drop j) := by
  induction h with
  | nil => intro j; simp; exact .nil
  | cons a t ih =>
    intro j
    cases j with
    | zero => exact .cons a t
    | succ j => exact ih j
theorem paired_app {α β : Type} {G : α → β → Prop} {l l' : List α} {m m' : List β} (h : Paired G l m) (h' : Paired G l' m') : Paired G (l ++ l') (m ++ m') := by
  induction h with
  | nil => exact h'
  | cons a _ ih => exact .cons a ih
theorem insK_take (ks : List RK) (K : RK) : insK ks K = ks.take (ks.takeWhile (fun L => ahead L K)).length ++ [K] ++ ks.drop (ks.takeWhile (fun L => ahead L K)).length := by
  have e1 : ks.take (ks.takeWhile (fun L => ahead L K)).length = ks.takeWhile (fun L => ahead L K) := by
    conv => lhs; rw [← List.takeWhile_append_dropWhile (p := fun L => ahead L K) (l := ks)]
    rw [List.take_append_of_le_length (by rw [List.takeWhile_append_dropWhile]; exact Nat.le_refl _)]
    rw [List.takeWhile_append_dropWhile, List.take_length]
  have e2 : ks.drop (ks.takeWhile (fun L => ahead L K)).length = ks.dropWhile (fun L => ahead L K) := by
    have := List.takeWhile_append_dropWhile (p := fun L => ahead L K) (l := ks)
    have q := congrArg (List.drop (ks.takeWhile (fun L => ahead L K)).length) this
    rw [List.drop_left] at q
    exact q.symm
  unfold insK
  rw [e1, e2, List.append_assoc]
  rfl
theorem tw_at (ks : List RK) (K : RK) (j : Nat) : (∀ L, ks[j]? = some L → j < (ks.takeWhile (fun L => ahead L K)).length → ahead L K = true) ∧ (∀ L, ks[(ks.takeWhile (fun L => ahead L K)).length]? = some L → ahead L K = false) := by
  constructor
  · intro L hL hj
    have sp := List.takeWhile_append_dropWhile (p := fun L => ahead L K) (l := ks)
    have h2 : (ks.takeWhile (fun L => ahead L K))[j]? = some L := by
      rw [← sp, List.getElem?_append_left hj] at hL
      exact hL
    exact List.all_eq_true.mp (List.all_takeWhile (p := fun L => ahead L K) (l := ks)) L (List.mem_of_getElem? h2)
  · intro L hL
    have sp := List.takeWhile_append_dropWhile (p := fun L => ahead L K) (l := ks)
    have h2 : (ks.dropWhile (fun L => ahead L K))[0]? = some L := by
      have q := hL
      rw [show ks[(ks.takeWhile (fun L => ahead L K)).length]? = (ks.takeWhile (fun L => ahead L K) ++ ks.dropWhile (fun L => ahead L K))[(ks.takeWhile (fun L => ahead L K)).length]? from by rw [sp], List.getElem?_append_right (Nat.le_refl _), Nat.sub_self] at q
      exact q
    have := List.head?_dropWhile_not (fun L => ahead L K) ks
    rw [← List.head?_eq_getElem?] at h2
    rw [h2] at this
    simpa using this
end GG

namespace GG
open PySem PySem.Spec PyProof.Rows L2 RZ
abbrev NLP : List Str := ["_law_rows", "_law_keys", "_law_found", "_law_weight", "_law_numbers", "_law_at", "_law_lap", "_law_key", "_law_one", "_law_top", "_law_bottom"]
theorem bSum : bootBuiltins "sum" = some (.builtin "sum") := by decide +kernel
theorem ones_dp {α : Type} {K : PySem.W.Frag} {H : Hp} (l : List α) : DpAll K H (l.map fun _ => V.int 1) (l.map fun _ => PyData.int 1) := by
  induction l with
  | nil => exact .nil
  | cons _ l ih => exact .cons (.int _) ih
theorem ones_sh {α : Type} (l : List α) : SeqAt.shaped (.list (l.map fun _ => PyData.int 1)) = true := by
  have h1 : PyData.canLayAll0 (l.map fun _ => PyData.int 1) = true := by
    induction l with
    | nil => simp [PyData.canLayAll0]
    | cons _ l ih => simp [PyData.canLayAll0, PyData.canLay0]; exact ih
  have h2 : PyData.depthAll (l.map fun _ => PyData.int 1) ≤ 1 := by
    clear h1
    induction l with
    | nil => simp [PyData.depthAll]
    | cons _ l ih =>
      rw [List.map_cons]
      simp only [PyData.depthAll, PyData.depth]
      omega
  show (PyData.canLay0 _ && decide (PyData.depth _ ≤ 64)) = true
  rw [Bool.and_eq_true]
  refine ⟨by simp [PyData.canLay0, h1], decide_eq_true ?_⟩
  simp only [PyData.depth]
  omega
theorem ones_eqv (L : RK) : (!PyData.eqv (.list ((L.filter fun r => decide (0 < r.1)).map fun _ => PyData.int 1)) (.list [])) = L.any fun r => decide (0 < r.1) := by
  have key : ∀ l : RK, (!PyData.eqv (.list (l.map fun _ => PyData.int 1)) (.list [])) = !l.isEmpty := by
    intro l
    cases l with
    | nil => simp [PyData.eqv, PyData.eqvAll]
    | cons _ l => simp [PyData.eqv, PyData.eqvAll]
  rw [key]
  induction L with
  | nil => rfl
  | cons r L ih =>
    rw [List.filter_cons, List.any_cons]
    cases decide (0 < r.1) with
    | true => rfl
    | false => exact ih
theorem giv_all {H : Hp} {vs : List V} {es : List (Int × RK)} (h : Paired (GivV H) vs es) : DaAll H vs (es.map rowD) := by
  induction h with
  | nil => exact .nil
  | cons a _ ih =>
    obtain ⟨t, b, rfl, e, r⟩ := a
    exact .cons (.tup e (.cons (.int _) (.cons r.da .nil))) ih
theorem GivV.mv {H H' : Hp} {v : V} {e : Int × RK} (h : GivV H v e) (k : Same H H') : GivV H' v e := h.same k
section
variable {P : Program} {w : World} {K : PySem.W.Frag} {mg : Str → Option Value} {base : Heap}
theorem scLPlain : FnScope NLP ["_law_rows"] (defScope sLPlain) := ⟨rfl, rfl, rfl, by decide +kernel, rfl, by decide +kernel, by decide +kernel⟩
theorem kn_lplain (D : DefIs K mg "_law_plain" sLPlain) (T : RTxt K mg) (zr : mg "range" = none) (zs : mg "sum" = none) (B : Kn P w K mg base "_law_is_ahead" 2 ["_law_one", "_law_other"] spAhead) : Kn P w K mg base "_law_plain" 3 ["_law_rows"] spLPlain := by
  refine .of D (fun _ _ _ _ _ _ us hl => match us, hl with | [_], _ => rfl) fun fa _ F => ?_
  refine F.ok scLPlain (fun vs H Q E h => ?_) (fun cdv A outer s H vs Q E hr h => ?_)
  · obtain ⟨a, xs, Ws, n, N, rfl, _⟩ := h
    rfl
  · obtain ⟨a, xs, Ws, n, N, rfl, ea, pr, okW, l60, n3, N0, N1, k⟩ := h
    have hu64 : (A.deeper (envOfC "_law_plain" (defScope sLPlain) s.heap.objs.size fa cdv)).units + 64 < cLine := by have := hr.un; omega
    have hu65 : (A.deeper (envOfC "_law_plain" (defScope sLPlain) s.heap.objs.size fa cdv)).units + 65 < cLine := by have := hr.un; omega
    refine ⟨_, pss_cons (ps_par (i := 1) (j := 2) rfl scLPlain.nd rfl rfl (by decide) rfl rfl (pa_cons (pe_lst pa_nil) (pa_cons (pe_lst pa_nil) pa_nil)) rfl)
      (pss_cons (ps_for PassesOwn.never rfl (pi_list (pv 0)) (pg_tup rfl (pgs_cons (pg_name (i := 3) scLPlain.nd rfl (.inl rfl)) (pgs_cons (pg_name (i := 4) scLPlain.nd rfl (.inl rfl)) pgs_nil)))
        (pss_one (ps_if (pt_cmpR (op_notInD hu65) (pv 4) (pv 1) rfl)
          (pss_cons (ps_set (i := 5) scLPlain.nd rfl (.inl rfl) pe_int)
          (pss_cons (ps_for PassesOwn.never rfl (pi_range1 rfl zr (pa_cons (pe_callB call_len_seq (by rfl) T.len PySem.boot_len (pa_cons (pv 1) pa_nil)) pa_nil)) (pg_name (i := 6) scLPlain.nd rfl (.inl rfl))
            (pss_one (ps_if (PW.pt (pw_and (pt_cmpR op_lt (pv 5) (pe_callB call_len_seq (by rfl) T.len PySem.boot_len (pa_cons (pv 1) pa_nil)) (nomark _)) (pw_and1 (pt_val (pe_kn B hr (pa_cons (pe_ix ix_list (pv 1) (pv 5) (fun _ _ => rfl)) (pa_cons (pv 4) pa_nil)))))))
              (pss_one (ps_set (i := 5) scLPlain.nd rfl (.inl rfl) (pe_op op_add (pv 5) pe_int))) pss_nil)))
          (pss_one (ps_set (i := 1) scLPlain.nd rfl (.inl rfl) (pe_op op_cat (pe_op op_cat (pe_slice sl_list (pv 1) po_none (po_some (pv 5))) (pe_lst (pa_cons (pv 4) pa_nil))) (pe_slice sl_list (pv 1) (po_some (pv 5)) po_none))))))
          pss_nil)))
      (pss_cons (ps_for PassesOwn.never rfl (pi_list (pv 1)) (pg_name (i := 7) scLPlain.nd rfl (.inr rfl))
        (pss_cons (ps_set (i := 3) scLPlain.nd rfl (.inl rfl) (pe_callB (cr_sum rfl) (by rfl) zs bSum (pa_cons (pe_lc (own := [("_law_one", 8), ("_law_numbers", 4)]) (g := gTup K 2 (gCons (gName 8) (gCons (gName 4) gNil))) rfl scLPlain.nd (pi_list (pv 0)) (blkOk_by (N := NLP) (sc := defScope sLPlain) (by decide +kernel))
            (fun _ _ _ _ _ => pg_tup rfl (pgs_cons (pg_name (i := 8) scLPlain.nd rfl (.inl rfl)) (pgs_cons (pg_name (i := 4) scLPlain.nd rfl (.inl rfl)) pgs_nil))) (fun _ _ _ _ _ => pts_one (pt_cmpR (show OpR _ _ (rEqD K) from op_eqD hu64) (pv 4) (pv 7) (nomark _))) (fun _ _ _ _ _ => pv 8)) pa_nil)))
        (pss_one (ps_if (PW.pt (pw_and (pt_cmpR op_ne (pv 3) pe_int (nomark _)) (pw_and1 (pt_cmpR (op_neD hu64) (pe_lc (own := [("_law_top", 9), ("_law_bottom", 10)]) (g := gTup K 2 (gCons (gName 9) (gCons (gName 10) gNil))) rfl scLPlain.nd (pi_tup (pv 7)) (blkOk_by (N := NLP) (sc := defScope sLPlain) (by decide +kernel))
            (fun _ _ _ _ _ => pg_tup rfl (pgs_cons (pg_name (i := 9) scLPlain.nd rfl (.inl rfl)) (pgs_cons (pg_name (i := 10) scLPlain.nd rfl (.inl rfl)) pgs_nil))) (fun _ _ _ _ _ => pts_one (pt_cmpR op_gt (pv 9) pe_int (nomark _))) (fun _ _ _ _ _ => pe_int)) (pe_lst pa_nil) (nomark _)))))
          (pss_one (ps_expr (pe_bm PySem.F.plainAttrs_list PySem.F.slot_list_append PySem.F.type_list_append mt_append (pv 2) (pa_cons (pe_tup (pa_cons (pv 3) (pa_cons (pv 7) pa_nil))) pa_nil))))
          pss_nil))))
      (pss_one (ps_ret (pe_callTy call_tuple_of (by rfl) T.tuple bTuple (pa_cons (pv 2) pa_nil)))))), ?_⟩
    refine ⟨(by show 0 ≤ sizeLine; exact Nat.zero_le _), fun k0 nk0 => ⟨(by show 0 ≤ sizeLine; exact Nat.zero_le _), fun f1 nf1 => ⟨_, _, rfl, ?_⟩⟩⟩
    have S0 := GG.Same.new (L2.Same.refl H) nk0 (o := .lst [])
    have ek0 : (upd H k0 (.lst [])) k0 = some (.lst []) := upd_same
    generalize (upd H k0 (.lst [])) = H0 at S0 ek0 nf1 ⊢
    have S1 := GG.Same.new (L2.Same.refl H0) nf1 (o := .lst [])
    have ef1 : (upd H0 f1 (.lst [])) f1 = some (.lst []) := upd_same
    have nf0 : H f1 = none := by
      cases q : H f1 with
      | none => rfl
      | some o => rw [S0 _ _ q] at nf1; cases nf1
    generalize (upd H0 f1 (.lst [])) = H1 at S1 ef1 ⊢
    have kf : k0 ≠ f1 := fun q => by rw [← q, ek0] at nf1; cases nf1
    replace ek0 := S1 _ _ ek0
    replace S1 := L2.Same.trans S0 S1
    clear S0 nf1 nk0
    refine ⟨_, rfl, a, rfl, ⟨_, SqL.of (S1 _ _ ea)⟩, for_list (xs := xs) (fun i σ H' => ∃ (k1 : Addr) (kv : List V) (v3 v4 v5 v6 : Option V), σ = [some (.ref a), some (.ref k1), some (.ref f1), v3, v4, v5, v6, none, none, none, none] ∧ Same H1 H' ∧ H' k1 = some (.lst kv) ∧ Paired (RowV H') kv (lawKeys (Ws.take i)) ∧ k1 ≠ f1)
      ⟨k0, [], none, none, none, none, rfl, L2.Same.refl H1, ek0, .nil, kf⟩ (fun i σ H' _ p => ?_) (fun i x σ H' hx p => ?_) (fun σ H' p => ?_)⟩
    · obtain ⟨_, _, _, _, _, _, _, S, _⟩ := p
      exact SqL.of (S _ _ (S1 _ _ ea))
    · obtain ⟨k1, kv, v3, v4, v5, v6, rfl, S, ek, pk, kf⟩ := p
      obtain ⟨e, he, gv⟩ := paired_at pr hx
      obtain ⟨t, b, rfl, e1, rv⟩ := gv.same (L2.Same.trans S1 S)
      have hi := (List.getElem?_eq_some_iff.mp he).1
      have hm := List.mem_of_getElem? he
      have oke := okW e hm
      have okKs : ∀ L ∈ lawKeys (Ws.take i), okK' n N L := fun L hL => by
        have := ((lawKeys_ok N0 (Ws := Ws.take i) fun e he => okW e (List.mem_of_mem_take he)).2 L).mp hL
        obtain ⟨z, hz, rfl⟩ := List.mem_map.mp this
        exact okW z (List.mem_of_mem_take hz)
      have lK := lawKeys_len (Ws.take i)
      rw [List.length_take] at lK
      have lkv := Paired.length pk
      rw [take_snoc he, lawKeys_snoc]
      generalize lawKeys (Ws.take i) = Ks at pk okKs lK lkv ⊢
      refine ⟨t, _, rfl, .inl (.inl e1), rfl, _, _, rfl, _, _, rfl, rfl, ?_⟩
      refine ⟨_, rfl, _, rfl, rowT e.2, Ks.map rowT, rv.dp, .lst (SqL.of ek) (rows_dp pk), rowT_sh _, rowTs_sh _, _, rfl, ?_⟩
      rw [any_in]
      by_cases q : e.2 ∈ Ks
      · rw [decide_eq_true q, if_pos q]
        exact iteF ⟨k1, kv, _, _, _, _, rfl, S, ek, pk, kf⟩
      · rw [decide_eq_false q, if_neg q]
        refine iteT ?_
        have tw := tw_at Ks e.2
        have lt := (List.takeWhile_sublist (fun L => ahead L e.2) (l := Ks)).length_le
        have it := insK_take Ks e.2
        generalize (Ks.takeWhile (fun L => ahead L e.2)).length = at' at tw lt it
        refine ⟨_, rfl, k1, kv, rfl, .inl (SqL.of ek), ((kv.length : Nat) : Int), rfl, by omega, by omega, for_range (n := kv.length) (fun j σ H'' => ∃ v6' : Option V, σ = [some (.ref a), some (.ref k1), some (.ref f1), some (.int e.1), some (.ref b), some (.int ((min j at' : Nat) : Int)), v6', none, none, none, none] ∧ Same H' H'')
          ⟨v6, by rw [Nat.zero_min]; rfl, L2.Same.refl H'⟩ (fun j σ H'' hj p => ?_) (fun σ H'' p => ?_)⟩
        · obtain ⟨v6', rfl, S2⟩ := p
          have ek2 := S2 _ _ ek
          have lj : min j at' < kv.length := by omega
          obtain ⟨y, hy⟩ : ∃ y, kv[min j at']? = some y := ⟨kv[min j at'], List.getElem?_eq_getElem lj⟩
          obtain ⟨L, hL, rL⟩ := paired_at pk hy
          obtain ⟨yb, rfl, nkL⟩ := rL.same S2
          have nkb : NK H'' (.ref b) (keyN e.2) := by
            obtain ⟨b', eb', nb⟩ := rv.same S2
            cases eb'
            exact nb
          refine ⟨_, rfl, _, rfl, k1, kv, rfl, .inl (SqL.of ek2), _, _, rfl, rfl, _, rfl, ?_⟩
          rw [decide_eq_true (show ((min j at' : Nat) : Int) < ((kv.length : Nat) : Int) by omega)]
          refine iteT ?_
          refine ⟨_, rfl, _, rfl, k1, _, _, .ref yb, rfl, rfl, SqL.of ek2, atI_nat hy, _, rfl, yb, b, L, e.2, n, N, rfl, nkL, nkb, okKs L (List.mem_of_getElem? hL), oke, N0, N1, fun H3 S3 => ⟨_, rfl, ?_⟩⟩
          by_cases hq : j < at'
          · have m1 : min j at' = j := by omega
            have m2 : min (j + 1) at' = j + 1 := by omega
            rw [m1] at hL
            rw [(tw j).1 L hL hq]
            refine iteT ?_
            refine ⟨_, rfl, _, _, rfl, rfl, ?_⟩
            refine ⟨some (.int (0 + (j : Int))), ?_, L2.Same.trans S2 S3⟩
            rw [m1, m2]
            rfl
          · have m1 : min j at' = at' := by omega
            have m2 : min (j + 1) at' = at' := by omega
            rw [m1] at hL ⊢
            rw [(tw 0).2 L hL]
            refine iteF ⟨some (.int (0 + (j : Int))), ?_, L2.Same.trans S2 S3⟩
            rw [m2]
            rfl
        · obtain ⟨v6', rfl, S2⟩ := p
          have m1 : min kv.length at' = at' := by omega
          rw [m1]
          have ek2 := S2 _ _ ek
          have ll : kv.length = Ks.length := lkv
          refine ⟨_, rfl, _, rfl, _, rfl, k1, kv, rfl, SqL.of ek2, fun p1 np1 => ?_⟩
          rw [cut_take]
          have T1 := GG.Same.new (L2.Same.refl H'') np1 (o := .lst (kv.take at'))
          have ep1 : (upd H'' p1 (.lst (kv.take at'))) p1 = some (.lst (kv.take at')) := upd_same
          generalize (upd H'' p1 (.lst (kv.take at'))) = G1 at T1 ep1 ⊢
          refine ⟨_, rfl, (by show 1 ≤ sizeLine; rw [sizeLine_eq]; decide), fun p2 np2 => ?_⟩
          have T2 := GG.Same.new (L2.Same.refl G1) np2 (o := .lst [.ref b])
          have ep2 : (upd G1 p2 (.lst [.ref b])) p2 = some (.lst [.ref b]) := upd_same
          generalize (upd G1 p2 (.lst [.ref b])) = G2 at T2 ep2 ⊢
          refine ⟨p1, p2, _, _, rfl, rfl, T2 _ _ ep1, ep2, (by rw [List.length_take, sizeLine_eq, List.length_cons, List.length_nil]; omega), fun p3 np3 => ?_⟩
          have T3 := GG.Same.new (L2.Same.refl G2) np3 (o := .lst (kv.take at' ++ [.ref b]))
          have ep3 : (upd G2 p3 (.lst (kv.take at' ++ [.ref b]))) p3 = some (.lst (kv.take at' ++ [.ref b])) := upd_same
          generalize (upd G2 p3 (.lst (kv.take at' ++ [.ref b]))) = G3 at T3 ep3 ⊢
          have T13 := L2.Same.trans T1 (L2.Same.trans T2 T3)
          refine ⟨_, rfl, _, rfl, _, rfl, k1, kv, rfl, SqL.of (T13 _ _ ek2), fun p4 np4 => ?_⟩
          rw [cut_drop (by omega)]
          have T4 := GG.Same.new (L2.Same.refl G3) np4 (o := .lst (kv.drop at'))
          have ep4 : (upd G3 p4 (.lst (kv.drop at'))) p4 = some (.lst (kv.drop at')) := upd_same
          generalize (upd G3 p4 (.lst (kv.drop at'))) = G4 at T4 ep4 ⊢
          refine ⟨p3, p4, _, _, rfl, rfl, T4 _ _ ep3, ep4, (by rw [List.length_append, List.length_take, List.length_drop, sizeLine_eq, List.length_cons, List.length_nil]; omega), fun p5 np5 => ?_⟩
          have T5 := GG.Same.new (L2.Same.refl G4) np5 (o := .lst (kv.take at' ++ [.ref b] ++ kv.drop at'))
          have T25 := L2.Same.trans S2 (L2.Same.trans T13 (L2.Same.trans T4 T5))
          have pf : p5 ≠ f1 := fun q => by
            have z := T4 _ _ (T13 _ _ (S2 _ _ (S _ _ ef1)))
            rw [← q, np5] at z
            cases z
          refine ⟨p5, _, _, _, _, _, rfl, L2.Same.trans S T25, upd_same, ?_, pf⟩
          rw [it]
          have pk' := rows_same T25 pk
          have rv' := rv.same T25
          exact paired_app (paired_app (paired_take pk' at') (.cons rv' .nil)) (paired_drop pk' at')
    · obtain ⟨k1, kv, v3, v4, v5, v6, rfl, S, ek, pk, kf⟩ := p
      have lx : xs.length = Ws.length := Paired.length pr
      rw [lx, List.take_length] at pk
      have okKs : ∀ L ∈ lawKeys Ws, okK' n N L := fun L hL => by
        have := ((lawKeys_ok N0 okW).2 L).mp hL
        obtain ⟨z, hz, rfl⟩ := List.mem_map.mp this
        exact okW z hz
      have lK := lawKeys_len Ws
      have ef := S _ _ ef1
      replace S := L2.Same.trans S1 S
      have af : a ≠ f1 := fun q => by rw [q, nf0] at ea; cases ea
      have eLL : lawL Ws = ((lawKeys Ws).filter (condK Ws)).map fun K => (total Ws K, K) := rfl
      rw [eLL] at k
      generalize lawKeys Ws = Ks at pk okKs lK k
      have lkv := Paired.length pk
      clear S1 ef1 ek0 eLL
      refine ⟨_, rfl, k1, rfl, ⟨_, SqL.of ek⟩, for_list (xs := kv) (fun i σ G => ∃ (v3 v4 v5 v6 v7 : Option V) (fs : List V), σ = [some (.ref a), some (.ref k1), some (.ref f1), v3, v4, v5, v6, v7, none, none, none] ∧ Same H G ∧ G k1 = some (.lst kv) ∧ Paired (RowV G) kv Ks ∧ G f1 = some (.lst fs) ∧ Paired (GivV G) fs (((Ks.take i).filter (condK Ws)).map fun K => (total Ws K, K)))
        ⟨v3, v4, v5, v6, none, [], rfl, S, ek, pk, ef, .nil⟩ (fun i σ G _ p => ?_) (fun i x σ G hx p => ?_) (fun σ G p => ?_)⟩
      · obtain ⟨_, _, _, _, _, _, _, _, e, _⟩ := p
        exact SqL.of e
      · obtain ⟨v3, v4, v5, v6, v7, fs, rfl, SG, ekG, pkG, efG, pf⟩ := p
        clear pk ek ef S
        obtain ⟨L, hL, rL⟩ := paired_at pkG hx
        have prG : Paired (GivV G) xs Ws := Paired.mapP pr fun _ _ h => h.same SG
        have eaG := SG _ _ ea
        have il : i < 60 := by have := (List.getElem?_eq_some_iff.mp hL).1; omega
        have lf : fs.length ≤ i := by
          rw [Paired.length pf, List.length_map]
          have := List.length_filter_le (condK Ws) (Ks.take i)
          rw [List.length_take] at this
          omega
        rw [take_snoc hL, List.filter_append, List.map_append]
        obtain ⟨b, rfl, nkb⟩ := id rL
        -- the sum
        refine ⟨_, rfl, a, rfl, ⟨_, SqL.of eaG⟩, fun D nD => ?_⟩
        refine lc_list (xs := xs) (fun j G' => Same G G' ∧ G' D = some (.lst ((((Ws.take j).filter fun e => decide (e.2 = L)).map (·.1)).map V.int))) ⟨GG.Same.new (L2.Same.refl G) nD, upd_same⟩ (fun j G' _ p => SqL.of (p.1 _ _ eaG)) (fun j y G' hy p => ?_) (fun G' p => ?_)
        · obtain ⟨S2, eD⟩ := p
          obtain ⟨e, he, gv⟩ := paired_at prG hy
          obtain ⟨t, c, rfl, e1, rv⟩ := gv.same S2
          refine ⟨t, _, rfl, .inl (.inl e1), rfl, _, _, rfl, _, _, rfl, rfl, rfl, ?_⟩
          refine ⟨_, rfl, _, rfl, rowT e.2, rowT L, rv.dp, (rL.same S2).dp, rowT_sh _, rowT_sh _, _, rfl, ?_⟩
          rw [rowT_eqv, take_snoc he, List.filter_append, List.map_append, List.map_append]
          by_cases q : e.2 = L
          · rw [decide_eq_true q]
            refine iteT ⟨_, rfl, _, eD, ?_, ?_, ?_⟩
            · rw [List.length_map, List.length_map, sizeLine_eq]
              have z := List.length_filter_le (fun e : Int × RK => decide (e.2 = L)) (Ws.take j)
              rw [List.length_take] at z
              omega
            · intro c o ec
              rw [upd_ne (ne_of_none ec nD)]
              exact S2 c o ec
            · rw [upd_same, List.filter_cons, decide_eq_true q]
              rfl
          · rw [decide_eq_false q]
            refine iteF ⟨S2, ?_⟩
            rw [eD, List.filter_cons, decide_eq_false q]
            simp
        · obtain ⟨S2, eD⟩ := p
          rw [lx, List.take_length] at eD
          refine ⟨D, _, rfl, SqL.of eD, ?_⟩
          rw [total_sum]
          have pkH := rows_same S2 pkG
          have pfH : Paired (GivV G') fs _ := Paired.mapP pf fun _ _ h => h.same S2
          have efH := S2 _ _ efG
          have ekH := S2 _ _ ekG
          have SH := L2.Same.trans SG S2
          have rLH := rL.same S2
          clear pkG prG eaG pf efG ekG SG nkb rL nD eD
          refine ⟨_, rfl, rfl, _, rfl, ?_⟩
          by_cases z : total Ws L = 0
          · have c0 : condK Ws L = false := by unfold condK; simp [z]
            rw [show (!decide (V.int (total Ws L) = V.int 0)) = false from by rw [z]; simp]
            refine iteF ⟨_, _, _, _, _, fs, rfl, SH, ekH, pkH, efH, ?_⟩
            rw [List.filter_cons, c0]
            simp only [List.filter_nil, List.map_nil, List.append_nil, Bool.false_eq_true, if_false]
            exact pfH
          · have z' : ¬ V.int (total Ws L) = V.int 0 := fun q => z (V.int.inj q)
            have c1 : condK Ws L = L.any fun r => decide (0 < r.1) := by unfold condK; simp [z]
            rw [show (!decide (V.int (total Ws L) = V.int 0)) = true from by simp [z']]
            refine iteT ?_
            obtain ⟨b', ys, eb', eys, lys, ally⟩ := rLH.item
            cases eb'
            have oL := (okKs L (List.mem_of_getElem? hL)).1
            refine ⟨_, rfl, b, rfl, ⟨_, SqT.of eys⟩, fun D2 nD2 => ?_⟩
            refine lc_tup (xs := ys) (fun j G2 => Same G' G2 ∧ G2 D2 = some (.lst (((L.take j).filter fun r => decide (0 < r.1)).map fun _ => V.int 1))) ⟨GG.Same.new (L2.Same.refl G') nD2, upd_same⟩ (fun j G2 _ p => SqT.of (p.1 _ _ eys)) (fun j y G2 hy p => ?_) (fun G2 p => ?_)
            · obtain ⟨S3, eD⟩ := p
              have jl : j < ys.length := (List.getElem?_eq_some_iff.mp hy).1
              obtain ⟨r, hr'⟩ : ∃ r, L[j]? = some r := ⟨L[j]'(by omega), List.getElem?_eq_getElem (by omega)⟩
              obtain ⟨q, hq, eq⟩ := ally j r hr'
              rw [hy] at hq
              cases hq
              refine ⟨q, _, rfl, .inl (.inl (S3 _ _ eq)), rfl, _, _, rfl, _, _, rfl, rfl, rfl, ?_⟩
              refine ⟨_, rfl, _, _, rfl, rfl, _, rfl, ?_⟩
              rw [take_snoc hr', List.filter_append, List.map_append]
              by_cases q2 : 0 < r.1
              · rw [decide_eq_true q2]
                refine iteT ⟨_, eD, ?_, ?_, ?_⟩
                · rw [List.length_map, sizeLine_eq]
                  have z := List.length_filter_le (fun r : Int × Int => decide (0 < r.1)) (L.take j)
                  rw [List.length_take] at z
                  omega
                · intro c o ec
                  rw [upd_ne (ne_of_none ec nD2)]
                  exact S3 c o ec
                · rw [upd_same, List.filter_cons, decide_eq_true q2]
                  rfl
              · rw [decide_eq_false q2]
                refine iteF ⟨S3, ?_⟩
                rw [eD, List.filter_cons, decide_eq_false q2]
                simp
            · obtain ⟨S3, eD⟩ := p
              rw [lys, List.take_length] at eD
              refine ⟨(by show 0 ≤ sizeLine; exact Nat.zero_le _), fun D3 nD3 => ?_⟩
              have S4 := GG.Same.new (L2.Same.refl G2) nD3 (o := .lst [])
              have eD3 : (upd G2 D3 (.lst [])) D3 = some (.lst []) := upd_same
              generalize (upd G2 D3 (.lst [])) = G3 at S4 eD3 ⊢
              refine ⟨.list ((L.filter fun r => decide (0 < r.1)).map fun _ => PyData.int 1), .list [], .lst (SqL.of (S4 _ _ eD)) (ones_dp _), .lst (SqL.of eD3) .nil, ones_sh _, rfl, _, rfl, ?_⟩
              rw [ones_eqv, ← c1]
              have S34 := L2.Same.trans S3 S4
              replace SH := L2.Same.trans SH S34
              replace pkH := rows_same S34 pkH
              replace pfH := Paired.mapP pfH fun _ _ h => GivV.same S34 h
              replace efH := S34 _ _ efH
              replace ekH := S34 _ _ ekH
              replace rLH := rLH.same S34
              clear S3 S4 eD eD3 nD3 nD2 S34 eys ally S2
              cases hc : condK Ws L with
              | false =>
                refine iteF ⟨_, _, _, _, _, fs, rfl, SH, ekH, pkH, efH, ?_⟩
                rw [List.filter_cons, hc]
                simp only [List.filter_nil, List.map_nil, List.append_nil, Bool.false_eq_true, if_false]
                exact pfH
              | true =>
                refine iteT ?_
                refine ⟨_, rfl, .inl ⟨rfl, _, SqL.of efH⟩, _, rfl, _, rfl, (by show 2 ≤ sizeLine; rw [sizeLine_eq]; decide), fun t nt => ?_⟩
                have S5 := GG.Same.new (L2.Same.refl G3) nt (o := .tup [.int (total Ws L), .ref b])
                have et : (upd G3 t (.tup [.int (total Ws L), .ref b])) t = some (.tup [.int (total Ws L), .ref b]) := upd_same
                generalize (upd G3 t (.tup [.int (total Ws L), .ref b])) = G4 at S5 et ⊢
                have ef4 := S5 _ _ efH
                refine ⟨f1, fs, _, rfl, rfl, ef4, (by rw [sizeLine_eq]; omega), ?_⟩
                have rL4 : RowV G4 (.ref b) L := rLH.same S5
                refine ⟨_, _, _, _, _, fs ++ [.ref t], rfl, ?_, ?_, ?_, upd_same, ?_⟩
                · intro c o ec
                  rw [upd_ne (ne_of_none ec nf0)]
                  exact S5 c o (SH c o ec)
                · rw [upd_ne kf]
                  exact S5 _ _ ekH
                · exact Paired.mapP (rows_same S5 pkH) fun _ _ h => h.put ef4
                · rw [List.filter_cons, hc]
                  exact Paired.snoc (Paired.mapP pfH fun _ _ h => (h.same S5).put ef4) (GivV.put ef4 ⟨t, b, rfl, et, rL4⟩)
      · obtain ⟨v3, v4, v5, v6, v7, fs, rfl, SG, ekG, pkG, efG, pf⟩ := p
        rw [lkv, List.take_length] at pf
        refine ⟨_, rfl, f1, fs, rfl, .inl ⟨SqL.of efG, fun l nl => ?_⟩⟩
        have S6 := GG.Same.new (L2.Same.refl G) nl (o := .tup fs)
        refine k l _ ?_ (L2.Same.trans SG S6)
        exact .tup upd_same (giv_all (Paired.mapP pf fun _ _ h => h.same S6))
end
end GG

namespace GG
open PySem PySem.Spec PyProof.Rows L2 RZ
abbrev sGiven : Stmt := topS 36
abbrev NN : Nat := 693000
theorem stayL {H H' : Hp} (k : Stay H H') {b : Addr} {xs : List V} (e : H b = some (.lst xs)) : H' b = some (.lst xs) := k _ _ e (fun _ _ _ _ _ z => by cases z)
theorem stayT {H H' : Hp} (k : Stay H H') {b : Addr} {xs : List V} (e : H b = some (.tup xs)) : H' b = some (.tup xs) := k _ _ e (fun _ _ _ _ _ z => by cases z)
mutual
theorem NK.stay {H H' : Hp} (k : Stay H H') : ∀ {v : V} {x : NestedKey}, NK H v x → NK H' v x
  | _, _, .int i => .int i
  | _, _, .tup e t => .tup (stayT k e) (t.stay k)
theorem NKs.stay {H H' : Hp} (k : Stay H H') : ∀ {vs : List V} {xs : List NestedKey}, NKs H vs xs → NKs H' vs xs
  | _, _, .nil => .nil
  | _, _, .cons h t => .cons (h.stay k) (t.stay k)
end
theorem RowV.stay {H H' : Hp} (k : Stay H H') {v : V} {K : RK} (h : RowV H v K) : RowV H' v K := by
  obtain ⟨b, rfl, n⟩ := h
  exact ⟨b, rfl, n.stay k⟩
theorem RatV.stay {H H' : Hp} (k : Stay H H') {v : V} {r : Int × Int} (h : RatV H v r) : RatV H' v r := by
  obtain ⟨q, rfl, e⟩ := h
  exact ⟨q, rfl, stayT k e⟩
theorem GivV.stay {H H' : Hp} (k : Stay H H') {v : V} {e : Int × RK} (h : GivV H v e) : GivV H' v e := by
  obtain ⟨t, b, rfl, e1, r⟩ := h
  exact ⟨t, b, rfl, stayT k e1, r.stay k⟩
theorem ratv_nk {H : Hp} {ys : List V} {rs : List (Int × Int)} (h : Paired (RatV H) ys rs) : NKs H ys (rs.map rN) := by
  induction h with
  | nil => exact .nil
  | cons a _ ih =>
    obtain ⟨q, rfl, e⟩ := a
    exact .cons (.tup e (.cons (.int _) (.cons (.int _) .nil))) ih
theorem RatV.put {H : Hp} {D : Addr} {ys : List V} {o : HO} (eD : H D = some (.lst ys)) {v : V} {r : Int × Int} (h : RatV H v r) : RatV (upd H D o) v r := by
  obtain ⟨q, rfl, e⟩ := h
  exact ⟨q, rfl, by rw [upd_ne (ne_of e eD (by intro z; cases z))]; exact e⟩
theorem PenAt.put {H : Hp} {p l D : Addr} {c : Int} {o : HO} (h : PenAt H p l c) (np : p ≠ D) (nl : l ≠ D) : PenAt (upd H D o) p l c := by
  obtain ⟨ns, a, d, f, I⟩ := h
  exact ⟨ns, a, d, f, by rw [upd_ne np]; exact I.obj, by rw [upd_ne nl]; exact I.cel, I.len, I.a0, I.d0, I.c0, I.f0, I.f1⟩
theorem PenAt.ne {H : Hp} {p l D : Addr} {c : Int} (h : PenAt H p l c) (n : H D = none) : p ≠ D ∧ l ≠ D := by
  obtain ⟨ns, a, d, f, I⟩ := h
  exact ⟨ne_of_none I.obj n, ne_of_none I.cel n⟩
def okS (r : Int × Int) : Prop := okR NN r ∧ r.1.natAbs ≤ 1000000
def Okv (H : Hp) (v : V) : Prop := ∃ r, RatV H v r ∧ okS r
theorem okR_lw {t b : Int} (t0 : 0 ≤ t) (t1 : t.natAbs ≤ 1000000) (b0 : 0 < b) (hb : b.natAbs ∣ NN) : okR NN (lw t b) := by
  obtain ⟨s1, s2, s3⟩ := lw_small (t := t) b0
  obtain ⟨e1, e2⟩ := lw_exact t b
  refine ⟨⟨s3, ?_, ?_⟩, lw_copr b0, ?_⟩
  · refine Nat.dvd_trans ?_ hb
    have := congrArg Int.natAbs e2
    rw [Int.natAbs_mul] at this
    exact ⟨_, this.symm⟩
  · have up : (1000000 : Nat) < 2 ^ 120 := by decide
    omega
  · exact Int.ediv_nonneg t0 (Int.natCast_nonneg _)
theorem okR_one {t : Int} (t0 : 0 ≤ t) (t1 : t.natAbs ≤ 1000000) : okR NN (t, 1) := by
  refine ⟨⟨by show (0 : Int) < 1; decide, (show (1 : Int).natAbs ∣ NN from Nat.one_dvd _), ?_⟩, ?_, t0⟩
  · have up : (1000000 : Nat) < 2 ^ 120 := by decide
    show t.natAbs < 2 ^ 120
    omega
  · show Nat.gcd t.natAbs 1 = 1
    exact Nat.gcd_one_right _
theorem sm250 {z : Int} (h : z.natAbs ≤ 1000000) : z.natAbs < 2 ^ 250 := by
  have up : (1000000 : Nat) < 2 ^ 250 := by decide
  omega
theorem dvd12 {m : Int} (m0 : 0 ≤ m) (m1 : m < 12) : (1 + m).natAbs ∣ NN := by
  obtain ⟨k, rfl⟩ : ∃ k : Nat, m = (k : Int) := ⟨m.toNat, by omega⟩
  have key : ∀ k : Nat, k < 12 → (1 + k) ∣ NN := by decide
  have := key k (by omega)
  have e : (1 + (k : Int)).natAbs = 1 + k := by omega
  rw [e]
  exact this
theorem okS_lw {t b : Int} (t0 : 0 ≤ t) (t1 : t.natAbs ≤ 1000000) (b0 : 0 < b) (hb : b.natAbs ∣ NN) : okS (lw t b) :=
  ⟨okR_lw t0 t1 b0 hb, Nat.le_trans (lw_small (t := t) b0).1 t1⟩
theorem okS_one {t : Int} (t0 : 0 ≤ t) (t1 : t.natAbs ≤ 1000000) : okS (t, 1) := ⟨okR_one t0 t1, t1⟩
def spGiven : Sp := fun vs H Q _ => ∃ (p l : Addr) (c : Int) (k : Nat), vs = [.ref p, .int (k : Int)] ∧ PenAt H p l c ∧ c < 10000000 ∧ 1 ≤ k ∧ k ≤ 3 ∧
  ∀ (a : Addr) (xs : List V) (Ws : WS) (c' : Int) (H' : Hp), H' a = some (.lst xs) → H a = none → Paired (GivV H') xs Ws → (∀ e ∈ Ws, okK' k NN e.2 ∧ e.1.natAbs ≤ 9 ∧ ∀ r ∈ e.2, r.1.natAbs ≤ 1000000) → Ws.length ≤ 11 → c' ≤ c + 60 → PenAt H' p l c' → Keep p H H' → Q (.ref a) H'
abbrev NG : List Str := ["_law_pen_here", "_law_kinds", "_law_rows", "_law_some", "_law_lap", "_law_k"]
section
variable {P : Program} {w : World} {K : PySem.W.Frag} {mg : Str → Option Value} {base : Heap}
theorem scGiven : FnScope NG ["_law_pen_here", "_law_kinds"] (defScope sGiven) := ⟨rfl, rfl, rfl, by decide +kernel, rfl, by decide +kernel, by decide +kernel⟩
theorem kn_given (D : DefIs K mg "_law_given" sGiven) (T : RTxt K mg) (zr : mg "range" = none) (B1 : Kn P w K mg base "_law_draw" 1 ["_law_pen_here", "_law_many"] spDraw) (B2 : Kn P w K mg base "_law_pick" 2 ["_law_pen_here", "_law_some"] (spPick K)) (BQ : Kn P w K mg base "_law_q" 2 ["_law_top", "_law_bottom"] spQ) : Kn P w K mg base "_law_given" 3 ["_law_pen_here", "_law_kinds"] spGiven := by
  refine .of D (fun _ _ _ _ _ _ us hl => match us, hl with | [_, _], _ => rfl) fun fa _ F => ?_
  refine F.ok scGiven (fun vs H Q E h => ?_) (fun cdv A outer s H vs Q E hr h => ?_)
  · obtain ⟨p, l, c, k, rfl, _⟩ := h
    rfl
  · obtain ⟨p, l, c, n, rfl, PA, c0, n1, n3, k⟩ := h
    have hr1 : Room 1 _ := hr.mono (by decide)
    refine ⟨_, pss_cons (ps_asg (pe_tup (pa_cons (pe_lst pa_nil) (pa_cons (pe_lst (pa_cons (pe_tup (pa_cons pe_int (pa_cons pe_int pa_nil))) (pa_cons (pe_tup (pa_cons pe_int (pa_cons pe_int pa_nil)))
          (pa_cons (pe_kn BQ hr (pa_cons (pe_kn B1 hr1 (pa_cons (pv 0) (pa_cons pe_int pa_nil))) (pa_cons (pe_op op_add pe_int (pe_kn B1 hr1 (pa_cons (pv 0) (pa_cons pe_int pa_nil)))) pa_nil)))
          (pa_cons (pe_kn BQ hr (pa_cons (pe_kn B1 hr1 (pa_cons (pv 0) (pa_cons pe_int pa_nil))) (pa_cons pe_int pa_nil))) pa_nil))))) pa_nil)))
        (pg_tup rfl (pgs_cons (pg_name (i := 2) scGiven.nd rfl (.inl rfl)) (pgs_cons (pg_name (i := 3) scGiven.nd rfl (.inr rfl)) pgs_nil))))
      (pss_cons (ps_set (i := 3) scGiven.nd rfl (.inr rfl) (pe_op op_cat (pv 3) (pe_lst (pa_cons (pe_kn BQ hr (pa_cons (pe_op op_add pe_int (pe_kn B1 hr1 (pa_cons (pv 0) (pa_cons pe_int pa_nil)))) (pa_cons pe_int pa_nil)))
          (pa_cons (pe_tup (pa_cons (pe_kn B1 hr1 (pa_cons (pv 0) (pa_cons (pe_op op_pow pe_int pe_int) pa_nil))) (pa_cons pe_int pa_nil))) pa_nil)))))
      (pss_cons (ps_for PassesOwn.never rfl (pi_range1 rfl zr (pa_cons (pe_kn B1 hr1 (pa_cons (pv 0) (pa_cons pe_int pa_nil))) pa_nil)) (pg_name (i := 4) scGiven.nd rfl (.inl rfl))
        (pss_one (ps_expr (pe_bm PySem.F.plainAttrs_list PySem.F.slot_list_append PySem.F.type_list_append mt_append (pv 2) (pa_cons (pe_tup (pa_cons (pe_op op_sub (pe_kn B1 hr1 (pa_cons (pv 0) (pa_cons pe_int pa_nil))) pe_int)
          (pa_cons (pe_callTy call_tuple_of (by rfl) T.tuple bTuple (pa_cons (pe_lc (own := [("_law_k", 5)]) (g := gName 5) (tt := tYes) rfl scGiven.nd (pi_range1 rfl zr (pa_cons (pv 1) pa_nil)) (blkOk_by (N := NG) (sc := defScope sGiven) (by decide +kernel))
            (fun _ _ _ _ _ => pg_name (i := 5) scGiven.nd rfl (.inl rfl)) (fun _ _ _ _ _ => pts_nil) (fun _ _ _ _ _ => pe_kn B2 hr (pa_cons (pv 0) (pa_cons (pv 3) pa_nil)))) pa_nil)) pa_nil))) pa_nil)))))
      (pss_one (ps_ret (pv 2))))), ?_⟩
    have KK := Keep.refl (p := p) (H := H)
    refine ⟨(by show 0 ≤ sizeLine; exact Nat.zero_le _), fun r nr => ?_⟩
    have nr0 := nr
    obtain ⟨prn, lrn⟩ := PA.ne nr
    have st := Stay.new (Stay.refl (H := H)) nr (o := .lst [])
    replace PA := PA.new nr (o := .lst [])
    replace KK := KK.new nr (o := .lst [])
    have er : (upd H r (.lst [])) r = some (.lst []) := upd_same
    clear st nr
    generalize (upd H r (.lst [])) = H1 at PA KK er ⊢
    refine ⟨(by show 2 ≤ sizeLine; rw [sizeLine_eq]; decide), fun a1 na1 => ?_⟩
    have st := Stay.new (Stay.refl (H := H1)) na1 (o := .tup [.int 0, .int 1])
    replace PA := PA.new na1 (o := .tup [.int 0, .int 1])
    replace KK := KK.new na1 (o := .tup [.int 0, .int 1])
    replace er := stayL st er
    have ra1 : RatV (upd H1 a1 (.tup [.int 0, .int 1])) (.ref a1) (0, 1) := ⟨a1, rfl, upd_same⟩
    clear st na1
    generalize (upd H1 a1 (.tup [.int 0, .int 1])) = H2 at PA KK er ra1 ⊢
    refine ⟨(by show 2 ≤ sizeLine; rw [sizeLine_eq]; decide), fun a2 na2 => ?_⟩
    have st := Stay.new (Stay.refl (H := H2)) na2 (o := .tup [.int 0, .int 1])
    replace PA := PA.new na2 (o := .tup [.int 0, .int 1])
    replace KK := KK.new na2 (o := .tup [.int 0, .int 1])
    replace er := stayL st er
    replace ra1 := ra1.stay st
    have ra2 : RatV (upd H2 a2 (.tup [.int 0, .int 1])) (.ref a2) (0, 1) := ⟨a2, rfl, upd_same⟩
    clear st na2
    generalize (upd H2 a2 (.tup [.int 0, .int 1])) = H3 at PA KK er ra1 ra2 ⊢
    refine ⟨_, rfl, p, l, c, 60, rfl, PA, by decide, by decide, by omega, fun m1 H4 m10 m11 P4 K4 => ?_⟩
    have st := K4.stay PA
    replace KK := KK.trans K4
    replace er := stayL st er
    replace ra1 := ra1.stay st
    replace ra2 := ra2.stay st
    replace PA := P4
    clear st P4 K4
    refine ⟨_, rfl, p, l, _, 12, rfl, PA, by decide, by decide, by omega, fun m2 H5 m20 m21 P5 K5 => ⟨_, _, rfl, rfl, ?_⟩⟩
    have st := K5.stay PA
    replace KK := KK.trans K5
    replace er := stayL st er
    replace ra1 := ra1.stay st
    replace ra2 := ra2.stay st
    replace PA := P5
    clear st P5 K5
    refine ⟨m1, 1 + m2, rfl, by omega, sm250 (by omega), sm250 (by omega), fun q1 nq1 => ?_⟩
    have o1 : okS (lw m1 (1 + m2)) := okS_lw m10 (by omega) (by omega) (dvd12 m20 m21)
    generalize lw m1 (1 + m2) = z1 at o1 nq1 ⊢
    have st := Stay.new (Stay.refl (H := H5)) nq1 (o := .tup [.int z1.1, .int z1.2])
    replace PA := PA.new nq1 (o := .tup [.int z1.1, .int z1.2])
    replace KK := KK.new nq1 (o := .tup [.int z1.1, .int z1.2])
    replace er := stayL st er
    replace ra1 := ra1.stay st
    replace ra2 := ra2.stay st
    have rq1 : RatV (upd H5 q1 (.tup [.int z1.1, .int z1.2])) (.ref q1) z1 := ⟨q1, rfl, upd_same⟩
    clear st nq1
    generalize (upd H5 q1 (.tup [.int z1.1, .int z1.2])) = H6 at PA KK er ra1 ra2 rq1 ⊢
    refine ⟨_, rfl, p, l, _, 9, rfl, PA, by decide, by decide, by omega, fun m3 H7 m30 m31 P7 K7 => ?_⟩
    have st := K7.stay PA
    replace KK := KK.trans K7
    replace er := stayL st er
    replace ra1 := ra1.stay st
    replace ra2 := ra2.stay st
    replace rq1 := rq1.stay st
    replace PA := P7
    clear st P7 K7
    refine ⟨m3, 1, rfl, by decide, sm250 (by omega), sm250 (by decide), fun q2 nq2 => ?_⟩
    have o2 : okS (lw m3 1) := okS_lw m30 (by omega) (by decide) (Nat.one_dvd _)
    generalize lw m3 1 = z2 at o2 nq2 ⊢
    have st := Stay.new (Stay.refl (H := H7)) nq2 (o := .tup [.int z2.1, .int z2.2])
    replace PA := PA.new nq2 (o := .tup [.int z2.1, .int z2.2])
    replace KK := KK.new nq2 (o := .tup [.int z2.1, .int z2.2])
    replace er := stayL st er
    replace ra1 := ra1.stay st
    replace ra2 := ra2.stay st
    replace rq1 := rq1.stay st
    have rq2 : RatV (upd H7 q2 (.tup [.int z2.1, .int z2.2])) (.ref q2) z2 := ⟨q2, rfl, upd_same⟩
    clear st nq2
    generalize (upd H7 q2 (.tup [.int z2.1, .int z2.2])) = H8 at PA KK er ra1 ra2 rq1 rq2 ⊢
    refine ⟨(by show 4 ≤ sizeLine; rw [sizeLine_eq]; decide), fun s1 ns1 => ?_⟩
    have st := Stay.new (Stay.refl (H := H8)) ns1 (o := .lst [.ref a1, .ref a2, .ref q1, .ref q2])
    replace PA := PA.new ns1 (o := .lst [.ref a1, .ref a2, .ref q1, .ref q2])
    replace KK := KK.new ns1 (o := .lst [.ref a1, .ref a2, .ref q1, .ref q2])
    replace er := stayL st er
    replace ra1 := ra1.stay st
    replace ra2 := ra2.stay st
    replace rq1 := rq1.stay st
    replace rq2 := rq2.stay st
    have es1 : (upd H8 s1 (.lst [.ref a1, .ref a2, .ref q1, .ref q2])) s1 = some (.lst [.ref a1, .ref a2, .ref q1, .ref q2]) := upd_same
    clear st ns1
    generalize (upd H8 s1 (.lst [.ref a1, .ref a2, .ref q1, .ref q2])) = H9 at PA KK er ra1 ra2 rq1 rq2 es1 ⊢
    refine ⟨(by show 2 ≤ sizeLine; rw [sizeLine_eq]; decide), fun tt ntt => ?_⟩
    have st := Stay.new (Stay.refl (H := H9)) ntt (o := .tup [.ref r, .ref s1])
    replace PA := PA.new ntt (o := .tup [.ref r, .ref s1])
    replace KK := KK.new ntt (o := .tup [.ref r, .ref s1])
    replace er := stayL st er
    replace ra1 := ra1.stay st
    replace ra2 := ra2.stay st
    replace rq1 := rq1.stay st
    replace rq2 := rq2.stay st
    replace es1 := stayL st es1
    have ett : (upd H9 tt (.tup [.ref r, .ref s1])) tt = some (.tup [.ref r, .ref s1]) := upd_same
    clear st ntt
    generalize (upd H9 tt (.tup [.ref r, .ref s1])) = H10 at PA KK er ra1 ra2 rq1 rq2 es1 ett ⊢
    refine ⟨tt, _, rfl, .inl (.inl ett), rfl, _, _, rfl, _, _, rfl, rfl, ?_⟩
    clear ett
    refine ⟨_, rfl, _, rfl, p, l, _, 9999, rfl, PA, by decide, by decide, by omega, fun m4 H11 m40 m41 P11 K11 => ⟨_, _, rfl, rfl, ?_⟩⟩
    have st := K11.stay PA
    replace KK := KK.trans K11
    replace er := stayL st er
    replace ra1 := ra1.stay st
    replace ra2 := ra2.stay st
    replace rq1 := rq1.stay st
    replace rq2 := rq2.stay st
    replace es1 := stayL st es1
    replace PA := P11
    clear st P11 K11
    refine ⟨1 + m4, 1000, rfl, by decide, sm250 (by omega), sm250 (by decide), fun q3 nq3 => ?_⟩
    have o3 : okS (lw (1 + m4) 1000) := okS_lw (by omega) (by omega) (by decide) (by decide)
    generalize lw (1 + m4) 1000 = z3 at o3 nq3 ⊢
    have st := Stay.new (Stay.refl (H := H11)) nq3 (o := .tup [.int z3.1, .int z3.2])
    replace PA := PA.new nq3 (o := .tup [.int z3.1, .int z3.2])
    replace KK := KK.new nq3 (o := .tup [.int z3.1, .int z3.2])
    replace er := stayL st er
    replace ra1 := ra1.stay st
    replace ra2 := ra2.stay st
    replace rq1 := rq1.stay st
    replace rq2 := rq2.stay st
    replace es1 := stayL st es1
    have rq3 : RatV (upd H11 q3 (.tup [.int z3.1, .int z3.2])) (.ref q3) z3 := ⟨q3, rfl, upd_same⟩
    clear st nq3
    generalize (upd H11 q3 (.tup [.int z3.1, .int z3.2])) = H12 at PA KK er ra1 ra2 rq1 rq2 es1 rq3 ⊢
    refine ⟨_, rfl, _, _, rfl, rfl, ⟨by decide, by decide, by decide⟩, p, l, _, 1000000, rfl, PA, by decide, by decide, by omega, fun m5 H13 m50 m51 P13 K13 => ?_⟩
    have st := K13.stay PA
    replace KK := KK.trans K13
    replace er := stayL st er
    replace ra1 := ra1.stay st
    replace ra2 := ra2.stay st
    replace rq1 := rq1.stay st
    replace rq2 := rq2.stay st
    replace es1 := stayL st es1
    replace rq3 := rq3.stay st
    replace PA := P13
    clear st P13 K13
    refine ⟨(by show 2 ≤ sizeLine; rw [sizeLine_eq]; decide), fun a4 na4 => ?_⟩
    have o4 : okS (m5, 1) := okS_one m50 (by omega)
    have st := Stay.new (Stay.refl (H := H13)) na4 (o := .tup [.int m5, .int 1])
    replace PA := PA.new na4 (o := .tup [.int m5, .int 1])
    replace KK := KK.new na4 (o := .tup [.int m5, .int 1])
    replace er := stayL st er
    replace ra1 := ra1.stay st
    replace ra2 := ra2.stay st
    replace rq1 := rq1.stay st
    replace rq2 := rq2.stay st
    replace es1 := stayL st es1
    replace rq3 := rq3.stay st
    have ra4 : RatV (upd H13 a4 (.tup [.int m5, .int 1])) (.ref a4) (m5, 1) := ⟨a4, rfl, upd_same⟩
    clear st na4
    generalize (upd H13 a4 (.tup [.int m5, .int 1])) = H14 at PA KK er ra1 ra2 rq1 rq2 es1 rq3 ra4 ⊢
    refine ⟨(by show 2 ≤ sizeLine; rw [sizeLine_eq]; decide), fun s2 ns2 => ?_⟩
    have st := Stay.new (Stay.refl (H := H14)) ns2 (o := .lst [.ref q3, .ref a4])
    replace PA := PA.new ns2 (o := .lst [.ref q3, .ref a4])
    replace KK := KK.new ns2 (o := .lst [.ref q3, .ref a4])
    replace er := stayL st er
    replace ra1 := ra1.stay st
    replace ra2 := ra2.stay st
    replace rq1 := rq1.stay st
    replace rq2 := rq2.stay st
    replace es1 := stayL st es1
    replace rq3 := rq3.stay st
    replace ra4 := ra4.stay st
    have es2 : (upd H14 s2 (.lst [.ref q3, .ref a4])) s2 = some (.lst [.ref q3, .ref a4]) := upd_same
    clear st ns2
    generalize (upd H14 s2 (.lst [.ref q3, .ref a4])) = H15 at PA KK er ra1 ra2 rq1 rq2 es1 rq3 ra4 es2 ⊢
    refine ⟨s1, s2, _, _, rfl, rfl, es1, es2, (by show 6 ≤ sizeLine; rw [sizeLine_eq]; decide), fun sm nsm => ?_⟩
    have o0 : okS (0, 1) := okS_one (by decide) (by decide)
    have rsm : r ≠ sm := fun q => by rw [← q, er] at nsm; cases nsm
    obtain ⟨psm, _⟩ := PA.ne nsm
    have st := Stay.new (Stay.refl (H := H15)) nsm (o := .lst ([.ref a1, .ref a2, .ref q1, .ref q2] ++ [.ref q3, .ref a4]))
    replace PA := PA.new nsm (o := .lst ([.ref a1, .ref a2, .ref q1, .ref q2] ++ [.ref q3, .ref a4]))
    replace KK := KK.new nsm (o := .lst ([.ref a1, .ref a2, .ref q1, .ref q2] ++ [.ref q3, .ref a4]))
    replace er := stayL st er
    replace ra1 := ra1.stay st
    replace ra2 := ra2.stay st
    replace rq1 := rq1.stay st
    replace rq2 := rq2.stay st
    replace es1 := stayL st es1
    replace rq3 := rq3.stay st
    replace ra4 := ra4.stay st
    replace es2 := stayL st es2
    have esm : (upd H15 sm (.lst ([.ref a1, .ref a2, .ref q1, .ref q2] ++ [.ref q3, .ref a4]))) sm = some (.lst ([.ref a1, .ref a2, .ref q1, .ref q2] ++ [.ref q3, .ref a4])) := upd_same
    clear st nsm
    generalize (upd H15 sm (.lst ([.ref a1, .ref a2, .ref q1, .ref q2] ++ [.ref q3, .ref a4]))) = H16 at PA KK er ra1 ra2 rq1 rq2 es1 rq3 ra4 es2 esm ⊢
    have oks : ∀ s ∈ ([.ref a1, .ref a2, .ref q1, .ref q2] ++ [.ref q3, .ref a4] : List V), Okv H16 s := by
      intro s hs
      simp only [List.cons_append, List.nil_append, List.mem_cons, List.not_mem_nil, or_false] at hs
      rcases hs with rfl | rfl | rfl | rfl | rfl | rfl
      · exact ⟨_, ra1, o0⟩
      · exact ⟨_, ra2, o0⟩
      · exact ⟨_, rq1, o1⟩
      · exact ⟨_, rq2, o2⟩
      · exact ⟨_, rq3, o3⟩
      · exact ⟨_, ra4, o4⟩
    have lss : ([.ref a1, .ref a2, .ref q1, .ref q2] ++ [.ref q3, .ref a4] : List V).length = 6 := rfl
    generalize ([.ref a1, .ref a2, .ref q1, .ref q2] ++ [.ref q3, .ref a4] : List V) = ss at oks lss esm ⊢
    clear ra1 ra2 rq1 rq2 rq3 ra4 o0 o1 o2 o3 o4 es1 es2
    refine ⟨_, rfl, p, l, _, 12, rfl, PA, by decide, by decide, by omega, fun m6 H17 m60 m61 P17 K17 => ?_⟩
    have oks' : ∀ s ∈ ss, Okv H17 s := fun s hs => by
      obtain ⟨z, hz, oz⟩ := oks s hs
      exact ⟨z, hz.stay (K17.stay PA), oz⟩
    clear oks
    have st := K17.stay PA
    replace KK := KK.trans K17
    replace er := stayL st er
    replace esm := stayL st esm
    replace PA := P17
    clear st P17 K17
    obtain ⟨n6, rfl⟩ : ∃ n6 : Nat, m6 = (n6 : Int) := ⟨m6.toNat, by omega⟩
    refine ⟨(n6 : Int), rfl, by omega, by omega, for_range (n := n6) (fun i σ G => ∃ (c' : Int) (v4 : Option V) (xs : List V) (Ws : WS), σ = [some (.ref p), some (.int (n : Int)), some (.ref r), some (.ref sm), v4, none] ∧ PenAt G p l c' ∧ c' ≤ c + 6 + 4 * i ∧ Keep p H G ∧ G r = some (.lst xs) ∧ Paired (GivV G) xs Ws ∧ (∀ e ∈ Ws, okK' n NN e.2 ∧ e.1.natAbs ≤ 9 ∧ ∀ r ∈ e.2, r.1.natAbs ≤ 1000000) ∧ Ws.length = i ∧ G sm = some (.lst ss) ∧ ∀ s ∈ ss, Okv G s)
      ⟨_, none, [], [], rfl, PA, by omega, KK, er, .nil, (fun e he => nomatch he), rfl, esm, oks'⟩ ?_ ?_⟩
    · clear PA KK er esm oks'
      rintro i σ G hi ⟨c', v4, xs, Ws, rfl, PA, hc, KK, er, pr, okW, lW, esm, oks⟩
      refine ⟨_, rfl, .inl ⟨rfl, _, SqL.of er⟩, _, rfl, p, l, c', 9, rfl, PA, by decide, by decide, by omega, fun m G1 m0 m1 P1 K1 => ⟨_, _, rfl, rfl, ?_⟩⟩
      have st := K1.stay PA
      replace KK := KK.trans K1
      replace er := stayL st er
      replace esm := stayL st esm
      replace pr := Paired.mapP pr fun _ _ h => GivV.stay st h
      have oks1 : ∀ s ∈ ss, Okv G1 s := fun s hs => by
        obtain ⟨z, hz, oz⟩ := oks s hs
        exact ⟨z, hz.stay st, oz⟩
      clear st oks PA K1
      refine ⟨_, rfl, (n : Int), rfl, by omega, by omega, fun D nD => ?_⟩
      rw [Int.toNat_natCast]
      obtain ⟨pD, lD⟩ := P1.ne nD
      refine lc_range (lo := 0) (n := n) (fun j G' => ∃ (c'' : Int) (ys : List V) (rs : List (Int × Int)), PenAt G' p l c'' ∧ c'' ≤ c' + 1 + j ∧ Keep p G1 G' ∧ G' D = some (.lst ys) ∧ Paired (RatV G') ys rs ∧ rs.length = j ∧ ∀ z ∈ rs, okS z)
        ⟨_, [], [], P1.new nD, by omega, Keep.refl.new nD, upd_same, .nil, rfl, fun z hz => nomatch hz⟩ ?_ ?_
      · rintro j G' hj ⟨c'', ys, rs, P', hc', K', eD, pR, ln, okrs⟩
        refine ⟨rfl, ?_⟩
        refine ⟨_, rfl, _, rfl, p, l, sm, c'', ss, rfl, P', SqL.of (K' sm _ psm.symm esm), by omega, by omega, by omega, fun x G2 hx P2 K2 => ?_⟩
        obtain ⟨z, hz, oz⟩ := oks1 x hx
        replace hz := hz.stay (Keep.stay (K'.trans K2) P1)
        have eD2 := K2 D _ pD.symm eD
        have st2 := K2.stay P'
        have ly : ys.length = j := (Paired.length pR).trans ln
        refine ⟨ys, eD2, by rw [ly, sizeLine_eq]; omega, _, ys ++ [x], rs ++ [z], P2.put pD lD, by omega, ?_, upd_same, ?_, ?_, ?_⟩
        · intro b o nb e
          rw [upd_ne (ne_of_none e nD)]
          exact K2 b o nb (K' b o nb e)
        · exact Paired.snoc (Paired.mapP pR fun _ _ h => (RatV.stay st2 h).put eD2) (hz.put eD2)
        · rw [List.length_append, ln]
          rfl
        · intro y hy
          rcases List.mem_append.mp hy with q | q
          · exact okrs y q
          · rw [List.mem_singleton.mp q]
            exact oz
      rintro G3 ⟨c3, ys, rs, P3, hc3, K3, eD, pR, ln, okrs⟩
      have st := K3.stay P1
      replace KK := KK.trans K3
      replace er := stayL st er
      replace esm := stayL st esm
      replace pr := Paired.mapP pr fun _ _ h => GivV.stay st h
      have oks3 : ∀ s ∈ ss, Okv G3 s := fun s hs => by
        obtain ⟨z, hz, oz⟩ := oks1 s hs
        exact ⟨z, hz.stay st, oz⟩
      clear st oks1 P1 K3 nD pD lD
      refine ⟨D, _, rfl, .inl ⟨SqL.of eD, fun t1 nt1 => ?_⟩⟩
      have st := Stay.new (Stay.refl (H := G3)) nt1 (o := .tup ys)
      replace P3 := P3.new nt1 (o := .tup ys)
      replace KK := KK.new nt1 (o := .tup ys)
      replace er := stayL st er
      replace esm := stayL st esm
      replace pr := Paired.mapP pr fun _ _ h => GivV.stay st h
      replace pR := Paired.mapP pR fun _ _ h => RatV.stay st h
      have et1 : (upd G3 t1 (.tup ys)) t1 = some (.tup ys) := upd_same
      have oks4 : ∀ s ∈ ss, Okv (upd G3 t1 (.tup ys)) s := fun s hs => by
        obtain ⟨z, hz, oz⟩ := oks3 s hs
        exact ⟨z, hz.stay st, oz⟩
      clear st oks3 nt1 eD
      generalize (upd G3 t1 (.tup ys)) = G4 at P3 KK er esm pr pR et1 oks4 ⊢
      refine ⟨(by show 2 ≤ sizeLine; rw [sizeLine_eq]; decide), fun t2 nt2 => ?_⟩
      have st := Stay.new (Stay.refl (H := G4)) nt2 (o := .tup [.int (m - 4), .ref t1])
      replace P3 := P3.new nt2 (o := .tup [.int (m - 4), .ref t1])
      replace KK := KK.new nt2 (o := .tup [.int (m - 4), .ref t1])
      replace er := stayL st er
      replace esm := stayL st esm
      replace pr := Paired.mapP pr fun _ _ h => GivV.stay st h
      replace pR := Paired.mapP pR fun _ _ h => RatV.stay st h
      replace et1 := stayT st et1
      have et2 : (upd G4 t2 (.tup [.int (m - 4), .ref t1])) t2 = some (.tup [.int (m - 4), .ref t1]) := upd_same
      have oks5 : ∀ s ∈ ss, Okv (upd G4 t2 (.tup [.int (m - 4), .ref t1])) s := fun s hs => by
        obtain ⟨z, hz, oz⟩ := oks4 s hs
        exact ⟨z, hz.stay st, oz⟩
      clear st oks4 nt2
      generalize (upd G4 t2 (.tup [.int (m - 4), .ref t1])) = G5 at P3 KK er esm pr pR et1 et2 oks5 ⊢
      have lx : xs.length = i := (Paired.length pr).trans lW
      refine ⟨r, xs, _, rfl, rfl, er, by rw [lx, sizeLine_eq]; omega, ?_⟩
      have gv : GivV G5 (.ref t2) (m - 4, rs) := ⟨t2, t1, rfl, et2, t1, rfl, .tup et1 (ratv_nk pR)⟩
      refine ⟨c3, _, xs ++ [.ref t2], Ws ++ [(m - 4, rs)], rfl, P3.put prn lrn, by omega, ?_, upd_same, ?_, ?_, ?_, ?_, ?_⟩
      · intro b o nb e
        rw [upd_ne (ne_of_none e nr0)]
        exact KK b o nb e
      · exact Paired.snoc (Paired.mapP pr fun _ _ h => GivV.put er h) (gv.put er)
      · intro e he
        rcases List.mem_append.mp he with q | q
        · exact okW e q
        · rw [List.mem_singleton.mp q]
          exact ⟨⟨ln, fun r hr => (okrs r hr).1⟩, by show (m - 4).natAbs ≤ 9; omega, fun r hr => (okrs r hr).2⟩
      · rw [List.length_append, lW]
        rfl
      · rw [upd_ne rsm.symm]
        exact esm
      · intro s hs
        obtain ⟨z, hz, oz⟩ := oks5 s hs
        exact ⟨z, hz.put er, oz⟩
    · rintro σ G ⟨c', v4, xs, Ws, rfl, P3, hc, K3, er3, pr, okW, lW, esm3, oks⟩
      exact ⟨_, rfl, k r xs Ws c' G er3 nr0 pr okW (by omega) (by omega) P3 K3⟩
end
end GG

namespace GG
open PySem PySem.Spec PyProof.Rows L2 RZ
theorem tuple_mul1 (l : Addr) (items : Array Value) (n : Nat) (dd : Option Addr) (sl : Array (Option Value)) (u : Tok) :
    Meets (Builtin.«tuple.__mul__» { pos := [Value.ref l, Value.int 1 u] }) fun _ R s =>
      s.heap.get? l = some { cls := Value.type "tuple", dict := dd, data := Data.seq items n, slots := sl } ∧ R (Except.ok (Flow.ret (Value.ref l))) s := by
  refine Meets.of_wp fun prog w A R s h => ?_
  obtain ⟨hp, g, d, tk, os⟩ := s
  obtain ⟨hl, h⟩ := h
  have f1 := AutoSeq1.idx_int
  conv => arg 3; whnf
  refine wpAny_bind (m := load l) (wpAny_load' hl ?_)
  conv => arg 3; whnf
  have c1 : (items.isEmpty || (1 : Int) == 1) = true := by simp
  refine @wpAny_ite_true _ _ _ _ _ _ _ _ _ _ (decide_eq_true c1) ?_
  conv => arg 3; whnf
  refine wpAny_bind (m := load l) (wpAny_load' hl ?_)
  conv => arg 3; whnf
  refine wpAny_bind (m := rule _) (wpAny_rule ?_)
  conv => arg 3; whnf
  exact wpAny_pure ⟨_, rfl, h⟩
def rRep1 (K : PySem.W.Frag) : R2 := fun x y H Q => ∃ l k xs, x = .ref l ∧ y = .int k ∧ SqT K H l xs ∧ k = 1 ∧ Q (.ref l) H
theorem op_rep1 {X : Cx} : OpR X (binaryOp .Mult) (rRep1 X.K) := by
  intro pins s σ H x y v u Q I rx ry h
  obtain ⟨l, k, xs, rfl, rfl, hT, rfl, q⟩ := h
  cases rx
  obtain ⟨t, rfl⟩ := ry
  obtain ⟨its, r, ⟨w, ho, hc, n, hd⟩, hs⟩ := Inv.tuple I hT
  obtain ⟨cls, dd, data, sl⟩ := w
  dsimp only at hc hd
  subst hc hd
  refine wpAny_binaryOp_repeat_ref (by decide) ⟨_, ho, rfl⟩ (fun s' => typeIs_int s' 1 t) noFill_tuple_mul F.fills_int_mul F.slot_int_rmul repeat_tuple F.slot_int_index.lookup
    (call_meets F.slot_int_rmul (typeIs_int s 1 t) F.entry_int_rmul (F.args_int_rmul_2 _ _) (int_rmul_tuple 1 t l its.toArray n dd sl) ⟨ho, rfl, ⟨_, ho, rfl⟩, call_meets F.slot_tuple_mul ⟨_, ho, rfl⟩ F.entry_tuple_mul (F.args_tuple_mul_2 _ _) (tuple_mul1 l its.toArray n dd sl t) ⟨ho, ?_⟩⟩)
  exact ⟨.ref l, H, I, rfl, q⟩
/-- tuple * k, from 1 on -/
def rRepA : R2 := fun x y H Q => ∃ l k xs, x = .ref l ∧ y = .int k ∧ H l = some (.tup xs) ∧ xs ≠ [] ∧ xs.length ≤ 1000 ∧ 1 ≤ k ∧ k ≤ 1000 ∧ ∀ p H', H' p = some (.tup (List.replicate k.toNat xs).flatten) → Same H H' → Q (.ref p) H'
theorem op_repA {X : Cx} : OpR X (binaryOp .Mult) rRepA := by
  intro pins s σ H x y v u Q I rx ry h
  obtain ⟨l, k, xs, ex, ey, hT, ne, ln, k1, k2, q⟩ := h
  by_cases e : k = 1
  · refine op_rep1 pins s σ H x y v u Q I rx ry ⟨l, k, xs, ex, ey, SqT.of hT, e, q l H ?_ (L2.Same.refl H)⟩
    rw [e, hT]
    simp
  · exact op_repT pins s σ H x y v u Q I rx ry ⟨l, k, xs, ex, ey, SqT.of hT, ne, by omega, k2, ln, fun p np => q p _ upd_same (GG.Same.new (L2.Same.refl H) np)⟩
theorem rep1 (n : Nat) (v : V) : (List.replicate n [v]).flatten = List.replicate n v := by
  induction n with
  | zero => rfl
  | succ n ih => rw [List.replicate_succ, List.flatten_cons, ih, List.replicate_succ]; rfl
end GG

namespace GG
open PySem PySem.Spec PyProof.Rows L2 RZ
theorem log250 {i : Int} (h : i.natAbs < 2 ^ 250) : i.natAbs.log2 < 1920 := log2_small (Nat.lt_of_lt_of_le h (Nat.pow_le_pow_right (by decide) (by decide)))
/-! ### repr of any datum -/
theorem call_reprD {X : Cx} (hg : X.A.guards = some []) (hu : X.A.units + 80 < cLine) : CallR X (.builtin "repr") (fun xs H Q => ∃ v d, xs = [v] ∧ Da H v d ∧ noL d = true ∧ d.showable = true ∧ d.depth ≤ 60 ∧ d.shown.length ≤ sizeLine ∧ Q (.str d.shown) H) := by
  intro pins s σ H xs us Q I r h
  obtain ⟨v, d, rfl, da, hn, hs, hd, hz, q⟩ := h
  have refs : ∀ a, v = .ref a → wpAny (model X.prog X.w) X.A (call (.builtin "repr") us) (EP X pins σ Q) X.xe s := fun a e => by
    subst e
    exact call_repr hg hu pins s σ H [.ref a] us Q I r ⟨a, d, rfl, da.dt hn, hs, hd, hz, q⟩
  cases da with
  | lst _ _ _ => exact refs _ rfl
  | tup _ _ => exact refs _ rfl
  | dic _ _ => exact refs _ rfl
  | non =>
    obtain ⟨u, rfl, ru⟩ := vals1 r
    cases ru
    rw [PyData.shown_none] at q
    exact PySem.P.repr_of_none ⟨.str _, H, I.tok _, ⟨_, rfl⟩, q⟩
  | bl b =>
    obtain ⟨u, rfl, ru⟩ := vals1 r
    cases ru
    rw [PyData.shown_bool] at q
    refine PySem.P.repr_of_bool ⟨.str _, H, I.tok _, ⟨_, rfl⟩, ?_⟩
    cases b <;> exact q
  | int i =>
    obtain ⟨u, rfl, t, rfl⟩ := vals1 r
    rw [PyData.shown_int] at q
    simp only [PyData.showable, decide_eq_true_eq] at hs
    exact PySem.P.repr_of_int hs ⟨.str _, H, I.tok _, ⟨_, rfl⟩, q⟩
  | str x =>
    obtain ⟨u, rfl, t, rfl⟩ := vals1 r
    rw [PyData.shown_str] at q hz
    exact PySem.P.repr_of_str ⟨.str _, H, I.tok _, ⟨_, rfl⟩, q⟩ hz
theorem bRepr : bootBuiltins "repr" = some (.builtin "repr") := by decide +kernel
/-! ### texts that are right all through -/
theorem ok_of {s : String} : PyData.strOk (Str.ofString s) = true := by
  unfold PyData.strOk
  rw [Str.ofString_eq_toList]
  rw [Array.all_eq_true']
  intro c hc
  rw [List.mem_toArray] at hc
  obtain ⟨x, _, rfl⟩ := List.mem_map.mp hc
  have v := x.valid
  refine decide_eq_true ?_
  show x.val.toNat < 0x110000
  rcases v with v | v
  · exact Nat.lt_trans v (by decide)
  · exact v.2
theorem ok_app {x y : Str} (hx : PyData.strOk x = true) (hy : PyData.strOk y = true) : PyData.strOk (x ++ y) = true := by
  unfold PyData.strOk at *
  show (x.cps ++ y.cps).all _ = true
  rw [Array.all_append, hx, hy]
  rfl
theorem ok_join {sep : Str} (hs : PyData.strOk sep = true) : ∀ {l : List Str}, (∀ x ∈ l, PyData.strOk x = true) → PyData.strOk (Str.join sep l) = true
  | [], _ => (by decide +kernel : PyData.strOk Str.empty = true)
  | [x], h => h x List.mem_cons_self
  | x :: y :: r, h => ok_app (ok_app (h x List.mem_cons_self) hs) (ok_join hs fun z hz => h z (List.mem_cons_of_mem _ hz))
/-- what may be shown, and compared as a text -/
structure Sw (k n : Nat) (d : PyData) : Prop where
  sh : d.showable = true
  dp : d.depth ≤ k
  ln : d.shown.length ≤ n
  st : PyData.strOk d.shown = true
theorem Sw.mono {k k' n n' : Nat} {d : PyData} (h : Sw k n d) (a : k ≤ k') (b : n ≤ n') : Sw k' n' d := ⟨h.sh, Nat.le_trans h.dp a, Nat.le_trans h.ln b, h.st⟩
theorem all_shown {ds : List PyData} (h : ∀ d ∈ ds, PyData.strOk d.shown = true) : ∀ x ∈ PyData.shownAll ds, PyData.strOk x = true := by
  induction ds with
  | nil => intro x hx; simp [PyData.shownAll] at hx
  | cons d ds ih =>
    intro x hx
    rw [PyData.shownAll_cons] at hx
    rcases List.mem_cons.mp hx with rfl | m
    · exact h d List.mem_cons_self
    · exact ih (fun z hz => h z (List.mem_cons_of_mem _ hz)) x m
theorem sh_all {ds : List PyData} (h : ∀ d ∈ ds, d.showable = true) : PyData.showableAll ds = true := by
  induction ds with
  | nil => simp [PyData.showableAll]
  | cons d ds ih =>
    simp only [PyData.showableAll, Bool.and_eq_true]
    exact ⟨h d List.mem_cons_self, ih fun z hz => h z (List.mem_cons_of_mem _ hz)⟩
theorem dp_all {k : Nat} {ds : List PyData} (h : ∀ d ∈ ds, d.depth ≤ k) : PyData.depthAll ds ≤ k := by
  induction ds with
  | nil => simp [PyData.depthAll]
  | cons d ds ih =>
    simp only [PyData.depthAll]
    have h1 := h d List.mem_cons_self
    have h2 := ih fun z hz => h z (List.mem_cons_of_mem _ hz)
    omega
theorem Sw.tuple {k n : Nat} {ds : List PyData} (h : ∀ d ∈ ds, Sw k n d) : Sw (k + 1) ((n + 2) * ds.length + 4) (.tuple ds) := by
  refine ⟨?_, ?_, tuple_len ds n fun d hd => (h d hd).ln, ?_⟩
  · simp only [PyData.showable]
    exact sh_all fun d hd => (h d hd).sh
  · have := dp_all fun d hd => (h d hd).dp
    simp only [PyData.depth]
    omega
  · rw [PyData.shown_tuple]
    exact ok_app (ok_app ok_of (ok_join ok_of (all_shown fun d hd => (h d hd).st))) ok_of
theorem Sw.list {k n : Nat} {ds : List PyData} (h : ∀ d ∈ ds, Sw k n d) : Sw (k + 1) ((n + 2) * ds.length + 4) (.list ds) := by
  refine ⟨?_, ?_, list_len ds n fun d hd => (h d hd).ln, ?_⟩
  · simp only [PyData.showable]
    exact sh_all fun d hd => (h d hd).sh
  · have := dp_all fun d hd => (h d hd).dp
    simp only [PyData.depth]
    omega
  · rw [PyData.shown_list]
    exact ok_app (ok_app ok_of (ok_join ok_of (all_shown fun d hd => (h d hd).st))) ok_of
theorem Sw.int {i : Int} (h : i.natAbs < 2 ^ 250) : Sw 0 2000 (.int i) := by
  refine ⟨?_, ?_, ?_, ?_⟩
  · simp only [PyData.showable, decide_eq_true_eq]
    exact log250 h
  · simp [PyData.depth]
  · rw [PyData.shown_int]
    exact Nat.le_trans (int_text_len_1921 (log250 h)) (by decide)
  · rw [PyData.shown_int]
    exact ok_of
/-! ### sums again -/
theorem total_app (A B : WS) (K : RK) : total (A ++ B) K = total A K + total B K := by
  unfold total
  induction A with
  | nil => simp
  | cons e A ih =>
    rw [List.cons_append, List.map_cons, List.map_cons, List.sum_cons, List.sum_cons, ih, Int.add_assoc]
theorem total_one (e : Int × RK) (K : RK) : total [e] K = if e.2 = K then e.1 else 0 := by
  unfold total
  rw [List.map_cons, List.map_nil, List.sum_cons, List.sum_nil, Int.add_zero]
theorem total_rev (A : WS) (K : RK) : total A.reverse K = total A K := by
  induction A with
  | nil => rfl
  | cons e A ih =>
    rw [List.reverse_cons, total_app, ih, show e :: A = [e] ++ A from rfl, total_app, Int.add_comm]
def again (n : Nat) (Ws : WS) : WS := Ws.reverse ++ [(0, List.replicate n (3, 1)), (7, List.replicate n (0, 1))]
theorem again_total {n : Nat} {Ws : WS} {K : RK} (h : wants K = true) : total (again n Ws) K = total Ws K := by
  unfold again
  rw [total_app, total_rev, show [((0 : Int), List.replicate n ((3 : Int), (1 : Int))), (7, List.replicate n (0, 1))] = [(0, List.replicate n (3, 1))] ++ [(7, List.replicate n (0, 1))] from rfl, total_app, total_one, total_one]
  have h0 : ¬ List.replicate n ((0 : Int), (1 : Int)) = K := fun e => by
    obtain ⟨r, hr, z⟩ := (wants_iff K).mp h
    rw [← e] at hr
    rw [(List.mem_replicate.mp hr).2] at z
    exact z rfl
  dsimp only
  rw [if_neg h0]
  split <;> omega
theorem okK_rep {n : Nat} {t : Int} (t0 : 0 ≤ t) (t1 : t.natAbs ≤ 1000000) : okK' n NN (List.replicate n (t, 1)) :=
  ⟨List.length_replicate, fun r hr => by rw [(List.mem_replicate.mp hr).2]; exact okR_one t0 t1⟩
theorem again_ok {n : Nat} {Ws : WS} (ok : ∀ e ∈ Ws, okK' n NN e.2) : ∀ e ∈ again n Ws, okK' n NN e.2 := by
  intro e he
  unfold again at he
  rcases List.mem_append.mp he with q | q
  · exact ok e (List.mem_reverse.mp q)
  · simp only [List.mem_cons, List.not_mem_nil, or_false] at q
    rcases q with rfl | rfl
    · exact okK_rep (by decide) (by decide)
    · exact okK_rep (by decide) (by decide)
theorem again_plain {n : Nat} {Ws : WS} (ok : ∀ e ∈ Ws, okK' n NN e.2) : plainL n (ofWs (again n Ws)) = lawL Ws := law_plain (by decide) ok (again_ok ok) fun _ h => again_total h
theorem first_plain {n : Nat} {Ws : WS} (ok : ∀ e ∈ Ws, okK' n NN e.2) : plainL n (ofWs Ws) = lawL Ws := law_plain (by decide) ok ok fun _ _ => rfl
/-! ### bids given as they may be -/
def BidV (H : Hp) (n : Nat) (v : V) (e : Int × RK) : Prop := ∃ d, Da H v d ∧ isBid d (n : Int) = true ∧ smallBid d ∧ bidOf d = e
theorem BidV.stay {H H' : Hp} (k : Stay H H') {n : Nat} {v : V} {e : Int × RK} (h : BidV H n v e) : BidV H' n v e := by
  obtain ⟨d, a, b⟩ := h
  exact ⟨d, a.stay k, b⟩
theorem bids_all {H : Hp} {n : Nat} {vs : List V} {Ws : WS} (h : Paired (BidV H n) vs Ws) : ∃ rd, DaAll H vs rd ∧ rd.map bidOf = Ws ∧ rd.length = Ws.length ∧ ∀ d ∈ rd, isBid d (n : Int) = true ∧ smallBid d := by
  induction h with
  | nil => exact ⟨[], .nil, rfl, rfl, fun d hd => nomatch hd⟩
  | cons a _ ih =>
    obtain ⟨rd, h1, h2, h4, h3⟩ := ih
    obtain ⟨d, b1, b2, b3, b4⟩ := a
    refine ⟨d :: rd, .cons b1 h1, by rw [List.map_cons, h2, b4], by rw [List.length_cons, List.length_cons, h4], fun x hx => ?_⟩
    rcases List.mem_cons.mp hx with rfl | q
    · exact ⟨b2, b3⟩
    · exact h3 x q
theorem paired_rev {α β : Type} {G : α → β → Prop} {l : List α} {m : List β} (h : Paired G l m) : Paired G l.reverse m.reverse := by
  induction h with
  | nil => exact .nil
  | cons a _ ih =>
    rw [List.reverse_cons, List.reverse_cons]
    exact Paired.snoc ih a
theorem rows_ok {n : Nat} {Ws : WS} {rd : List PyData} (n1 : 1 ≤ n) (n3 : n ≤ 3) (l60 : Ws.length ≤ 60) (ok : ∀ e ∈ Ws, okK' n NN e.2) (e : rd.map bidOf = Ws) (ln : rd.length = Ws.length) (g : ∀ d ∈ rd, isBid d (n : Int) = true ∧ smallBid d) : RowsOk n NN rd := by
  refine ⟨by omega, n1, n3, by decide, by decide, fun d hd => ⟨(g d hd).1, (g d hd).2, fun r hr => ?_⟩⟩
  have m : bidOf d ∈ Ws := by
    rw [← e]
    exact List.mem_map.mpr ⟨d, hd, rfl⟩
  exact ((ok _ m).2 r hr).1
theorem plain_rowD (n : Nat) (rd : List PyData) {Ws : WS} (e : rd.map bidOf = Ws) : plainD n (wOf rd) = .tuple ((plainL n (ofWs Ws)).map rowD) := by
  rw [wOf_map, e]
  rfl
/-- a number as it may be passed -/
def NumD (d : PyData) (r : Int × Int) : Prop := isR d = true ∧ ratOf d = r ∧ smallR d
theorem bid_ok {n : Nat} {w : Int} {d y : PyData} {ds : List PyData} {K : RK} (e1 : seqOf d = some [.int w, y]) (e2 : seqOf y = some ds) (nd : Paired NumD ds K) (n3 : n ≤ 3) (ok : okK' n NN K) : isBid d (n : Int) = true ∧ smallBid d ∧ bidOf d = (w, K) := by
  have ln := Paired.length nd
  have lk := ok.1
  have each : ∀ (ds : List PyData) (K : RK), Paired NumD ds K → (∀ r ∈ K, okR NN r) → ds.all isZ = true ∧ (∀ x ∈ ds, smallR x) ∧ ds.map ratOf = K := by
    intro ds K h
    induction h with
    | nil => intro _; exact ⟨rfl, (fun x hx => nomatch hx), rfl⟩
    | @cons x r ds K a _ ih =>
      intro o
      obtain ⟨i1, i2, i3⟩ := ih fun r hr => o r (List.mem_cons_of_mem _ hr)
      obtain ⟨a1, a2, a3⟩ := a
      have o1 := (o r List.mem_cons_self).2.2
      refine ⟨?_, ?_, by rw [List.map_cons, i3, a2]⟩
      · rw [List.all_cons, i1, Bool.and_true]
        unfold isZ
        rw [a1, a2, decide_eq_true o1]
        rfl
      · intro z hz
        rcases List.mem_cons.mp hz with rfl | q
        · exact a3
        · exact i2 z q
  obtain ⟨h1, h2, h3⟩ := each ds K nd ok.2
  refine ⟨?_, ?_, ?_⟩
  · unfold isBid
    rw [e1]
    dsimp only
    unfold areP
    rw [e2]
    dsimp only
    rw [h1, decide_eq_true (by omega)]
    rfl
  · unfold smallBid
    rw [e1]
    dsimp only
    unfold smallS
    rw [e2]
    exact ⟨by omega, h2⟩
  · unfold bidOf
    rw [e1]
    dsimp only
    rw [e2]
    dsimp only
    rw [h3]
/-! ### what is shown -/
theorem lawL_mem {Ws : WS} {e : Int × RK} (h : e ∈ lawL Ws) : ∃ K, e = (total Ws K, K) ∧ K ∈ lawKeys Ws := by
  unfold lawL at h
  obtain ⟨K, hK, rfl⟩ := List.mem_map.mp h
  exact ⟨K, rfl, (List.mem_filter.mp hK).1⟩
theorem lawL_len (Ws : WS) : (lawL Ws).length ≤ Ws.length := by
  unfold lawL
  rw [List.length_map]
  exact Nat.le_trans (List.length_filter_le _ _) (lawKeys_len Ws)
theorem total_abs {Ws : WS} {K : RK} (h : ∀ e ∈ Ws, e.1.natAbs ≤ 9) : (total Ws K).natAbs ≤ 9 * Ws.length := by
  unfold total
  induction Ws with
  | nil => exact Nat.zero_le _
  | cons e Ws ih =>
    have i := ih fun x hx => h x (List.mem_cons_of_mem _ hx)
    have e1 := h e List.mem_cons_self
    rw [List.map_cons, List.sum_cons, List.length_cons]
    split <;> omega
theorem sw_rat {r : Int × Int} (h : okR NN r) : Sw 1 4008 (dR r) := by
  have h2 : r.2.natAbs ≤ 693000 := Nat.le_of_dvd (by decide) h.1.2.1
  have a : Sw 0 2000 (.int r.1) := Sw.int (small250 h.1.2.2)
  have b : Sw 0 2000 (.int r.2) := Sw.int (sm250 (by omega))
  exact Sw.tuple (ds := [.int r.1, .int r.2]) fun d hd => by
    simp only [List.mem_cons, List.not_mem_nil, or_false] at hd
    rcases hd with rfl | rfl
    · exact a
    · exact b
theorem sw_row {n : Nat} {e : Int × RK} (n3 : n ≤ 3) (w : e.1.natAbs ≤ 1000) (ok : okK' n NN e.2) : Sw 3 30000 (rowD e) := by
  have a : Sw 2 12040 (.tuple (e.2.map dR)) := by
    refine (Sw.tuple (k := 1) (n := 4008) fun d hd => ?_).mono (Nat.le_refl _) ?_
    · obtain ⟨r, hr, rfl⟩ := List.mem_map.mp hd
      exact sw_rat (ok.2 r hr)
    · rw [List.length_map, ok.1]
      omega
  have b : Sw 2 12040 (.int e.1) := (Sw.int (sm250 (by omega))).mono (by decide) (by decide)
  refine (Sw.tuple (ds := [.int e.1, .tuple (e.2.map dR)]) (k := 2) (n := 12040) fun d hd => ?_).mono (Nat.le_refl _) (by show (12040 + 2) * 2 + 4 ≤ 30000; decide)
  simp only [List.mem_cons, List.not_mem_nil, or_false] at hd
  rcases hd with rfl | rfl
  · exact b
  · exact a
theorem sw_law {n : Nat} {Ws : WS} (n3 : n ≤ 3) (l11 : Ws.length ≤ 11) (ok : ∀ e ∈ Ws, okK' n NN e.2 ∧ e.1.natAbs ≤ 9) : Sw 4 400000 (.tuple ((lawL Ws).map rowD)) := by
  refine (Sw.tuple (k := 3) (n := 30000) fun d hd => ?_).mono (Nat.le_refl _) ?_
  · obtain ⟨e, he, rfl⟩ := List.mem_map.mp hd
    obtain ⟨K, rfl, hK⟩ := lawL_mem he
    have hin := ((lawKeys_ok (n := n) (N := NN) (by decide) fun e he => (ok e he).1).2 K).mp hK
    obtain ⟨z, hz, rfl⟩ := List.mem_map.mp hin
    refine sw_row n3 ?_ (ok z hz).1
    have := total_abs (K := z.2) fun e he => (ok e he).2
    show (total Ws z.2).natAbs ≤ 1000
    omega
  · rw [List.length_map]
    have := lawL_len Ws
    omega
theorem noL_rows (es : List (Int × RK)) : noLs (es.map rowD) = true := by
  induction es with
  | nil => simp [noLs]
  | cons x xs ih => simp [noLs, noL, rowD, noL_dRs]; exact ih
theorem sw_pair {n : Nat} {Ws : WS} (n3 : n ≤ 3) (l11 : Ws.length ≤ 11) (ok : ∀ e ∈ Ws, okK' n NN e.2 ∧ e.1.natAbs ≤ 9) : Sw 5 900000 (.tuple [.int (n : Int), .tuple ((lawL Ws).map rowD)]) := by
  refine (Sw.tuple (ds := [.int (n : Int), .tuple ((lawL Ws).map rowD)]) (k := 4) (n := 400000) fun d hd => ?_).mono (Nat.le_refl _) (by show (400000 + 2) * 2 + 4 ≤ 900000; decide)
  simp only [List.mem_cons, List.not_mem_nil, or_false] at hd
  rcases hd with rfl | rfl
  · exact (Sw.int (sm250 (by omega))).mono (by decide) (by decide)
  · exact sw_law n3 l11 ok
end GG

namespace GG
open PySem PySem.Spec PyProof.Rows L2
/-! ### what is new -/
def mask (H G : Hp) : Hp := fun b => match H b with
  | some _ => none
  | none => G b
theorem mask_at {H G : Hp} {a : Addr} {o : HO} (z : H a = none) (e : G a = some o) : mask H G a = some o := by
  unfold mask
  rw [z]
  exact e
theorem mask_in {H G : Hp} {a : Addr} {o : HO} (e : mask H G a = some o) : H a = none ∧ G a = some o := by
  unfold mask at e
  cases q : H a with
  | some x => rw [q] at e; cases e
  | none => rw [q] at e; exact ⟨rfl, e⟩
theorem mask_stay {H G G' : Hp} (k : Stay G G') : Stay (mask H G) (mask H G') := fun b o e n => by
  obtain ⟨z, e2⟩ := mask_in e
  exact mask_at z (k b o e2 n)
theorem free_of {H G : Hp} {p l t : Addr} {c : Int} (K : Keep p H G) (P : PenAt G p l c) (n : G t = none) : H t = none := by
  cases e : H t with
  | none => rfl
  | some o =>
    exfalso
    by_cases q : t = p
    · obtain ⟨_, _, _, _, I⟩ := P
      rw [q, I.obj] at n
      cases n
    · rw [K t o q e] at n
      cases n
/-- what stands in B stands in G, be it changed -/
def Dm (B G : Hp) : Prop := ∀ b, G b = none → B b = none
theorem Dm.refl {B : Hp} : Dm B B := fun _ h => h
theorem Dm.trans {A B G : Hp} (a : Dm A B) (b : Dm B G) : Dm A G := fun x h => a x (b x h)
theorem Dm.keep {G G' : Hp} {p l : Addr} {c : Int} (K : Keep p G G') (P : PenAt G' p l c) : Dm G G' := fun b h => free_of K P h
theorem Dm.upd {G : Hp} {x : Addr} {o : HO} : Dm G (L2.upd G x o) := fun b h => by
  by_cases q : b = x
  · rw [q, upd_same] at h
    cases h
  · rw [upd_ne q] at h
    exact h
theorem Dm.same {G G' : Hp} (S : Same G G') : Dm G G' := fun b h => by
  cases e : G b with
  | none => rfl
  | some o => rw [S b o e] at h; cases h
theorem mask_le {A B G : Hp} (d : Dm A B) : Stay (mask B G) (mask A G) := fun b o e _ => by
  obtain ⟨z, e2⟩ := mask_in e
  exact mask_at (d b z) e2
theorem mask_sub {B G : Hp} : Stay (mask B G) G := fun b o e _ => (mask_in e).2
theorem mask_upd {B G : Hp} {x : Addr} {o u : HO} (h : B x = some u) : Stay (mask B G) (mask B (L2.upd G x o)) := fun b o' e _ => by
  obtain ⟨z, e2⟩ := mask_in e
  refine mask_at z ?_
  rw [upd_ne (fun q => by rw [q, h] at z; cases z)]
  exact e2
def spPassed2 : Sp := fun vs H Q _ => ∃ (p l r : Addr) (c : Int) (a : Int × Int), vs = [.ref p, .ref r] ∧ PenAt H p l c ∧ c < 10000000 ∧ H r = some (.tup [.int a.1, .int a.2]) ∧ mid a ∧
  ∀ (v : V) (d : PyData) (c' : Int) (H' : Hp), c ≤ c' → c' ≤ c + 3 → PenAt H' p l c' → Keep p H H' → Da (mask H H') v d → isR d = true → ratOf d = a → smallR d → Q v H'
theorem mid_of {N : Nat} (N0 : 0 < N) (N1 : N < 2 ^ 60) {r : Int × Int} (h : okR N r) (h' : r.1.natAbs ≤ 1000000) : mid r := by
  obtain ⟨⟨g0, g1, g2⟩, g3, _⟩ := h
  have l := Nat.le_of_dvd N0 g1
  have up : (2 : Nat) ^ 60 < 2 ^ 100 := by decide
  have up2 : (1000000 : Nat) < 2 ^ 100 := by decide
  exact ⟨by omega, by omega, g0, g3⟩
section
variable {P : Program} {w : World} {K : PySem.W.Frag} {mg : Str → Option Value} {base : Heap}
theorem kn_passed2 (D : DefIs K mg "_law_passed" sPassed) (B1 : Kn P w K mg base "_law_draw" 1 ["_law_pen_here", "_law_many"] spDraw) (B2 : Kn P w K mg base "_law_pick" 2 ["_law_pen_here", "_law_some"] (spPick K)) : Kn P w K mg base "_law_passed" 3 ["_law_pen_here", "_law_ratio"] spPassed2 := by
  refine .of D (fun _ _ _ _ _ _ us hl => match us, hl with | [_, _], _ => rfl) fun _ _ F => ?_
  refine F.ok scPassed (fun vs H Q E h => ?_) (fun cdv A outer s H vs Q E hr h => ?_)
  · obtain ⟨p, l, r, c, a, rfl, _⟩ := h
    rfl
  · obtain ⟨p, l, r, c, a, rfl, P0, c0, er, m, k⟩ := h
    have hr1 : Room 1 _ := hr.mono (by decide)
    refine ⟨_, Evl.pss_cut (ps_if (PW.pt (pw_and (pt_cmpR op_eq (pe_ix ix_tup (pv 1) pe_int (fun _ _ => rfl)) pe_int (nomark _)) (pw_and1 (pt_cmpR op_eq (pe_kn B1 hr1 (pa_cons (pv 0) (pa_cons pe_int pa_nil))) pe_int (nomark _)))))
        (pss_one (ps_ret (pe_ix ix_tup (pv 1) pe_int (fun _ _ => rfl)))) pss_nil)
      (pss_cons (ps_set (i := 2) scPassed.nd rfl (.inl rfl) (pe_kn B2 hr (pa_cons (pv 0) (pa_cons (pe_lst (pa_cons pe_int (pa_cons pe_int (pa_cons pe_int (pa_cons pe_int pa_nil))))) pa_nil))))
      (pss_one (ps_ret (pe_kn B2 hr (pa_cons (pv 0) (pa_cons (pe_lst (pa_cons (pe_tup (pa_cons (pe_op op_mul (pe_ix ix_tup (pv 1) pe_int (fun _ _ => rfl)) (pv 2)) (pa_cons (pe_op op_mul (pe_ix ix_tup (pv 1) pe_int (fun _ _ => rfl)) (pv 2)) pa_nil)))
        (pa_cons (pe_lstM (pa_cons (pe_op op_mul (pe_ix ix_tup (pv 1) pe_int (fun _ _ => rfl)) (pv 2)) (pa_cons (pe_op op_mul (pe_ix ix_tup (pv 1) pe_int (fun _ _ => rfl)) (pv 2)) pa_nil))) pa_nil))) pa_nil)))))), ?_⟩
    have rp : r ≠ p := by
      obtain ⟨_, _, _, _, I⟩ := P0
      exact ne_of er I.obj (by intro z; cases z)
    obtain ⟨m1, m2, m3, m4⟩ := m
    have last : ∀ (n : Int) (c3 : Int) (H3 : Hp), 0 < n → n ≤ 5 → c ≤ c3 → c3 ≤ c + 2 → PenAt H3 p l c3 → Keep p H H3 → ∀ (t : Addr), H3 t = none → ∀ (u : Addr), (upd H3 t (.tup [.int (a.1 * n), .int (a.2 * n)])) u = none → u ≠ sysModules → ∀ (L : Addr), (upd (upd H3 t (.tup [.int (a.1 * n), .int (a.2 * n)])) u (.lst [.int (a.1 * n), .int (a.2 * n)])) L = none →
        ∀ (x : V) (H' : Hp), x ∈ [V.ref t, .ref u] → PenAt H' p l (c3 + 1) → Keep p (upd (upd (upd H3 t (.tup [.int (a.1 * n), .int (a.2 * n)])) u (.lst [.int (a.1 * n), .int (a.2 * n)])) L (.lst [.ref t, .ref u])) H' → Q x H' := by
      intro n c3 H3 n0 n5 x1 x2 P3 K3 t nt u nu mu L nL x H' hx P4 K4
      have K5 := ((K3.new nt).new nu).new nL (o := .lst [.ref t, .ref u])
      have K6 := K5.trans K4
      have tu : t ≠ u := fun z => by
        rw [← z, upd_same] at nu
        cases nu
      have tL : t ≠ L := fun z => by
        rw [← z, upd_ne tu, upd_same] at nL
        cases nL
      have uL : u ≠ L := fun z => by
        rw [← z, upd_same] at nL
        cases nL
      have tp : t ≠ p := fun z => by
        obtain ⟨_, _, _, _, I⟩ := P3
        rw [z, I.obj] at nt
        cases nt
      have up : u ≠ p := fun z => by
        obtain ⟨_, _, _, _, I⟩ := P3.new nt (o := .tup [.int (a.1 * n), .int (a.2 * n)])
        rw [z, I.obj] at nu
        cases nu
      have et : H' t = some (.tup [.int (a.1 * n), .int (a.2 * n)]) := K4 t _ tp (by rw [upd_ne tL, upd_ne tu, upd_same])
      have eu : H' u = some (.lst [.int (a.1 * n), .int (a.2 * n)]) := K4 u _ up (by rw [upd_ne uL, upd_same])
      have b0 : 0 < a.2 * n := Int.mul_pos m3 n0
      have sm : ∀ z : Int, z.natAbs < 2 ^ 100 → (z * n).natAbs < 2 ^ 120 := fun z hz => by
        have := wide_lt (j := n) (b := 20) hz (by omega)
        exact this
      have el := lw_mul n0 m4
      have zt : H t = none := free_of K3 P3 nt
      have zu : H u = none := free_of (K3.new nt (o := .tup [.int (a.1 * n), .int (a.2 * n)])) (P3.new nt) nu
      replace et := mask_at zt et
      replace eu := mask_at zu eu
      simp only [List.mem_cons, List.not_mem_nil, or_false] at hx
      rcases hx with rfl | rfl
      · exact k _ (.tuple [.int (a.1 * n), .int (a.2 * n)]) _ _ (by omega) (by omega) P4 K6 (.tup et (.cons (.int _) (.cons (.int _) .nil))) (decide_eq_true b0) el ⟨sm _ m1, sm _ m2⟩
      · exact k _ (.list [.int (a.1 * n), .int (a.2 * n)]) _ _ (by omega) (by omega) P4 K6 (.lst eu trivial (.cons (.int _) (.cons (.int _) .nil))) (decide_eq_true b0) el ⟨sm _ m1, sm _ m2⟩
    refine ⟨fun σ' H' => σ' = [some (.ref p), some (.ref r), none] ∧ ∃ c1, c ≤ c1 ∧ c1 ≤ c + 1 ∧ PenAt H' p l c1 ∧ Keep p H H', ?_, ?_⟩
    · refine ⟨_, rfl, r, _, _, _, rfl, rfl, .inl (.inl er), atI_nat (j := 1) rfl, rfl, _, rfl, ?_⟩
      refine ite2 (fun e => ?_) (fun _ => ?_)
      · have e1 : a.2 = 1 := V.int.inj (of_decide_eq_true e)
        refine ⟨_, rfl, p, l, c, 2, rfl, P0, by decide, by decide, by omega, fun r0 H1 _ _ P1 K1 => ⟨rfl, _, rfl, ?_⟩⟩
        refine ite2 (fun _ => ?_) (fun _ => ?_)
        · exact ⟨_, rfl, r, _, _, _, rfl, rfl, .inl (.inl (K1 r _ rp er)), atI_nat (j := 0) rfl, k (.int a.1) (.int a.1) _ _ (by omega) (by omega) P1 K1 (.int _) rfl (Prod.ext rfl e1.symm) (Nat.lt_of_lt_of_le m1 (Nat.pow_le_pow_right (by decide) (by decide)))⟩
        · exact ⟨rfl, c + 1, by omega, by omega, P1, K1⟩
      · exact ⟨rfl, c, by omega, by omega, P0, Keep.refl⟩
    · rintro σ' H1 ⟨rfl, c1, x1, x2, P1, K1⟩
      refine ⟨_, rfl, (by show 4 ≤ sizeLine; rw [sizeLine_eq]; decide), fun L nL => ?_⟩
      refine ⟨p, l, L, c1, _, rfl, P1.new nL, .inl (.inl upd_same), (by show 0 < 4; decide), (by show 4 < 1000000; decide), by omega, fun x H3 hx P3 K3 => ?_⟩
      have K03 : Keep p H H3 := (K1.new nL).trans K3
      have er3 := K03 r _ rp er
      obtain ⟨n, rfl, n0, n5⟩ : ∃ n : Int, x = .int n ∧ 0 < n ∧ n ≤ 5 := by
        simp only [List.mem_cons, List.not_mem_nil, or_false] at hx
        rcases hx with rfl | rfl | rfl | rfl
        · exact ⟨1, rfl, by decide, by decide⟩
        · exact ⟨1, rfl, by decide, by decide⟩
        · exact ⟨2, rfl, by decide, by decide⟩
        · exact ⟨5, rfl, by decide, by decide⟩
      refine ⟨_, rfl, _, rfl, r, _, _, _, rfl, rfl, .inl (.inl er3), atI_nat (j := 0) rfl, _, rfl, _, _, rfl, rfl, .inr ⟨by omega, by omega⟩, _, rfl, r, _, _, _, rfl, rfl, .inl (.inl er3), atI_nat (j := 1) rfl, _, rfl, _, _, rfl, rfl, .inr ⟨by omega, by omega⟩, (by show 2 ≤ sizeLine; rw [sizeLine_eq]; decide), fun t nt => ?_⟩
      have er4 : (upd H3 t (.tup [.int (a.1 * n), .int (a.2 * n)])) r = some (.tup [.int a.1, .int a.2]) := by
        rw [upd_ne (ne_of_none er3 nt)]
        exact er3
      refine ⟨_, rfl, r, _, _, _, rfl, rfl, .inl (.inl er4), atI_nat (j := 0) rfl, _, rfl, _, _, rfl, rfl, .inr ⟨by omega, by omega⟩, _, rfl, r, _, _, _, rfl, rfl, .inl (.inl er4), atI_nat (j := 1) rfl, _, rfl, _, _, rfl, rfl, .inr ⟨by omega, by omega⟩, (by show 2 ≤ sizeLine; rw [sizeLine_eq]; decide), fun u nu mu => ?_⟩
      refine ⟨(by show 2 ≤ sizeLine; rw [sizeLine_eq]; decide), fun L2' nL2 => ?_⟩
      refine ⟨p, l, L2', c1 + 1, _, rfl, ((P3.new nt).new nu).new nL2, .inl (.inl upd_same), (by show 0 < 2; decide), (by show 2 < 1000000; decide), by omega, fun x H' hx P4 K4 => ?_⟩
      exact last n _ H3 n0 n5 (by omega) (by omega) P3 K03 t nt u nu mu L2' nL2 x H' hx P4 K4
end
theorem PenAt.same {H H' : Hp} {p l : Addr} {c : Int} (k : Same H H') (h : PenAt H p l c) : PenAt H' p l c := by
  obtain ⟨ns, a, d, f, I⟩ := h
  exact ⟨ns, a, d, f, k _ _ I.obj, k _ _ I.cel, I.len, I.a0, I.d0, I.c0, I.f0, I.f1⟩
end GG

namespace GG
open PySem PySem.Spec PyProof.Rows L2 RZ LamX
theorem DaAll.snoc {H : Hp} {v : V} {d : PyData} (h : Da H v d) : ∀ {vs : List V} {ds : List PyData}, DaAll H vs ds → DaAll H (vs ++ [v]) (ds ++ [d])
  | _, _, .nil => .cons h .nil
  | _, _, .cons a t => .cons a (DaAll.snoc h t)
mutual
theorem Da.putL {H : Hp} {D : Addr} {ys : List V} {o : HO} (eD : H D = some (.lst ys)) : ∀ {v : V} {d : PyData}, Da H v d → noL d = true → Da (upd H D o) v d
  | _, _, .non, _ => .non
  | _, _, .bl b, _ => .bl b
  | _, _, .int i, _ => .int i
  | _, _, .str x, _ => .str x
  | _, _, .lst _ _ _, h => by simp [noL] at h
  | _, _, .tup e t, h => .tup (by rw [upd_ne (ne_of e eD (by intro z; cases z))]; exact e) (t.putL eD (by simpa [noL] using h))
  | _, _, .dic _ _, h => by simp [noL] at h
theorem DaAll.putL {H : Hp} {D : Addr} {ys : List V} {o : HO} (eD : H D = some (.lst ys)) : ∀ {vs : List V} {ds : List PyData}, DaAll H vs ds → noLs ds = true → DaAll (upd H D o) vs ds
  | _, _, .nil, _ => .nil
  | _, _, .cons h t, q => by
    simp only [noLs, Bool.and_eq_true] at q
    exact .cons (h.putL eD q.1) (t.putL eD q.2)
end
theorem made_same {H : Hp} {x dx C : Addr} (nx : H x = none) (ndx : H dx = none) (ne : dx ≠ x) : Same H (upd (upd H dx (.own x)) x (.ins C dx [])) :=
  GG.Same.new (GG.Same.new (L2.Same.refl H) ndx) (by rw [upd_ne ne.symm]; exact nx)
theorem keep_same {H Hm H' : Hp} {x : Addr} (S : Same H Hm) (n : H x = none) (K : Keep x Hm H') : Same H H' := fun b o e => K b o (ne_of_none e n) (S b o e)
theorem num_rep (n : Nat) (z : Int) (h : z.natAbs ≤ 1000000) : Paired NumD (List.replicate n (.int z)) (List.replicate n (z, 1)) := by
  induction n with
  | zero => exact .nil
  | succ n ih =>
    rw [List.replicate_succ, List.replicate_succ]
    have up : (1000000 : Nat) < 2 ^ 120 := by decide
    exact .cons ⟨rfl, rfl, (by show z.natAbs < 2 ^ 120; omega)⟩ ih
theorem da_rep {H : Hp} (n : Nat) (z : Int) : DaAll H (List.replicate n (.int z)) (List.replicate n (.int z)) := by
  induction n with
  | zero => exact .nil
  | succ n ih =>
    rw [List.replicate_succ, List.replicate_succ]
    exact .cons (.int _) ih
/-- a bid that wants one number of each kind alike -/
theorem bid_rep {H : Hp} {n : Nat} {w z : Int} {t q : Addr} (n3 : n ≤ 3) (h0 : 0 ≤ z) (h : z.natAbs ≤ 1000000) (et : H t = some (.tup [.int w, .ref q])) (eq : H q = some (.tup (List.replicate n (.int z)))) : BidV H n (.ref t) (w, List.replicate n (z, 1)) :=
  ⟨.tuple [.int w, .tuple (List.replicate n (.int z))], .tup et (.cons (.int _) (.cons (.tup eq (da_rep n z)) .nil)), bid_ok rfl rfl (num_rep n z h) n3 (okK_rep h0 h)⟩
theorem plain_first {n : Nat} {rd : List PyData} {Ws : WS} (ok : ∀ e ∈ Ws, okK' n NN e.2) (e : rd.map bidOf = Ws) : plainD n (wOf rd) = .tuple ((lawL Ws).map rowD) := by
  rw [plain_rowD n rd e, first_plain ok]
theorem plain_again {n : Nat} {rd : List PyData} {Ws : WS} (ok : ∀ e ∈ Ws, okK' n NN e.2) (e : rd.map bidOf = again n Ws) : plainD n (wOf rd) = .tuple ((lawL Ws).map rowD) := by
  rw [plain_rowD n rd e, again_plain ok]
abbrev sLaw : Stmt := topS 39
abbrev N13 : List Str := ["_law_script", "_law_pen_here", "_law_lap", "_law_kinds", "_law_rows", "_law_due", "_law_given_here", "_law_weight", "_law_numbers", "_law_number", "_law_passed_here", "_law_made", "_law_again"]
def spLaw (K : PySem.W.Frag) : Sp := fun vs H Q _ => ∃ (a : Addr) (ns : List Int), vs = [.ref a] ∧ SqL K H a (ns.map V.int) ∧ ns.length ≤ 63 ∧ ∀ H', Q (.bl true) H'
structure LTxt (P : Program) (w : World) (K : PySem.W.Frag) (mg : Str → Option Value) (base : Heap) (C : Addr) : Prop where
  range : mg "range" = none
  repr : mg "repr" = none
  tuple : mg "tuple" = none
  pen : Kn P w K mg base "_law_pen" 1 ["_law_script"] (spPen K)
  draw : Kn P w K mg base "_law_draw" 1 ["_law_pen_here", "_law_many"] spDraw
  pick : Kn P w K mg base "_law_pick" 2 ["_law_pen_here", "_law_some"] (spPick K)
  passed : Kn P w K mg base "_law_passed" 3 ["_law_pen_here", "_law_ratio"] spPassed2
  given : Kn P w K mg base "_law_given" 3 ["_law_pen_here", "_law_kinds"] spGiven
  plain : Kn P w K mg base "_law_plain" 3 ["_law_rows"] spLPlain
  bids : BiTxt P w K mg base C
  eq : ∃ fE fd ps, FnOk P w K mg base CX0 1 fE fd ps (spEq (SameB C)) ∧ PySem.W.findIn K (.ref C) "__eq__" = some (some (.ref fE)) ∧ PySem.W.isFn K (.ref fE) = true ∧ Binds K fd ps []
section
variable {P : Program} {w : World} {K : PySem.W.Frag} {mg : Str → Option Value} {base : Heap}
theorem scLaw : FnScope N13 ["_law_script"] (defScope sLaw) := ⟨rfl, rfl, rfl, by decide +kernel, rfl, by decide +kernel, by decide +kernel⟩
theorem ok_law {f C : Addr} {fd : FuncData} (F : Fun K "law" "law" sLaw f fd) (T : LTxt P w K mg base C) :
    FnG P w K mg base 10 f fd ["_law_script"] (spLaw K) := by
  refine fnG F scLaw (fun vs H Q E h => ?_) (fun cdv A outer s H vs Q E noG hr h => ?_)
  · obtain ⟨a, ns, rfl, _⟩ := h
    rfl
  · obtain ⟨a, ns, rfl, S, hl, want⟩ := h
    obtain ⟨fI, fdI, MI, bI, GI⟩ := T.bids.ini
    obtain ⟨fE, fdE, psE, GE, iE, nE, bE⟩ := T.eq
    have hr1 : Room 1 _ := hr.mono (by decide)
    have hr2 : Room 2 _ := hr.mono (by decide)
    have hr3 : Room 3 _ := hr.mono (by decide)
    have hu64 : (A.deeper (envOfC "law" (defScope sLaw) s.heap.objs.size f cdv)).units + 64 < cLine := by have := hr.un; omega
    have hu80 : (A.deeper (envOfC "law" (defScope sLaw) s.heap.objs.size f cdv)).units + 80 < cLine := by have := hr.un; omega
    have hg : (A.deeper (envOfC "law" (defScope sLaw) s.heap.objs.size f cdv)).guards = some [] := noG
    refine ⟨_, pss_cons (ps_set (i := 1) scLaw.nd rfl (.inr rfl) (pe_kn T.pen hr1 (pa_cons (pv 0) pa_nil)))
      (pss_cons (ps_for PassesOwn.never rfl (pi_range1 rfl T.range (pa_cons pe_int pa_nil)) (pg_name (i := 2) scLaw.nd rfl (.inl rfl))
        (pss_cons (ps_set (i := 3) scLaw.nd rfl (.inl rfl) (pe_op op_add pe_int (pe_kn T.draw hr1 (pa_cons (pv 1) (pa_cons pe_int pa_nil)))))
        (pss_cons (ps_set (i := 4) scLaw.nd rfl (.inl rfl) (pe_kn T.given hr3 (pa_cons (pv 1) (pa_cons (pv 3) pa_nil))))
        (pss_cons (ps_par (i := 5) (j := 6) rfl scLaw.nd rfl rfl (by decide) rfl rfl (pa_cons (pe_kn T.plain hr3 (pa_cons (pv 4) pa_nil)) (pa_cons (pe_lstM pa_nil) pa_nil)) rfl)
        (pss_cons (ps_for PassesOwn.never rfl (pi_list (pv 4)) (pg_tup rfl (pgs_cons (pg_name (i := 7) scLaw.nd rfl (.inl rfl)) (pgs_cons (pg_name (i := 8) scLaw.nd rfl (.inl rfl)) pgs_nil)))
          (pss_cons (ps_setLc (i := 10) (own := [("_law_number", 9)]) (g := gName 9) (tt := tYes) rfl scLaw.nd rfl rfl (sw_true rfl rfl rfl (by decide +kernel)) (pi_tup (pv 8)) (blkOk_by (N := N13) (sc := defScope sLaw) (by decide +kernel))
              (fun _ _ _ _ _ => pg_name (i := 9) scLaw.nd rfl (.inl rfl)) (fun _ _ _ _ _ => pts_nil) (fun _ _ _ _ _ => pe_kn T.passed hr3 (pa_cons (pv 1) (pa_cons (pv 9) pa_nil))))
          (pss_one (ps_expr (pe_bm PySem.F.plainAttrs_list PySem.F.slot_list_append PySem.F.type_list_append mt_append (pv 6) (pa_cons (pe_kn T.pick hr2 (pa_cons (pv 1) (pa_cons
              (pe_lst (pa_cons (pe_tup (pa_cons (pv 7) (pa_cons (pe_callTy call_tuple_of (by rfl) T.tuple bTuple (pa_cons (pv 10) pa_nil)) pa_nil))) (pa_cons (pe_lstM (pa_cons (pv 7) (pa_cons (pv 10) pa_nil))) pa_nil))) pa_nil))) pa_nil))))))
        (pss_cons (ps_set (i := 11) scLaw.nd rfl (.inl rfl) (pe_make MI GI hr rfl T.bids.m bI .nil (passes_call LamX.takes0 (E := fun _ _ _ => False) (fun _ _ _ _ z => z)) (pa_cons (pv 3) (pa_cons (pe_kn T.pick hr2 (pa_cons (pv 1) (pa_cons (pe_lst (pa_cons (pv 6) (pa_cons (pe_callTy call_tuple_of (by rfl) T.tuple bTuple (pa_cons (pv 6) pa_nil)) pa_nil))) pa_nil))) pa_nil))))
        (pss_cons (ps_if (pt_cmpR op_ne (pe_callB (call_reprD hg hu80) (by rfl) T.repr bRepr (pa_cons (pe_tup (pa_cons (pe_fld (pv 11) rfl) (pa_cons (pe_fld (pv 11) rfl) pa_nil))) pa_nil)) (pe_callB (call_reprD hg hu80) (by rfl) T.repr bRepr (pa_cons (pe_tup (pa_cons (pv 3) (pa_cons (pv 5) pa_nil))) pa_nil)) (nomark _)) (pss_one (ps_ret pe_bl)) pss_nil)
        (pss_cons (ps_set (i := 12) scLaw.nd rfl (.inl rfl) (pe_make MI GI hr rfl T.bids.m bI .nil (passes_call LamX.takes0 (E := fun _ _ _ => False) (fun _ _ _ _ z => z)) (pa_cons (pv 3) (pa_cons (pe_op op_cat (pe_revL (pv 6)) (pe_lstM (pa_cons (pe_tup (pa_cons pe_int (pa_cons (pe_op op_repA (pe_tup (pa_cons pe_int pa_nil)) (pv 3)) pa_nil))) (pa_cons (pe_tup (pa_cons pe_int (pa_cons (pe_op op_repA (pe_tup (pa_cons pe_int pa_nil)) (pv 3)) pa_nil))) pa_nil)))) pa_nil))))
        (pss_one (ps_if (PW.pt (pw_or (pt_cmpR op_ne (pe_callB (call_reprD hg hu80) (by rfl) T.repr bRepr (pa_cons (pe_fld (pv 12) rfl) pa_nil)) (pe_callB (call_reprD hg hu80) (by rfl) T.repr bRepr (pa_cons (pv 5) pa_nil)) (nomark _)) (pw_or1 (pt_not (pt_cmpR (op_eqG (rcG_ins GE iE nE bE pass0) hr1) (pv 12) (pv 11) (nomark _)))))) (pss_one (ps_ret pe_bl)) pss_nil))))))))))
      (pss_one (ps_ret pe_bl))), ?_⟩
    refine ⟨_, rfl, a, ns, rfl, S, hl, fun p l H1 P1 np nl S1 => ?_⟩
    refine ⟨4, rfl, by decide, by decide, for_range (n := 4) (fun i σ H' => ∃ (c : Int) (v2 v3 v4 v5 v6 v7 v8 v10 v11 v12 : Option V), σ = [some (.ref a), some (.ref p), v2, v3, v4, v5, v6, v7, v8, none, v10, v11, v12] ∧ PenAt H' p l c ∧ c ≤ 300 * i)
      ⟨0, none, none, none, none, none, none, none, none, none, none, rfl, P1, by decide⟩ ?_ ?_⟩
    · rintro i σ H2 hi ⟨c0, v2, v3, v4, v5, v6, v7, v8, v10, v11, v12, rfl, P, hc⟩
      clear P1 S1 S np nl
      refine ⟨_, rfl, p, l, c0, 3, rfl, P, by decide, by decide, by omega, fun m H3 m0 m1 P3 K3 => ⟨_, _, rfl, rfl, ?_⟩⟩
      clear K3 P
      obtain ⟨n, rfl⟩ : ∃ n : Nat, m = (n : Int) - 1 := ⟨(m + 1).toNat, by omega⟩
      have en : 1 + ((n : Int) - 1) = (n : Int) := by omega
      dsimp only
      rw [en]
      have n1 : 1 ≤ n := by omega
      have n3 : n ≤ 3 := by omega
      clear m0 m1 en
      refine ⟨_, rfl, _, rfl, p, l, _, n, rfl, P3, by omega, n1, n3, fun g xs Ws c4 H4 eg _ prW okW lW hc4 P4 K4 => ?_⟩
      clear P3 K4
      have ok1 : ∀ e ∈ Ws, okK' n NN e.2 := fun e he => (okW e he).1
      have ok2 : ∀ e ∈ Ws, okK' n NN e.2 ∧ e.1.natAbs ≤ 9 := fun e he => ⟨(okW e he).1, (okW e he).2.1⟩
      refine ⟨_, rfl, g, xs, Ws, n, NN, rfl, eg, prW, ok1, by omega, n3, by decide, by decide, fun due H5 dD S5 => ⟨(by show 0 ≤ sizeLine; exact Nat.zero_le _), fun gh ngh _ => ⟨_, _, rfl, ?_⟩⟩⟩
      obtain ⟨pgh, lgh⟩ := (P4.same S5).ne ngh
      have st := GG.Same.new S5 ngh (o := .lst [])
      replace P4 := (P4.same S5).new ngh (o := .lst [])
      have ggh : g ≠ gh := ne_of_none (S5 _ _ eg) ngh
      replace eg := st _ _ eg
      replace prW := Paired.mapP prW fun _ _ h => GivV.same st h
      replace dD := dD.stay (Stay.new (Stay.refl (H := H5)) ngh (o := .lst []))
      have egh : (upd H5 gh (.lst [])) gh = some (.lst []) := upd_same
      clear st S5 ngh
      generalize (upd H5 gh (.lst [])) = B at P4 eg prW dD egh ⊢
      have noD' : noL (.tuple ((lawL Ws).map rowD)) = true := by
        simp only [noL]
        exact noL_rows _
      refine ⟨_, rfl, g, rfl, ⟨_, SqL.of eg⟩, for_list (xs := xs) (fun j σ G => ∃ (c' : Int) (v7 v8 v10 : Option V) (gs : List V), σ = [some (.ref a), some (.ref p), some (.int (0 + (i : Int))), some (.int (n : Int)), some (.ref g), some (.ref due), some (.ref gh), v7, v8, none, v10, v11, v12] ∧ PenAt G p l c' ∧ c' ≤ c0 + 70 + 12 * j ∧ G g = some (.lst xs) ∧ Paired (GivV G) xs Ws ∧ Da G (.ref due) (.tuple ((lawL Ws).map rowD)) ∧ G gh = some (.lst gs) ∧ Dm B G ∧ Paired (BidV (mask B G) n) gs (Ws.take j))
        ⟨c4, v7, v8, v10, [], rfl, P4, by omega, eg, prW, dD, egh, Dm.refl, .nil⟩ (fun j σ G _ q => ?_) (fun j x σ G hx q => ?_) (fun σ G q => ?_)⟩
      · obtain ⟨_, _, _, _, _, _, _, _, e, _⟩ := q
        exact SqL.of e
      · have eghB := egh
        clear P4 eg dD egh
        obtain ⟨c', v7, v8, v10, gs, rfl, P, hc', eg, prG, dD, egh, dm, pb⟩ := q
        obtain ⟨e, he, gv⟩ := paired_at prG hx
        have em := List.mem_of_getElem? he
        have jl : j < Ws.length := (List.getElem?_eq_some_iff.mp he).1
        obtain ⟨t, b, rfl, e1, rv⟩ := gv
        obtain ⟨oke, _, bnd⟩ := okW e em
        obtain ⟨b', ys, eb', eys, lys, ally⟩ := rv.item
        cases eb'
        have lgs : gs.length = j := by
          rw [Paired.length pb, List.length_take]
          omega
        have bp : b ≠ p := by
          obtain ⟨_, _, _, _, I⟩ := P
          exact ne_of eys I.obj (by intro z; cases z)
        refine ⟨t, _, rfl, .inl (.inl e1), rfl, _, _, rfl, _, _, rfl, rfl, ?_⟩
        refine ⟨_, rfl, b, rfl, ⟨_, SqT.of eys⟩, fun D nD => ?_⟩
        obtain ⟨pD, lD⟩ := P.ne nD
        have eD0 : (upd G D (.lst [])) D = some (.lst []) := upd_same
        refine lc_tup (xs := ys) (fun k G' => ∃ (c2 : Int) (ps : List V) (ds : List PyData), PenAt G' p l c2 ∧ c2 ≤ c' + 3 * k ∧ Keep p G G' ∧ G' D = some (.lst ps) ∧ Dm (upd G D (.lst [])) G' ∧ DaAll (mask (upd G D (.lst [])) G') ps ds ∧ Paired NumD ds (e.2.take k))
          ⟨c', [], [], P.new nD, by omega, Keep.refl.new nD, upd_same, Dm.refl, .nil, .nil⟩ (fun k G' _ q => ?_) (fun k y G' hy q => ?_) (fun G' q => ?_)
        · obtain ⟨_, _, _, _, _, KG, _⟩ := q
          exact SqT.of (KG b _ bp eys)
        · obtain ⟨c2, ps, ds, P', hc2, KG, eD, dm2, da2, pn⟩ := q
          have kl : k < ys.length := (List.getElem?_eq_some_iff.mp hy).1
          obtain ⟨r, hr'⟩ : ∃ r, e.2[k]? = some r := ⟨e.2[k]'(by omega), List.getElem?_eq_getElem (by omega)⟩
          obtain ⟨q, hq, eq⟩ := ally k r hr'
          rw [hy] at hq
          cases hq
          have rm := List.mem_of_getElem? hr'
          have qp : q ≠ p := by
            obtain ⟨_, _, _, _, I⟩ := P
            exact ne_of eq I.obj (by intro z; cases z)
          have lps : ps.length = k := by
            have z1 := Paired.length pn
            rw [List.length_take] at z1
            have z2 := da2.length
            omega
          have ke := oke.1
          refine ⟨rfl, ?_⟩
          refine ⟨_, rfl, _, rfl, p, l, q, c2, r, rfl, P', by omega, KG q _ qp eq, mid_of (N := NN) (by decide) (by decide) (oke.2 r rm) (bnd r rm), fun v d c3 G2 h1 h2 P2 K2 dv isr rat sm => ?_⟩
          have eD2 := K2 D _ pD.symm eD
          have st2 := K2.stay P'
          refine ⟨ps, eD2, by rw [lps, sizeLine_eq]; omega, c3, ps ++ [v], ds ++ [d], P2.put pD lD, by omega, ?_, upd_same, ?_, ?_, ?_⟩
          · intro bb o nb ee
            rw [upd_ne (ne_of_none ee nD)]
            exact K2 bb o nb (KG bb o nb ee)
          · exact (dm2.trans (Dm.keep K2 P2)).trans Dm.upd
          · exact DaAll.snoc ((dv.stay (mask_le dm2)).stay (mask_upd eD0)) ((da2.stay (mask_stay st2)).stay (mask_upd eD0))
          · rw [take_snoc hr']
            exact Paired.snoc pn ⟨isr, rat, sm⟩
        · obtain ⟨c2, ps, ds, P', hc2, KG, eD, dm2, da2, pn⟩ := q
          rw [lys, List.take_length] at pn
          rw [lys, oke.1] at hc2
          have dmG := Dm.keep KG P'
          have st0 := KG.stay P
          have ghp : gh ≠ p := pgh.symm
          have gp : g ≠ p := by
            obtain ⟨_, _, _, _, I⟩ := P
            exact ne_of eg I.obj (by intro z; cases z)
          replace egh := KG gh _ ghp egh
          replace eg := KG g _ gp eg
          replace prG := Paired.mapP prG fun _ _ h => GivV.stay st0 h
          replace dD := dD.stay st0
          replace pb := Paired.mapP pb fun _ _ h => BidV.stay (mask_stay st0) h
          have zD : B D = none := dm D nD
          have da3 := da2.stay (mask_le (dm.trans Dm.upd))
          have dm3 := dm.trans dmG
          clear da2 dm2 dm dmG st0 KG P rv ally eys e1 eD0
          refine ⟨_, rfl, .inl ⟨rfl, _, SqL.of egh⟩, _, rfl, _, rfl, _, rfl, D, _, rfl, .inl ⟨SqL.of eD, fun t1 nt1 => ?_⟩⟩
          have zt1 : B t1 = none := dm3 t1 nt1
          have st := Stay.new (Stay.refl (H := G')) nt1 (o := .tup ps)
          replace P' := P'.new nt1 (o := .tup ps)
          replace dm3 := dm3.trans (Dm.upd (G := G') (x := t1) (o := .tup ps))
          replace egh := stayL st egh
          replace eg := stayL st eg
          replace eD := stayL st eD
          replace prG := Paired.mapP prG fun _ _ h => GivV.stay st h
          replace dD := dD.stay st
          replace pb := Paired.mapP pb fun _ _ h => BidV.stay (mask_stay st) h
          replace da3 := da3.stay (mask_stay st)
          have et1 : (upd G' t1 (.tup ps)) t1 = some (.tup ps) := upd_same
          clear st nt1
          generalize (upd G' t1 (.tup ps)) = J1 at P' dm3 egh eg eD prG dD pb da3 et1 ⊢
          refine ⟨(by show 2 ≤ sizeLine; rw [sizeLine_eq]; decide), fun t2 nt2 => ?_⟩
          have zt2 : B t2 = none := dm3 t2 nt2
          have st := Stay.new (Stay.refl (H := J1)) nt2 (o := .tup [.int e.1, .ref t1])
          replace P' := P'.new nt2 (o := .tup [.int e.1, .ref t1])
          replace dm3 := dm3.trans (Dm.upd (G := J1) (x := t2) (o := .tup [.int e.1, .ref t1]))
          replace egh := stayL st egh
          replace eg := stayL st eg
          replace eD := stayL st eD
          replace prG := Paired.mapP prG fun _ _ h => GivV.stay st h
          replace dD := dD.stay st
          replace pb := Paired.mapP pb fun _ _ h => BidV.stay (mask_stay st) h
          replace da3 := da3.stay (mask_stay st)
          replace et1 := stayT st et1
          have et2 : (upd J1 t2 (.tup [.int e.1, .ref t1])) t2 = some (.tup [.int e.1, .ref t1]) := upd_same
          clear st nt2
          generalize (upd J1 t2 (.tup [.int e.1, .ref t1])) = J2 at P' dm3 egh eg eD prG dD pb da3 et1 et2 ⊢
          refine ⟨_, rfl, _, rfl, (by show 2 ≤ sizeLine; rw [sizeLine_eq]; decide), fun t3 nt3 _ => ?_⟩
          have zt3 : B t3 = none := dm3 t3 nt3
          have st := Stay.new (Stay.refl (H := J2)) nt3 (o := .lst [.int e.1, .ref D])
          replace P' := P'.new nt3 (o := .lst [.int e.1, .ref D])
          replace dm3 := dm3.trans (Dm.upd (G := J2) (x := t3) (o := .lst [.int e.1, .ref D]))
          replace egh := stayL st egh
          replace eg := stayL st eg
          replace eD := stayL st eD
          replace prG := Paired.mapP prG fun _ _ h => GivV.stay st h
          replace dD := dD.stay st
          replace pb := Paired.mapP pb fun _ _ h => BidV.stay (mask_stay st) h
          replace da3 := da3.stay (mask_stay st)
          replace et1 := stayT st et1
          replace et2 := stayT st et2
          have et3 : (upd J2 t3 (.lst [.int e.1, .ref D])) t3 = some (.lst [.int e.1, .ref D]) := upd_same
          clear st nt3
          generalize (upd J2 t3 (.lst [.int e.1, .ref D])) = J3 at P' dm3 egh eg eD prG dD pb da3 et1 et2 et3 ⊢
          refine ⟨(by show 2 ≤ sizeLine; rw [sizeLine_eq]; decide), fun L nL => ?_⟩
          have zL : B L = none := dm3 L nL
          have st := Stay.new (Stay.refl (H := J3)) nL (o := .lst [.ref t2, .ref t3])
          replace P' := P'.new nL (o := .lst [.ref t2, .ref t3])
          replace dm3 := dm3.trans (Dm.upd (G := J3) (x := L) (o := .lst [.ref t2, .ref t3]))
          replace egh := stayL st egh
          replace eg := stayL st eg
          replace eD := stayL st eD
          replace prG := Paired.mapP prG fun _ _ h => GivV.stay st h
          replace dD := dD.stay st
          replace pb := Paired.mapP pb fun _ _ h => BidV.stay (mask_stay st) h
          replace da3 := da3.stay (mask_stay st)
          replace et1 := stayT st et1
          replace et2 := stayT st et2
          replace et3 := stayL st et3
          have eL : (upd J3 L (.lst [.ref t2, .ref t3])) L = some (.lst [.ref t2, .ref t3]) := upd_same
          clear st nL
          generalize (upd J3 L (.lst [.ref t2, .ref t3])) = J4 at P' dm3 egh eg eD prG dD pb da3 et1 et2 et3 eL ⊢
          refine ⟨p, l, L, c2, _, rfl, P', SqL.of eL, (by show 0 < 2; decide), (by show 2 < 1000000; decide), by omega, fun x J5 hx P5 K5 => ?_⟩
          have st := K5.stay P'
          replace egh := stayL st egh
          replace eg := stayL st eg
          replace eD := stayL st eD
          replace prG := Paired.mapP prG fun _ _ h => GivV.stay st h
          replace dD := dD.stay st
          replace pb := Paired.mapP pb fun _ _ h => BidV.stay (mask_stay st) h
          replace da3 := da3.stay (mask_stay st)
          replace et1 := stayT st et1
          replace et2 := stayT st et2
          replace et3 := stayL st et3
          replace eL := stayL st eL
          replace dm3 := dm3.trans (Dm.keep K5 P5)
          clear st K5 P'
          have bx : BidV (mask B J5) n x (e.1, e.2) := by
            simp only [List.mem_cons, List.not_mem_nil, or_false] at hx
            rcases hx with rfl | rfl
            · exact ⟨.tuple [.int e.1, .tuple ds], .tup (mask_at zt2 et2) (.cons (.int _) (.cons (.tup (mask_at zt1 et1) da3) .nil)), bid_ok rfl rfl pn n3 oke⟩
            · exact ⟨.list [.int e.1, .list ds], .lst (mask_at zt3 et3) trivial (.cons (.int _) (.cons (.lst (mask_at zD eD) trivial da3) .nil)), bid_ok rfl rfl pn n3 oke⟩
          refine ⟨gh, gs, _, rfl, rfl, egh, by rw [lgs, sizeLine_eq]; omega, ?_⟩
          refine ⟨c2 + 1, _, _, _, gs ++ [x], rfl, P5.put pgh lgh, by omega, ?_, ?_, dD.putL egh noD', upd_same, dm3.trans Dm.upd, ?_⟩
          · rw [upd_ne ggh]
            exact eg
          · exact Paired.mapP prG fun _ _ h => GivV.put egh h
          · rw [take_snoc he]
            exact Paired.snoc (Paired.mapP pb fun _ _ h => BidV.stay (mask_upd eghB) h) (bx.stay (mask_upd eghB))
      · clear P4 eg dD
        obtain ⟨c', v7', v8', v10', gs, rfl, P, hc', eg, prG, dD, egh, dm, pb⟩ := q
        rw [Paired.length prW, List.take_length] at pb
        have lx := Paired.length prW
        have pb' : Paired (BidV G n) gs Ws := Paired.mapP pb fun _ _ h => BidV.stay mask_sub h
        clear pb dm prG eg prW
        have lgs : gs.length = Ws.length := Paired.length pb'
        have sw1 := sw_pair n3 lW ok2
        have sw2 := sw_law n3 lW ok2
        have nl1 : noL (.tuple [.int (n : Int), .tuple ((lawL Ws).map rowD)]) = true := by
          simp only [noL, noLs, Bool.and_true, Bool.true_and]
          exact noL_rows _
        obtain ⟨shp, ndd⟩ := rows_sh (lawL Ws)
        generalize hDD : PyData.tuple ((lawL Ws).map rowD) = DD at dD sw1 sw2 nl1 noD' shp ndd
        refine ⟨_, rfl, _, rfl, _, rfl, _, rfl, gh, _, rfl, .inl ⟨SqL.of egh, fun t1 nt1 => ?_⟩⟩
        have st := GG.Same.new (L2.Same.refl G) nt1 (o := .tup gs)
        replace egh := st _ _ egh
        replace dD := dD.stay (Same.stay st)
        replace pb' := Paired.mapP pb' fun _ _ h => BidV.stay (Same.stay st) h
        replace P := P.same st
        have et1 : (upd G t1 (.tup gs)) t1 = some (.tup gs) := upd_same
        clear st nt1
        generalize (upd G t1 (.tup gs)) = J1 at egh dD pb' P  et1  ⊢
        refine ⟨(by show 2 ≤ sizeLine; rw [sizeLine_eq]; decide), fun L nL => ?_⟩
        have st := GG.Same.new (L2.Same.refl J1) nL (o := .lst [.ref gh, .ref t1])
        replace egh := st _ _ egh
        replace dD := dD.stay (Same.stay st)
        replace pb' := Paired.mapP pb' fun _ _ h => BidV.stay (Same.stay st) h
        replace P := P.same st
        replace et1 := st _ _ et1
        have eL : (upd J1 L (.lst [.ref gh, .ref t1])) L = some (.lst [.ref gh, .ref t1]) := upd_same
        clear st nL
        generalize (upd J1 L (.lst [.ref gh, .ref t1])) = J2 at egh dD pb' P  et1 eL  ⊢
        refine ⟨p, l, L, c', _, rfl, P, SqL.of eL, (by show 0 < 2; decide), (by show 2 < 1000000; decide), by omega, fun x J3 hx P5 K5 => ?_⟩
        have st := K5.stay P
        replace egh := stayL st egh
        replace dD := dD.stay st
        replace pb' := Paired.mapP pb' fun _ _ h => BidV.stay st h
        replace et1 := stayT st et1
        replace P := P5
        clear st K5 P5 eL
        obtain ⟨rd, ad, eb, ln, good⟩ := bids_all pb'
        obtain ⟨dv, da, sq⟩ : ∃ dv, Da J3 x dv ∧ seqOf dv = some rd := by
          simp only [List.mem_cons, List.not_mem_nil, or_false] at hx
          rcases hx with rfl | rfl
          · exact ⟨.list rd, .lst egh trivial ad, rfl⟩
          · exact ⟨.tuple rd, .tup et1 ad, rfl⟩
        have RO := rows_ok n1 n3 (by omega) ok1 eb ln good
        refine fun xb dx nxb ndx ne => ⟨xb, dx, n, NN, x, dv, rd, rfl, upd_same, da.stay (Same.stay (made_same nxb ndx ne)), sq, RO, fun J4 BA KP => ⟨rfl, ?_⟩⟩
        rw [plain_first ok1 eb, hDD] at BA
        have st := keep_same (made_same nxb ndx ne) nxb KP
        replace egh := st _ _ egh
        replace dD := dD.stay (Same.stay st)
        replace pb' := Paired.mapP pb' fun _ _ h => BidV.stay (Same.stay st) h
        replace P := P.same st
        clear st KP nxb ndx ne da ad sq RO et1 hx good eb ln
        obtain ⟨dx1, fs1, pp1, ex1, kk1, rr1, da1⟩ := id BA
        refine ⟨_, rfl, xb, C, dx1, fs1, _, rfl, ex1, T.bids.cl, T.bids.n1, kk1, _, rfl, xb, C, dx1, fs1, _, rfl, ex1, T.bids.cl, T.bids.n2, rr1, (by show 2 ≤ sizeLine; rw [sizeLine_eq]; decide), fun t2 nt2 => ?_⟩
        replace da1 := da1.stay (Stay.new (Stay.refl (H := J4)) nt2 (o := .tup [.int (n : Int), .ref pp1]))
        clear ex1
        have st := GG.Same.new (L2.Same.refl J4) nt2 (o := .tup [.int (n : Int), .ref pp1])
        replace egh := st _ _ egh
        replace dD := dD.stay (Same.stay st)
        replace pb' := Paired.mapP pb' fun _ _ h => BidV.stay (Same.stay st) h
        replace P := P.same st
        replace BA := BA.same st
        have et2 : (upd J4 t2 (.tup [.int (n : Int), .ref pp1])) t2 = some (.tup [.int (n : Int), .ref pp1]) := upd_same
        clear st nt2
        generalize (upd J4 t2 (.tup [.int (n : Int), .ref pp1])) = J5 at egh dD pb' P BA et2 da1 ⊢
        refine ⟨.ref t2, .tuple [.int (n : Int), DD], rfl, .tup et2 (.cons (.int _) (.cons da1 .nil)), nl1, sw1.sh, Nat.le_trans sw1.dp (by decide), Nat.le_trans sw1.ln (by rw [sizeLine_eq]; decide), ?_⟩
        clear et2 da1
        refine ⟨_, rfl, _, rfl, (by show 2 ≤ sizeLine; rw [sizeLine_eq]; decide), fun t3 nt3 => ?_⟩
        have st := GG.Same.new (L2.Same.refl J5) nt3 (o := .tup [.int (n : Int), .ref due])
        replace egh := st _ _ egh
        replace dD := dD.stay (Same.stay st)
        replace pb' := Paired.mapP pb' fun _ _ h => BidV.stay (Same.stay st) h
        replace P := P.same st
        replace BA := BA.same st
        have et3 : (upd J5 t3 (.tup [.int (n : Int), .ref due])) t3 = some (.tup [.int (n : Int), .ref due]) := upd_same
        clear st nt3
        generalize (upd J5 t3 (.tup [.int (n : Int), .ref due])) = J6 at egh dD pb' P BA et3  ⊢
        refine ⟨.ref t3, .tuple [.int (n : Int), DD], rfl, .tup et3 (.cons (.int _) (.cons dD .nil)), nl1, sw1.sh, Nat.le_trans sw1.dp (by decide), Nat.le_trans sw1.ln (by rw [sizeLine_eq]; decide), ?_⟩
        clear et3
        refine ⟨rfl, _, rfl, ?_⟩
        rw [decide_eq_true rfl]
        refine iteF ?_
        refine ⟨_, rfl, _, rfl, gh, gs, rfl, SqL.of egh, fun p1 np1 => ?_⟩
        have st := GG.Same.new (L2.Same.refl J6) np1 (o := .lst gs.reverse)
        replace egh := st _ _ egh
        replace dD := dD.stay (Same.stay st)
        replace pb' := Paired.mapP pb' fun _ _ h => BidV.stay (Same.stay st) h
        replace P := P.same st
        replace BA := BA.same st
        have ep1 : (upd J6 p1 (.lst gs.reverse)) p1 = some (.lst gs.reverse) := upd_same
        clear st np1
        generalize (upd J6 p1 (.lst gs.reverse)) = J7 at egh dD pb' P BA ep1  ⊢
        refine ⟨(by show 1 ≤ sizeLine; rw [sizeLine_eq]; decide), fun a1 na1 => ?_⟩
        have st := GG.Same.new (L2.Same.refl J7) na1 (o := .tup [.int 3])
        replace egh := st _ _ egh
        replace dD := dD.stay (Same.stay st)
        replace pb' := Paired.mapP pb' fun _ _ h => BidV.stay (Same.stay st) h
        replace P := P.same st
        replace BA := BA.same st
        replace ep1 := st _ _ ep1
        have ea1 : (upd J7 a1 (.tup [.int 3])) a1 = some (.tup [.int 3]) := upd_same
        clear st na1
        generalize (upd J7 a1 (.tup [.int 3])) = M1 at egh dD pb' P BA ep1 ea1  ⊢
        refine ⟨_, rfl, a1, (n : Int), _, rfl, rfl, ea1, (fun z => by cases z), (by show 1 ≤ 1000; decide), by omega, by omega, fun b1 N1 eb1 st => ?_⟩
        rw [Int.toNat_natCast, rep1] at eb1
        replace egh := st _ _ egh
        replace dD := dD.stay (Same.stay st)
        replace pb' := Paired.mapP pb' fun _ _ h => BidV.stay (Same.stay st) h
        replace P := P.same st
        replace BA := BA.same st
        replace ep1 := st _ _ ep1
        replace ea1 := st _ _ ea1
        clear st
        refine ⟨(by show 2 ≤ sizeLine; rw [sizeLine_eq]; decide), fun u1 nu1 => ?_⟩
        have st := GG.Same.new (L2.Same.refl N1) nu1 (o := .tup [.int 0, .ref b1])
        replace egh := st _ _ egh
        replace dD := dD.stay (Same.stay st)
        replace pb' := Paired.mapP pb' fun _ _ h => BidV.stay (Same.stay st) h
        replace P := P.same st
        replace BA := BA.same st
        replace ep1 := st _ _ ep1
        replace ea1 := st _ _ ea1
        replace eb1 := st _ _ eb1
        have eu1 : (upd N1 u1 (.tup [.int 0, .ref b1])) u1 = some (.tup [.int 0, .ref b1]) := upd_same
        clear st nu1
        generalize (upd N1 u1 (.tup [.int 0, .ref b1])) = O1 at egh dD pb' P BA ep1 ea1 eb1 eu1  ⊢
        refine ⟨(by show 1 ≤ sizeLine; rw [sizeLine_eq]; decide), fun a2 na2 => ?_⟩
        have st := GG.Same.new (L2.Same.refl O1) na2 (o := .tup [.int 0])
        replace egh := st _ _ egh
        replace dD := dD.stay (Same.stay st)
        replace pb' := Paired.mapP pb' fun _ _ h => BidV.stay (Same.stay st) h
        replace P := P.same st
        replace BA := BA.same st
        replace ep1 := st _ _ ep1
        replace ea1 := st _ _ ea1
        replace eb1 := st _ _ eb1
        replace eu1 := st _ _ eu1
        have ea2 : (upd O1 a2 (.tup [.int 0])) a2 = some (.tup [.int 0]) := upd_same
        clear st na2
        generalize (upd O1 a2 (.tup [.int 0])) = M2 at egh dD pb' P BA ep1 ea1 eb1 eu1 ea2  ⊢
        refine ⟨_, rfl, a2, (n : Int), _, rfl, rfl, ea2, (fun z => by cases z), (by show 1 ≤ 1000; decide), by omega, by omega, fun b2 N2 eb2 st => ?_⟩
        rw [Int.toNat_natCast, rep1] at eb2
        replace egh := st _ _ egh
        replace dD := dD.stay (Same.stay st)
        replace pb' := Paired.mapP pb' fun _ _ h => BidV.stay (Same.stay st) h
        replace P := P.same st
        replace BA := BA.same st
        replace ep1 := st _ _ ep1
        replace ea1 := st _ _ ea1
        replace eb1 := st _ _ eb1
        replace eu1 := st _ _ eu1
        replace ea2 := st _ _ ea2
        clear st
        refine ⟨(by show 2 ≤ sizeLine; rw [sizeLine_eq]; decide), fun u2 nu2 => ?_⟩
        have st := GG.Same.new (L2.Same.refl N2) nu2 (o := .tup [.int 7, .ref b2])
        replace egh := st _ _ egh
        replace dD := dD.stay (Same.stay st)
        replace pb' := Paired.mapP pb' fun _ _ h => BidV.stay (Same.stay st) h
        replace P := P.same st
        replace BA := BA.same st
        replace ep1 := st _ _ ep1
        replace ea1 := st _ _ ea1
        replace eb1 := st _ _ eb1
        replace eu1 := st _ _ eu1
        replace ea2 := st _ _ ea2
        replace eb2 := st _ _ eb2
        have eu2 : (upd N2 u2 (.tup [.int 7, .ref b2])) u2 = some (.tup [.int 7, .ref b2]) := upd_same
        clear st nu2
        generalize (upd N2 u2 (.tup [.int 7, .ref b2])) = O2 at egh dD pb' P BA ep1 ea1 eb1 eu1 ea2 eb2 eu2  ⊢
        refine ⟨(by show 2 ≤ sizeLine; rw [sizeLine_eq]; decide), fun LL nLL _ => ?_⟩
        have st := GG.Same.new (L2.Same.refl O2) nLL (o := .lst [.ref u1, .ref u2])
        replace egh := st _ _ egh
        replace dD := dD.stay (Same.stay st)
        replace pb' := Paired.mapP pb' fun _ _ h => BidV.stay (Same.stay st) h
        replace P := P.same st
        replace BA := BA.same st
        replace ep1 := st _ _ ep1
        replace ea1 := st _ _ ea1
        replace eb1 := st _ _ eb1
        replace eu1 := st _ _ eu1
        replace ea2 := st _ _ ea2
        replace eb2 := st _ _ eb2
        replace eu2 := st _ _ eu2
        have eL2 : (upd O2 LL (.lst [.ref u1, .ref u2])) LL = some (.lst [.ref u1, .ref u2]) := upd_same
        clear st nLL
        generalize (upd O2 LL (.lst [.ref u1, .ref u2])) = J8 at egh dD pb' P BA ep1 ea1 eb1 eu1 ea2 eb2 eu2 eL2  ⊢
        refine ⟨p1, LL, _, _, rfl, rfl, ep1, eL2, (by rw [List.length_reverse, lgs, sizeLine_eq, List.length_cons, List.length_cons, List.length_nil]; omega), fun p3 np3 => ?_⟩
        have st := GG.Same.new (L2.Same.refl J8) np3 (o := .lst (gs.reverse ++ [.ref u1, .ref u2]))
        replace egh := st _ _ egh
        replace dD := dD.stay (Same.stay st)
        replace pb' := Paired.mapP pb' fun _ _ h => BidV.stay (Same.stay st) h
        replace P := P.same st
        replace BA := BA.same st
        replace ep1 := st _ _ ep1
        replace ea1 := st _ _ ea1
        replace eb1 := st _ _ eb1
        replace eu1 := st _ _ eu1
        replace ea2 := st _ _ ea2
        replace eb2 := st _ _ eb2
        replace eu2 := st _ _ eu2
        replace eL2 := st _ _ eL2
        have ep3 : (upd J8 p3 (.lst (gs.reverse ++ [.ref u1, .ref u2]))) p3 = some (.lst (gs.reverse ++ [.ref u1, .ref u2])) := upd_same
        clear st np3
        generalize (upd J8 p3 (.lst (gs.reverse ++ [.ref u1, .ref u2]))) = J9 at egh dD pb' P BA ep1 ea1 eb1 eu1 ea2 eb2 eu2 eL2 ep3  ⊢
        have pb2 : Paired (BidV J9 n) (gs.reverse ++ [.ref u1, .ref u2]) (again n Ws) := paired_app (paired_rev pb') (.cons (bid_rep n3 (by decide) (by decide) eu1 eb1) (.cons (bid_rep n3 (by decide) (by decide) eu2 eb2) .nil))
        obtain ⟨rd2, ad2, ebb2, ln2, good2'⟩ := bids_all pb2
        have RO2 := rows_ok n1 n3 (by unfold again; rw [List.length_append, List.length_reverse, List.length_cons, List.length_cons, List.length_nil]; omega) (again_ok ok1) ebb2 ln2 good2'
        have da2 : Da J9 (.ref p3) (.list rd2) := .lst ep3 trivial ad2
        clear ep1 ea1 eb1 eu1 ea2 eb2 eu2 eL2 ep3 pb2 ad2 good2' ln2
        refine fun ya dy nya ndy ney => ⟨ya, dy, n, NN, .ref p3, .list rd2, rd2, rfl, upd_same, da2.stay (Same.stay (made_same nya ndy ney)), rfl, RO2, fun J10 BA2 KP => ⟨rfl, ?_⟩⟩
        rw [plain_again ok1 ebb2, hDD] at BA2
        have st := keep_same (made_same nya ndy ney) nya KP
        replace egh := st _ _ egh
        replace dD := dD.stay (Same.stay st)
        replace pb' := Paired.mapP pb' fun _ _ h => BidV.stay (Same.stay st) h
        replace P := P.same st
        replace BA := BA.same st
        clear st KP nya ndy ney da2 RO2 ebb2 pb'
        obtain ⟨dy2, fs2, pp2, ey2, kk2, rr2, da2⟩ := id BA2
        obtain ⟨dx1, fs1, pp1, ex1, kk1, rr1, da1⟩ := id BA
        refine ⟨_, rfl, ya, C, dy2, fs2, _, rfl, ey2, T.bids.cl, T.bids.n2, rr2, .ref pp2, DD, rfl, da2, noD', sw2.sh, Nat.le_trans sw2.dp (by decide), Nat.le_trans sw2.ln (by rw [sizeLine_eq]; decide), _, rfl, .ref due, DD, rfl, dD, noD', sw2.sh, Nat.le_trans sw2.dp (by decide), Nat.le_trans sw2.ln (by rw [sizeLine_eq]; decide), rfl, _, rfl, ?_⟩
        rw [decide_eq_true rfl]
        refine iteF ?_
        refine ⟨_, rfl, _, rfl, ⟨ya, xb, dy2, dx1, fs2, fs1, rfl, rfl, ey2, ex1, n, DD, BA2, BA, shp, SeqAt.eqv_refl _ (Bool.and_eq_true_iff.mp shp).1, ndd⟩, fun J11 X11 => ⟨_, rfl, ?_⟩⟩
        refine iteF ?_
        exact ⟨c' + 1, _, _, _, _, _, _, _, _, _, _, rfl, P.same X11, by omega⟩
    · rintro σ H' ⟨c, v2, v3, v4, v5, v6, v7, v8, v10, v11, v12, rfl, P, hc⟩
      exact want H'
end
end GG

namespace GG
open PySem PySem.Spec PyProof.Rows L2 LamX
theorem def_mk {K : PySem.W.Frag} {h : Heap} {mg : Str → Option Value} (X : K.In h) (G : h.Ns mainGlobals mg) {x : Str} {st : Stmt} {f : Addr} {od an : Option Addr} {sl : Array (Option Value)} {oc kV dc pm cd ct : Value}
    (a : PySem.W.nsIn K mainGlobals x = some (some (.ref f))) (l : K.lookup f = some ⟨oc, od, .func (PySem.W.fnOf x x (defArgs st) (defBody st) (defScope st) .none kV dc pm an cd ct), sl⟩) (c : PySem.W.codeIn K cd x = true) (k : PySem.W.keepIn K (.ref f) = true) : DefIs K mg x st :=
  ⟨f, _, fun_mk (st := st) l c k, PySem.W.mg_of X G a⟩
theorem ext_mk {K : PySem.W.Frag} {C : Addr} {nm q : Str} {N : Addr} {bs bm : List Value} {sn : List Str} {sub : List Value} {ab : Bool} {col : Option Bool} {dd : Option Addr} {k0 k1 k2 k3 k5 : Option Value}
    (l : K.lookup C = some (excClassObj nm q C N bs bm true sn sub ab col dd k0 k1 k2 k3 k5 "ValueError.__new__")) (r : PySem.HandSPX.refsVE bm = true) (sa : PySem.W.findIn K (.ref C) "__setattr__" = some (some (.builtin "object.__setattr__")))
    (ex : PySem.W.subIn K (.ref C) (.type "BaseException") = some true) (ty : PySem.W.typeIn K (.ref C) = some (.type "type")) (kp : PySem.W.keepIn K (.ref C) = true) (ga : PySem.W.findIn K (.ref C) "__getattribute__" = some (some (.builtin "BaseException.__getattribute__")))
    (gg : PySem.W.findIn K (.ref C) "__getattr__" = some none) (hd : PySem.W.hasDictIn K C = true) (cl : PySem.W.findIn K (.ref C) "__class__" = some (some (.builtin "object.__class__"))) (mo : PySem.W.mroIn K C (.type "object") = some true)
    (oc : PySem.W.specialIn K (.builtin "object.__class__") "__get__" = some (some (.builtin "getset_descriptor.__get__"))) (ot : PySem.W.takesIn K (.builtin "object.__class__") = some true) : ExT K C :=
  ⟨⟨⟨nm, q, N, bs, bm, sn, sub, ab, col, dd, k0, k1, k2, k3, k5, l, r⟩, sa, ex, ty, kp⟩, ga, gg, hd, cl, mo, oc, ot⟩
theorem all_mk {l : PySem.W.OpenLaw} {w : World} {K : PySem.W.Frag} {h : Heap} {mg : Str → Option Value} {fa : Addr} (X : K.In h) (G : h.Ns mainGlobals mg) (hfa : mg "law" = some (.ref fa)) {C CN C4 f39 fE : Addr}
    {fN : Addr} {odN anN : Option Addr} {slN : Array (Option Value)} {ocN kVN dcN pmN cdN ctN : Value}
    {fR : Addr} {odR anR : Option Addr} {slR : Array (Option Value)} {ocR kVR dcR pmR cdR ctR : Value}
    {fB : Addr} {odB anB : Option Addr} {slB : Array (Option Value)} {ocB kVB dcB pmB cdB ctB : Value}
    {od an odE anE : Option Addr} {sl slE : Array (Option Value)} {oc kV dc pm cd ct ocE kVE dcE pmE cdE ctE : Value}
    (d7 : DefIs K mg "is_whole" sWhole) (d8 : DefIs K mg "is_ratio" sRatio) (d9 : DefIs K mg "lowest" sLow) (d10 : DefIs K mg "told" sTold) (d12 : DefIs K mg "is_row" sRow) (d13 : DefIs K mg "is_from_zero" sZ) (d14 : DefIs K mg "are_prices" sPrices) (d16 : DefIs K mg "told_row" sToldR) (d18 : DefIs K mg "common_bottom" sBot) (d19 : DefIs K mg "scaled" sScaled) (d20 : DefIs K mg "ascending" sAsc) (d23 : DefIs K mg "check_kinds" sCK) (d24 : DefIs K mg "is_bid" sBid) (d25 : DefIs K mg "plain_rows" sPlain) (d26 : DefIs K mg "wants_some" sWants) (d29 : DefIs K mg "_law_pen" sPen) (d30 : DefIs K mg "_law_draw" sDraw) (d31 : DefIs K mg "_law_pick" sPick) (d32 : DefIs K mg "_law_gcd" sGcd) (d33 : DefIs K mg "_law_q" sQ) (d34 : DefIs K mg "_law_less" sLLess) (d35 : DefIs K mg "_law_passed" sPassed) (d36 : DefIs K mg "_law_given" sGiven) (d37 : DefIs K mg "_law_plain" sLPlain) (d38 : DefIs K mg "_law_is_ahead" sAhead)
    (nN : PySem.W.nsIn K mainGlobals "BadNumber" = some (some (.ref CN)))
    (iN : PySem.W.findIn K (.ref CN) "__init__" = some (some (.ref fN)))
    (tN : ExT K CN)
    (tiN : PySem.W.typeIn K (.ref fN) = some (.type "function"))
    (lN : K.lookup fN = some ⟨ocN, odN, .func (PySem.W.fnOf "__init__" "BadNumber.__init__" (defArgs sBN) (defBody sBN) (defScope sBN) .none kVN dcN pmN anN cdN ctN), slN⟩)
    (cN : PySem.W.codeIn K cdN "BadNumber.__init__" = true)
    (kN : PySem.W.keepIn K (.ref fN) = true)
    (nR : PySem.W.nsIn K mainGlobals "BadRow" = some (some (.ref C4)))
    (iR : PySem.W.findIn K (.ref C4) "__init__" = some (some (.ref fR)))
    (tR : ExT K C4)
    (tiR : PySem.W.typeIn K (.ref fR) = some (.type "function"))
    (lR : K.lookup fR = some ⟨ocR, odR, .func (PySem.W.fnOf "__init__" "BadRow.__init__" (defArgs sBR) (defBody sBR) (defScope sBR) .none kVR dcR pmR anR cdR ctR), slR⟩)
    (cR : PySem.W.codeIn K cdR "BadRow.__init__" = true)
    (kR : PySem.W.keepIn K (.ref fR) = true)
    (nB : PySem.W.nsIn K mainGlobals "Bids" = some (some (.ref C)))
    (iB : PySem.W.findIn K (.ref C) "__init__" = some (some (.ref fB)))
    (lB : K.lookup fB = some ⟨ocB, odB, .func (PySem.W.fnOf "__init__" "Bids.__init__" (defArgs sInit) (defBody sInit) (defScope sInit) .none kVB dcB pmB anB cdB ctB), slB⟩)
    (cB : PySem.W.codeIn K cdB "Bids.__init__" = true)
    (kB : PySem.W.keepIn K (.ref fB) = true)
    (iE : PySem.W.findIn K (.ref C) "__eq__" = some (some (.ref fE)))
    (lE : K.lookup fE = some ⟨ocE, odE, .func (PySem.W.fnOf "__eq__" "Bids.__eq__" (defArgs sEq) (defBody sEq) (defScope sEq) .none kVE dcE pmE anE cdE ctE), slE⟩)
    (cE : PySem.W.codeIn K cdE "Bids.__eq__" = true)
    (kE : PySem.W.keepIn K (.ref fE) = true)
    (fE1 : PySem.W.isFn K (.ref fE) = true)
    (nN1 : PySem.W.findIn K (.ref CN) "what" = some none)
    (nN2 : PySem.W.findIn K (.ref CN) "number" = some none)
    (nR1 : PySem.W.findIn K (.ref C4) "row" = some none)
    (nB1 : PySem.W.findIn K (.ref C) "kinds" = some none)
    (nB2 : PySem.W.findIn K (.ref C) "rows" = some none)
    (mB : PySem.W.makesIn K C = true)
    (fB1 : PySem.W.isFn K (.ref fB) = true)
    (kC : PySem.W.keepIn K (.ref C) = true)
    (cl1 : PySem.W.plainGet K C Str.empty = true)
    (cl2 : PySem.W.hasDictIn K C = true)
    (cl3 : PySem.W.plainOver K C = true)
    (cl4 : PySem.W.findIn K (.ref C) "__setattr__" = some (some (.builtin "object.__setattr__")))
    (ic1 : PySem.W.findIn K (.ref C) "__class__" = some (some (.builtin "object.__class__")))
    (ic2 : PySem.W.specialIn K (.builtin "object.__class__") "__get__" = some (some (.builtin "getset_descriptor.__get__")))
    (ic3 : PySem.W.takesIn K (.builtin "object.__class__") = some true)
    (ic4 : PySem.W.mroIn K C (.type "object") = some true)
    (ic5 : PySem.W.kitOne K (.ref C) (.ref C) = some true)
    (a39 : PySem.W.nsIn K mainGlobals "law" = some (some (.ref f39)))
    (l39 : K.lookup f39 = some ⟨oc, od, .func (PySem.W.fnOf "law" "law" (defArgs sLaw) (defBody sLaw) (defScope sLaw) .none kV dc pm an cd ct), sl⟩)
    (c39 : PySem.W.codeIn K cd "law" = true)
    (k39 : PySem.W.keepIn K (.ref f39) = true)
    (z_int : PySem.W.nsIn K mainGlobals "int" = some none)
    (z_list : PySem.W.nsIn K mainGlobals "list" = some none)
    (z_len : PySem.W.nsIn K mainGlobals "len" = some none)
    (z_range : PySem.W.nsIn K mainGlobals "range" = some none)
    (z_bool : PySem.W.nsIn K mainGlobals "bool" = some none)
    (z_tuple : PySem.W.nsIn K mainGlobals "tuple" = some none)
    (z_isinstance : PySem.W.nsIn K mainGlobals "isinstance" = some none)
    (z_repr : PySem.W.nsIn K mainGlobals "repr" = some none)
    (z_all : PySem.W.nsIn K mainGlobals "all" = some none)
    (z_sorted : PySem.W.nsIn K mainGlobals "sorted" = some none)
    (z_any : PySem.W.nsIn K mainGlobals "any" = some none)
    (z_zip : PySem.W.nsIn K mainGlobals "zip" = some none)
    (z_sum : PySem.W.nsIn K mainGlobals "sum" = some none)
    (z_abs : PySem.W.nsIn K mainGlobals "abs" = some none)
    (zg : PySem.W.nsIn K mainGlobals "gcd" = some (some (.builtin "math.gcd")))
    (zl : PySem.W.nsIn K mainGlobals "lcm" = some (some (.builtin "math.lcm")))
    : ∃ fd : FuncData, (∀ (s : Shared) (v : Value), BindsTo s fd ⟨[v], []⟩ [("_law_script", v)]) ∧ ∀ base : Heap, K.In base → base.Ns mainGlobals mg → FnG l.prog w K mg base 10 fa fd ["_law_script"] (spLaw K) := by
  have e := hfa.symm.trans (PySem.W.mg_of X G a39)
  cases e
  have n := fun {x : Str} (z : PySem.W.nsIn K mainGlobals x = some none) => PySem.W.mg_none_of X G z
  have m := fun {x : Str} {v : Value} (z : PySem.W.nsIn K mainGlobals x = some (some v)) => PySem.W.mg_of X G z
  refine ⟨PySem.W.fnOf "law" "law" (defArgs sLaw) (defBody sLaw) (defScope sLaw) .none kV dc pm an cd ct, fun s v => .of_eq rfl, fun base _ _ => ?_⟩
  have R : RTxt K mg := ⟨n z_int, n z_bool, n z_tuple, n z_list, n z_len, n z_isinstance, m zg⟩
  have PT : PTxt K mg := ⟨n z_int, n z_list, n z_len⟩
  have BN : BNTxt l.prog w K mg base CN := bn_of (m nN) tN nN1 nN2 iN tiN (fun_mk (st := sBN) lN cN kN)
  have BR : BRTxt l.prog w K mg base C4 := br_of (m nR) tR nR1 iR tiR (fun_mk (st := sBR) lR cR kR)
  have B1 : Kn l.prog w K mg base "is_whole" 1 _ _ := kn_whole d7 R
  have B2 : Kn l.prog w K mg base "is_ratio" 2 _ _ := kn_ratio d8 R B1
  have B3 : Kn l.prog w K mg base "lowest" 1 _ _ := kn_low d9 R
  have B4 : KnX l.prog w K mg base "told" 3 _ _ := kn_told d10 R BN B2 B3
  have E1 : Kn l.prog w K mg base "is_row" 1 _ _ := kn_row d12 R
  have E2 := kn_z d13 B2 B4
  have E3 := kn_prices d14 (n z_all) E1 E2
  have E4 := kn_toldR d16 R B4
  have E5 := kn_ck d23 BN B1
  have E6 := kn_bid d24 E1 B1 E3
  have A1 : Kn l.prog w K mg base "common_bottom" 1 _ _ := kn_bot d18 (m zl)
  have A2 : Kn l.prog w K mg base "scaled" 1 _ _ := kn_scaled d19
  have A3 := kn_asc d20 R (n z_range) (n z_sorted) A1 A2
  have A4 : Kn l.prog w K mg base "wants_some" 1 _ _ := kn_wants d26 (n z_any)
  have E7 := kn_plain d25 R BR E6 E4 A4 A3
  have cl : Cls K C := ⟨cl1, cl2, cl3, cl4⟩
  have BI : BiTxt l.prog w K mg base C := bi_of (m nB) ⟨mB, iB, fB1, kC⟩ cl nB1 nB2 (fun_mk (st := sInit) lB cB kB) E5 E7
  have UE : Fun K "__eq__" "Bids.__eq__" sEq fE _ := fun_mk (st := sEq) lE cE kE
  have EQ := eq_of (P := l.prog) (w := w) (base := base) R (m nB) cl nB1 nB2 ⟨ic1, ic2, ic3, ic4, ic5⟩ UE
  have L1 : Kn l.prog w K mg base "_law_draw" 1 _ _ := kn_draw d30 PT
  have L2' : Kn l.prog w K mg base "_law_pick" 2 _ _ := kn_pick d31 PT L1
  have L3 : Kn l.prog w K mg base "_law_gcd" 1 _ _ := kn_gcd d32 (n z_abs) (n z_range) (n z_int)
  have L4 := kn_q d33 L3
  have L5 : Kn l.prog w K mg base "_law_less" 1 _ _ := kn_law_less d34
  have L6 := kn_passed2 d35 L1 L2'
  have L7 := kn_given d36 R (n z_range) L1 L2' L4
  have L8 := kn_ahead d38 (n z_zip) L5
  have L9 := kn_lplain d37 R (n z_range) (n z_sum) L8
  have LT : LTxt l.prog w K mg base C := ⟨n z_range, n z_repr, n z_tuple, kn_pen d29 PT, L1, L2', L6, L7, L9, BI, ⟨fE, _, ["self", "other"], EQ, iE, fE1, UE.binds fun _ _ _ _ _ _ us hl => match us, hl with | [_, _], _ => rfl⟩⟩
  exact ok_law (fun_mk (st := sLaw) l39 c39 k39) LT
theorem walkL {l : PySem.W.OpenLaw} {q : Program} {loose : List Str} {XP : (Str → Option Value) → Heap → Prop} {YP : World → Heap → Prop} {d : DefRec} {K : Params → PySem.W.Frag} (hn : l.most = some 63) (dflt : d.params.defaults = []) (inY : ∀ (w : World) (h : Heap), YP w h → (K w.params).In h)
    (F : ∀ (w : World) (mg : Str → Option Value) (fa : Addr) (h : Heap), (K w.params).In h → h.Ns mainGlobals mg → mg d.name = some (.ref fa) →
      ∃ fd : FuncData, (∀ (s : Shared) (u : Value), BindsTo s fd ⟨[u], []⟩ [("_law_script", u)]) ∧ ∀ base : Heap, (K w.params).In base → base.Ns mainGlobals mg → FnG l.prog w (K w.params) mg base 10 fa fd ["_law_script"] (spLaw (K w.params))) :
    PySem.W.WalkO q loose XP YP l.row.toRowW d [] (fun f vs => PySem.call f vs) :=
  walkG (sp := fun w => spLaw (K w.params)) hn (by decide) dflt ⟨rfl, by decide, by decide⟩ inY F fun _ _ a ns hl _ _ hS => ⟨a, ns, rfl, hS, hl, fun _ => rfl⟩
end GG

open PySem PySem.W PyProof.Rows in
set_option maxRecDepth 100000 in
set_option maxHeartbeats 0 in
theorem PySem.Challenge.cw_allbids_k03_whole_plain_lists_holds : PySem.Challenge.rw_allbids_k03_whole_plain_lists.Holds := by
  w_on; o_law; k_head; (case hw => w_witness2)
  k_fill
  refine GG.walkL (l := PySem.Challenge.rw_allbids_k03_whole_plain_lists) rfl rfl (fun w h Y => PySem.W.kIn_of Y) ?F
  case F =>
    intro w mg fa h KX G hmg
    refine' GG.all_mk KX G hmg (d7 := ?d7) (d8 := ?d8) (d9 := ?d9) (d10 := ?d10) (d12 := ?d12) (d13 := ?d13) (d14 := ?d14) (d16 := ?d16) (d18 := ?d18) (d19 := ?d19) (d20 := ?d20) (d23 := ?d23) (d24 := ?d24) (d25 := ?d25) (d26 := ?d26) (d29 := ?d29) (d30 := ?d30) (d31 := ?d31) (d32 := ?d32) (d33 := ?d33) (d34 := ?d34) (d35 := ?d35) (d36 := ?d36) (d37 := ?d37) (d38 := ?d38) (nN := ?nN) (iN := ?iN) (tN := ?tN) (tiN := ?tiN) (lN := ?lN) (cN := ?cN) (kN := ?kN) (nR := ?nR) (iR := ?iR) (tR := ?tR) (tiR := ?tiR) (lR := ?lR) (cR := ?cR) (kR := ?kR) (nB := ?nB) (iB := ?iB) (lB := ?lB) (cB := ?cB) (kB := ?kB) (iE := ?iE) (lE := ?lE) (cE := ?cE) (kE := ?kE) (fE1 := ?fE1) (nN1 := ?nN1) (nN2 := ?nN2) (nR1 := ?nR1) (nB1 := ?nB1) (nB2 := ?nB2) (mB := ?mB) (fB1 := ?fB1) (kC := ?kC) (cl1 := ?cl1) (cl2 := ?cl2) (cl3 := ?cl3) (cl4 := ?cl4) (ic1 := ?ic1) (ic2 := ?ic2) (ic3 := ?ic3) (ic4 := ?ic4) (ic5 := ?ic5) (a39 := ?a39) (l39 := ?l39) (c39 := ?c39) (k39 := ?k39) (z_int := ?z_int) (z_list := ?z_list) (z_len := ?z_len) (z_range := ?z_range) (z_bool := ?z_bool) (z_tuple := ?z_tuple) (z_isinstance := ?z_isinstance) (z_repr := ?z_repr) (z_all := ?z_all) (z_sorted := ?z_sorted) (z_any := ?z_any) (z_zip := ?z_zip) (z_sum := ?z_sum) (z_abs := ?z_abs) (zg := ?zg) (zl := ?zl)
    (case d7 => (refine' GG.def_mk KX G ?a ?l ?c ?k; (case a => k_is); (case l => k_is); (case c => k_is); (case k => k_is)))
    (case d8 => (refine' GG.def_mk KX G ?a ?l ?c ?k; (case a => k_is); (case l => k_is); (case c => k_is); (case k => k_is)))
    (case d9 => (refine' GG.def_mk KX G ?a ?l ?c ?k; (case a => k_is); (case l => k_is); (case c => k_is); (case k => k_is)))
    (case d10 => (refine' GG.def_mk KX G ?a ?l ?c ?k; (case a => k_is); (case l => k_is); (case c => k_is); (case k => k_is)))
    (case d12 => (refine' GG.def_mk KX G ?a ?l ?c ?k; (case a => k_is); (case l => k_is); (case c => k_is); (case k => k_is)))
    (case d13 => (refine' GG.def_mk KX G ?a ?l ?c ?k; (case a => k_is); (case l => k_is); (case c => k_is); (case k => k_is)))
    (case d14 => (refine' GG.def_mk KX G ?a ?l ?c ?k; (case a => k_is); (case l => k_is); (case c => k_is); (case k => k_is)))
    (case d16 => (refine' GG.def_mk KX G ?a ?l ?c ?k; (case a => k_is); (case l => k_is); (case c => k_is); (case k => k_is)))
    (case d18 => (refine' GG.def_mk KX G ?a ?l ?c ?k; (case a => k_is); (case l => k_is); (case c => k_is); (case k => k_is)))
    (case d19 => (refine' GG.def_mk KX G ?a ?l ?c ?k; (case a => k_is); (case l => k_is); (case c => k_is); (case k => k_is)))
    (case d20 => (refine' GG.def_mk KX G ?a ?l ?c ?k; (case a => k_is); (case l => k_is); (case c => k_is); (case k => k_is)))
    (case d23 => (refine' GG.def_mk KX G ?a ?l ?c ?k; (case a => k_is); (case l => k_is); (case c => k_is); (case k => k_is)))
    (case d24 => (refine' GG.def_mk KX G ?a ?l ?c ?k; (case a => k_is); (case l => k_is); (case c => k_is); (case k => k_is)))
    (case d25 => (refine' GG.def_mk KX G ?a ?l ?c ?k; (case a => k_is); (case l => k_is); (case c => k_is); (case k => k_is)))
    (case d26 => (refine' GG.def_mk KX G ?a ?l ?c ?k; (case a => k_is); (case l => k_is); (case c => k_is); (case k => k_is)))
    (case d29 => (refine' GG.def_mk KX G ?a ?l ?c ?k; (case a => k_is); (case l => k_is); (case c => k_is); (case k => k_is)))
    (case d30 => (refine' GG.def_mk KX G ?a ?l ?c ?k; (case a => k_is); (case l => k_is); (case c => k_is); (case k => k_is)))
    (case d31 => (refine' GG.def_mk KX G ?a ?l ?c ?k; (case a => k_is); (case l => k_is); (case c => k_is); (case k => k_is)))
    (case d32 => (refine' GG.def_mk KX G ?a ?l ?c ?k; (case a => k_is); (case l => k_is); (case c => k_is); (case k => k_is)))
    (case d33 => (refine' GG.def_mk KX G ?a ?l ?c ?k; (case a => k_is); (case l => k_is); (case c => k_is); (case k => k_is)))
    (case d34 => (refine' GG.def_mk KX G ?a ?l ?c ?k; (case a => k_is); (case l => k_is); (case c => k_is); (case k => k_is)))
    (case d35 => (refine' GG.def_mk KX G ?a ?l ?c ?k; (case a => k_is); (case l => k_is); (case c => k_is); (case k => k_is)))
    (case d36 => (refine' GG.def_mk KX G ?a ?l ?c ?k; (case a => k_is); (case l => k_is); (case c => k_is); (case k => k_is)))
    (case d37 => (refine' GG.def_mk KX G ?a ?l ?c ?k; (case a => k_is); (case l => k_is); (case c => k_is); (case k => k_is)))
    (case d38 => (refine' GG.def_mk KX G ?a ?l ?c ?k; (case a => k_is); (case l => k_is); (case c => k_is); (case k => k_is)))
    (case nN => k_is)
    (case iN => k_is)
    (case tN => (refine' GG.ext_mk ?l ?r ?sa ?ex ?ty ?kp ?ga ?gg ?hd ?cl ?mo ?oc ?ot; (case l => k_is); (case r => decide +kernel); (case sa => k_is); (case ex => k_is); (case ty => k_is); (case kp => k_is); (case ga => k_is); (case gg => k_is); (case hd => k_is); (case cl => k_is); (case mo => k_is); (case oc => k_is); (case ot => k_is)))
    (case tiN => k_is)
    (case lN => k_is)
    (case cN => k_is)
    (case kN => k_is)
    (case nR => k_is)
    (case iR => k_is)
    (case tR => (refine' GG.ext_mk ?l ?r ?sa ?ex ?ty ?kp ?ga ?gg ?hd ?cl ?mo ?oc ?ot; (case l => k_is); (case r => decide +kernel); (case sa => k_is); (case ex => k_is); (case ty => k_is); (case kp => k_is); (case ga => k_is); (case gg => k_is); (case hd => k_is); (case cl => k_is); (case mo => k_is); (case oc => k_is); (case ot => k_is)))
    (case tiR => k_is)
    (case lR => k_is)
    (case cR => k_is)
    (case kR => k_is)
    (case nB => k_is)
    (case iB => k_is)
    (case lB => k_is)
    (case cB => k_is)
    (case kB => k_is)
    (case iE => k_is)
    (case lE => k_is)
    (case cE => k_is)
    (case kE => k_is)
    (case fE1 => k_is)
    (case nN1 => k_is)
    (case nN2 => k_is)
    (case nR1 => k_is)
    (case nB1 => k_is)
    (case nB2 => k_is)
    (case mB => k_is)
    (case fB1 => k_is)
    (case kC => k_is)
    (case cl1 => k_is)
    (case cl2 => k_is)
    (case cl3 => k_is)
    (case cl4 => k_is)
    (case ic1 => k_is)
    (case ic2 => k_is)
    (case ic3 => k_is)
    (case ic4 => k_is)
    (case ic5 => kernel_rfl)
    (case a39 => k_is)
    (case l39 => k_is)
    (case c39 => k_is)
    (case k39 => k_is)
    (case z_int => k_is)
    (case z_list => k_is)
    (case z_len => k_is)
    (case z_range => k_is)
    (case z_bool => k_is)
    (case z_tuple => k_is)
    (case z_isinstance => k_is)
    (case z_repr => k_is)
    (case z_all => k_is)
    (case z_sorted => k_is)
    (case z_any => k_is)
    (case z_zip => k_is)
    (case z_sum => k_is)
    (case z_abs => k_is)
    (case zg => k_is)
    (case zl => k_is)
