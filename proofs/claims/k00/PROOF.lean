import PyProof.Rows.All
import Wide.All
import OpenK.AllK
import Wide.FinOn
import HandS.ForMost
import HandS.ExcInit
import HandS.IsInst
import HandS.Wide
import HandS.EndBits
import HandS.ExcField
import KE.KExcIs
import HandS.ExcIs
import HandS.ExcOwn
import HandS.ExcValue
import HandS.Evl
import HandS.Zip
import PySem.Challenge.RW_allbids_k00_errors
set_option Elab.async false
set_option linter.all false
set_option maxRecDepth 100000
set_option maxHeartbeats 4000000
/-! ## GG: calls around which no repr is under way -/
namespace GG
open PySem PySem.Spec PyProof.Rows L2
section
variable {P : Program} {w : World} {K : PySem.W.Frag} {mg : Str → Option Value} {base : Heap}

/-- the def at f keeps sp wherever nothing guarded is under way -/
structure FnG (P : Program) (w : World) (K : PySem.W.Frag) (mg : Str → Option Value) (base : Heap) (k : Nat) (f : Addr) (fd : FuncData) (ps : List Str) (sp : Sp) : Prop where
  cnt : ∀ vs H Q E, sp vs H Q E → vs.length = ps.length
  go : ∀ (A : Around) (out : List Env) (s : Shared) (H : Hp) (args : Args) (us : List Value) (vs : List V) (Q : VK) (E : XK), A.guards = some [] → Room k A →
    Env0 P w K mg base A out s H → BindsTo s fd args (ps.zip us) → Vals vs us → sp vs H Q E → codeAny (model P w) A (.call (.ref f) args) (CR CX0 out P w H s Q E) s

theorem FnG.of {k : Nat} {f : Addr} {fd : FuncData} {ps : List Str} {sp : Sp} (F : FnOk P w K mg base CX0 k f fd ps sp) : FnG P w K mg base k f fd ps sp :=
  ⟨F.len, fun A out s H args us vs Q E _ room => F.run A out s H args us vs Q E room⟩

theorem fnG {x qual : Str} {st : Stmt} {f : Addr} {fd : FuncData} {N ps : List Str} {k : Nat} {sp : Sp} (F : Fun K x qual st f fd) (S : FnScope N ps (defScope st)) (cnt : ∀ vs H Q E, sp vs H Q E → vs.length = ps.length)
    (body : ∀ (cdv : Value) (A : Around) (out : List Env) (s : Shared) (H : Hp) (vs : List V) (Q : VK) (E : XK), A.guards = some [] → Room k (A.deeper (envOfC qual (defScope st) s.heap.objs.size f cdv)) → sp vs H Q E →
      ∃ t, PSs (cxOf CX0 P w K mg base N qual (defScope st) f cdv A out s H E).nox (defBody st) t ∧ t { nx := fun _ H' => Q .non H', rt := Q } (start N vs) H) :
    FnG P w K mg base (k + 1) f fd ps sp := by
  obtain ⟨oc, od, kV, doc, pm, an, cdv, ct, osl, rfl, look, code⟩ := F.ex
  refine ⟨cnt, ?_⟩
  intro A out s H args us vs Q E noG room env bnd rel prom
  have many := cnt _ _ _ _ prom
  have inK : K.In s.heap := env.mod.kin.keeps fun b o q => (env.bs b o q).1
  have free : s.heap.NoLimit := env.mod.nolimit.keeps fun b o q => (env.bs b o q).1
  have kinds : ∀ y ∈ ps.zip us, (defScope st).names.lookup y.1 = some .local ∨ ((defScope st).names.lookup y.1 = some .cell ∧ ((cellsFrom (s.heap.objs.size + 1) (defScope st).names []).lookup y.1).isSome = true) := by
    rintro ⟨n, v⟩ my
    cases S.par n (List.of_mem_zip my).1 with
    | inl q => exact .inl q
    | inr q => exact .inr ⟨q, PySem.W.cellsFrom_some _ _ _ (.inl q)⟩
  refine codeAny_call_function room.depth (inK _ _ look) rfl S.co S.gen rfl (PySem.W.codeRec_of inK code) (bnd _ _ _ _ ?_)
  refine wpAny_newFunctionEnv_cells S.kind kinds fun env' he s1 inC => ?_
  subst he
  refine ⟨free.keeps inC.toInCall.keep, codeAny_func ?_⟩
  obtain ⟨t, ht, start0⟩ := body cdv A out s H vs Q E noG (room.deeper _) prom
  have J := inv_start (E := E) (CX := CX0) S room.hd env many rel inC
  refine wpAny_mono (ht.nox.run [] s1 (start N vs) H _ J start0) (fun fl s' res => ?_) (fun _ _ q => q)
  cases fl with
  | ret u =>
    obtain ⟨v, σ', H', J', rv, q⟩ := res
    exact ⟨v, H', J'.os, J'.bare, J'.base, J'.hok, rv, q⟩
  | next =>
    obtain ⟨σ', H', J', q⟩ := res
    exact ⟨.non, H', J'.os, J'.bare, J'.base, J'.hok, rfl, q⟩
  | brk => exact (res.choose_spec.choose_spec.2 : False).elim
  | cont => exact (res.choose_spec.choose_spec.2 : False).elim
end
end GG

namespace GG
open PySem PySem.Spec PyProof.Rows L2
section
variable {P : Program} {w : World} {K : PySem.W.Frag} {mg mb : Str → Option Value} {k : Nat} {fa a : Addr} {fd : FuncData} {x : Str} {sp : Sp} {s1 : Shared} {vs : List Value} {ns : List Int}

/-- what is tracked at the law's start: the script, unless the module owns it -/
noncomputable def startH (K : PySem.W.Frag) (a : Addr) (vs : List Value) (ns : List Int) : Hp := fun b =>
  if b = a ∧ K.lookup a = none then some (.frz { cls := .type "list", data := .seq vs.toArray } (.lst (ns.map V.int))) else none
theorem startH_some {b : Addr} {u : HO} (e : startH K a vs ns b = some u) : b = a ∧ K.lookup a = none ∧ u = .frz { cls := .type "list", data := .seq vs.toArray } (.lst (ns.map V.int)) := by
  unfold startH at e
  split at e
  · rename_i q
    exact ⟨q.1, q.2, (Option.some.inj e).symm⟩
  · cases e
theorem startH_none {b : Addr} (n : b ≠ a) : startH K a vs ns b = none := if_neg fun q => n q.1

theorem lawG (KX : K.In s1.heap) (hns : s1.heap.Ns mainGlobals mg) (hb : s1.heap.Ns builtinsNs mb) (hbb : ∀ x : Str, x ≠ "__name__" → mb x = bootBuiltins x) (hlim : s1.heap.NoLimit) (hg : s1.gens = #[])
    (ha : s1.heap.get? a = some { cls := .type "list", data := .seq vs.toArray }) (hi : IntsAre vs ns) (hl : ns.length ≤ sizeLine) (hr : Room k callerA)
    (F : ∀ base : Heap, K.In base → base.Ns mainGlobals mg → FnG P w K mg base k fa fd [x] sp) (hbind : ∀ (s : Shared) (u : Value), BindsTo s fd ⟨[u], []⟩ [(x, u)])
    (hsp : ∀ H : Hp, Only H → SqL K H a (ns.map V.int) → sp [.ref a] H (fun v _ => v = .bl true) fun _ _ _ => False) :
    codeAny (model P w) callerA (.call (.ref fa) ⟨[.ref a], []⟩) (fun r s' => r = .ok (.ret (.bool true)) ∧ OldK s1.heap s'.heap ∧ s'.os = s1.os ∧ AllBare s'.gens) s1 := by
  have rv := vals_ints hi
  let H : Hp := startH K a vs ns
  have only : Only H := fun b => by
    cases e : H b with
    | none => exact .inl rfl
    | some u =>
      obtain ⟨_, _, q⟩ := startH_some e
      exact .inr ⟨_, _, by rw [q]⟩
  have held : HOk P w H s1.heap := fun b u e => by
    obtain ⟨q1, _, q2⟩ := startH_some e
    subst q1 q2
    exact ⟨ha, by rw [List.length_map]; exact hl, vs, _, rv, ha⟩
  have dictFree : ∀ {b : Addr} {o : Obj} {es : Array DictEntry} {ep : Nat}, s1.heap.get? b = some o → o.data = .dict es ep → H b = none := fun {b o es ep} e d => startH_none fun z => by
    subst z
    cases e.symm.trans ha
    cases d
  have stays : ∀ {b : Addr} {m : Str → Option Value}, s1.heap.Ns b m → (hidT s1.heap H).Ns b m := fun {b m} ⟨o, es, ep, e, d, r⟩ => ⟨o, es, ep, hidT_get e (dictFree e d), d, r⟩
  have KB : K.In (hidT s1.heap H) := fun b o e => hidT_get (KX b o e) (by
    cases q : H b with
    | none => rfl
    | some u =>
      obtain ⟨q1, q2, _⟩ := startH_some q
      subst q1
      cases e.symm.trans q2)
  have M : L2.Mod K mg (hidT s1.heap H) := ⟨KB, stays hns, ⟨mb, stays hb, hbb⟩, hlim.elim fun mc q => ⟨mc, stays q.1, q.2⟩⟩
  have env : Env0 P w K mg (hidT s1.heap H) callerA [] s1 H := ⟨rfl, M, fun b o e => of_hidT e, Nat.le_of_eq (hidT_size _ _), trivial, (fun b z => absurd (show b ∈ ([] : List Addr) from z) List.not_mem_nil), held, .of_eq hg⟩
  have script : SqL K H a (ns.map V.int) := by
    cases q : K.lookup a with
    | none => exact .inl (.inr ⟨_, if_pos ⟨rfl, q⟩⟩)
    | some o =>
      cases (KX a o q).symm.trans ha
      exact .inr ⟨_, vs.toArray, _, q, rfl, rfl, rfl, by rw [List.size_toArray, hi.length]; exact hl, by simpa using rv⟩
  refine codeAny_mono ((F _ KB (stays hns)).go callerA [] s1 H ⟨[.ref a], []⟩ [.ref a] [.ref a] _ _ rfl hr env (hbind s1 (.ref a)) (.cons rfl .nil) (hsp H only script)) fun r s' res => ?_
  cases r with
  | error e => exact (show False from res).elim
  | ok fl =>
    cases fl with
    | next => exact (show False from res).elim
    | brk => exact (show False from res).elim
    | cont => exact (show False from res).elim
    | ret u =>
      obtain ⟨v, H', os, bare, un, ok', rr, q⟩ := res
      obtain rfl : v = .bl true := q
      cases (show u = Value.bool true from rr)
      refine ⟨rfl, OldK.of_keep fun b o e => ?_, os, bare⟩
      cases z : H b with
      | none => exact un.keep b o e z (fun m => absurd (show b ∈ ([] : List Addr) from m) List.not_mem_nil) (fun m => absurd (show b ∈ ([] : List Addr) from m) List.not_mem_nil)
      | some t =>
        obtain ⟨q1, _, q2⟩ := startH_some z
        subst q2
        have z2 := un.frzs b _ _ z
        have e1 := (held b _ z).1
        rw [e] at e1
        cases e1
        exact (ok' b _ z2).1
end
theorem walkG {l : PySem.W.OpenLaw} {n k : Nat} {q : Program} {loose : List Str} {XP : (Str → Option Value) → Heap → Prop} {YP : World → Heap → Prop} {d : DefRec} {K : Params → PySem.W.Frag} {sp : World → Sp} {x : Str}
    (hn : l.most = some n) (small : n ≤ sizeLine) (dflt : d.params.defaults = []) (room : Room k callerA) (inY : ∀ (w : World) (h : Heap), YP w h → (K w.params).In h)
    (F : ∀ (w : World) (mg : Str → Option Value) (fa : Addr) (h : Heap), (K w.params).In h → h.Ns mainGlobals mg → mg d.name = some (.ref fa) →
      ∃ fd : FuncData, (∀ (s : Shared) (u : Value), BindsTo s fd ⟨[u], []⟩ [(x, u)]) ∧ ∀ base : Heap, (K w.params).In base → base.Ns mainGlobals mg → FnG l.prog w (K w.params) mg base k fa fd [x] (sp w))
    (start : ∀ (w : World) (H : Hp) (a : Addr) (ns : List Int), ns.length ≤ n → (∀ z ∈ ns, Builtin.Int.intBits z ≤ 1048576) → Only H → SqL (K w.params) H a (ns.map V.int) → sp w [.ref a] H (fun v _ => v = .bl true) fun _ _ _ => False) :
    PySem.W.WalkO q loose XP YP l.row.toRowW d [] (fun f vs => PySem.call f vs) := by
  refine Att.attach_callB hn dflt ?_
  intro w s0 s1 mg mb fa o pm cd doc a vs ns G Y _ _ _ named obj hi len bits gens
  obtain ⟨fd, bound, fns⟩ := F w mg fa _ (inY w _ Y) G.T.g named
  exact lawG (inY w _ Y) G.T.g G.T.b G.T.builtins G.T.nolimit gens obj hi (Nat.le_trans len small) room fns bound fun H o' q' => start w H a ns len bits o' q'
end GG

namespace GG
open PySem PySem.Spec PyProof.Rows L2

/-! ### data and their repr -/
/-- where nothing guarded is under way, v is the datum d in each state that H describes -/
def Dt (X : Cx) (H : Hp) (v : V) (d : PyData) : Prop := ∀ (pins : List (Addr × Obj)) (σ : L2.St) (s : Shared) (u : Value), Inv X pins σ H s → RelV v u → ∃ as, Reads s.heap u d as ∧ sysModules ∉ as
def DtAll (X : Cx) (H : Hp) (vs : List V) (ds : List PyData) : Prop := ∀ (pins : List (Addr × Obj)) (σ : L2.St) (s : Shared) (us : List Value), Inv X pins σ H s → Vals vs us → ∃ as, ReadsAll s.heap us ds as ∧ sysModules ∉ as
section
variable {X : Cx} {H : Hp}
theorem Dt.non : Dt X H .non .none := fun _ _ _ _ _ r => by
  cases r
  exact ⟨_, .none, List.not_mem_nil⟩
theorem Dt.bl (b : Bool) : Dt X H (.bl b) (.bool b) := fun _ _ _ _ _ r => by
  cases r
  exact ⟨_, .bool b, List.not_mem_nil⟩
theorem Dt.int (i : Int) : Dt X H (.int i) (.int i) := fun _ _ _ _ _ r => by
  obtain ⟨t, rfl⟩ := r
  exact ⟨_, .int i t, List.not_mem_nil⟩
theorem Dt.str (x : Str) : Dt X H (.str x) (.str x) := fun _ _ _ _ _ r => by
  obtain ⟨t, rfl⟩ := r
  exact ⟨_, .str x t, List.not_mem_nil⟩
theorem DtAll.nil : DtAll X H [] [] := fun _ _ _ _ _ r => by
  cases r
  exact ⟨_, .nil, List.not_mem_nil⟩
theorem DtAll.cons {v : V} {vs : List V} {d : PyData} {ds : List PyData} (h : Dt X H v d) (t : DtAll X H vs ds) : DtAll X H (v :: vs) (d :: ds) := fun p σ s us I r => by
  cases r with
  | cons r1 r2 =>
    obtain ⟨as, q1, n1⟩ := h p σ s _ I r1
    obtain ⟨bs, q2, n2⟩ := t p σ s _ I r2
    exact ⟨_, .cons q1 q2, fun m => (List.mem_append.mp m).elim n1 n2⟩
theorem Dt.lst {a : Addr} {xs : List V} {ds : List PyData} (e : H a = some (.lst xs)) (ne : a ≠ sysModules) (t : DtAll X H xs ds) : Dt X H (.ref a) (.list ds) := fun p σ s u I r => by
  cases r
  obtain ⟨_, its, n, rv, ho⟩ := (show ObjOk X.prog X.w H s.heap a (.lst xs) from I.hok a _ e)
  obtain ⟨as, q, nm⟩ := t p σ s its I rv
  exact ⟨_, .list ho rfl rfl (by rw [List.toList_toArray]; exact q), fun m => (List.mem_cons.mp m).elim (fun z => ne z.symm) nm⟩
theorem Dt.tup {a : Addr} {xs : List V} {ds : List PyData} (e : H a = some (.tup xs)) (t : DtAll X H xs ds) : Dt X H (.ref a) (.tuple ds) := fun p σ s u I r => by
  cases r
  obtain ⟨_, its, rv, o, ho, hc, n, hd⟩ := (show ObjOk X.prog X.w H s.heap a (.tup xs) from I.hok a _ e)
  obtain ⟨as, q, nm⟩ := t p σ s its I rv
  exact ⟨_, .tuple ho hc hd (by rw [List.toList_toArray]; exact q), nm⟩
theorem Dt.dict1 {a : Addr} {k : Str} {v : V} {d : PyData} (e : H a = some (.dK [(.inr k, v)])) (t : Dt X H v d) : Dt X H (.ref a) (.dict [(.str k, d)]) := fun p σ s u I r => by
  cases r
  obtain ⟨_, ne, vs, kv, o, es, ep, ho, hx, hd, _, hp, _⟩ := (show ObjOk X.prog X.w H s.heap a (.dK [(.inr k, v)]) from I.hok a _ e)
  have na : a ≠ sysModules := by
    intro z
    rw [z] at ne
    simp at ne
  obtain ⟨⟨kq, vq⟩, rfl, ek, rv⟩ : ∃ b : Key × Value, vs = [b] ∧ Sum.inr k = b.1 ∧ RelV v b.2 := by
    cases kv with
    | cons k1 k2 =>
      cases k2
      exact ⟨_, rfl, k1.1, k1.2⟩
  simp only at ek rv
  subst ek
  obtain ⟨as, q, nm⟩ := t p σ s vq I rv
  generalize hl : es.toList = l at hp
  cases hp with
  | cons h1 h2 h3 =>
    cases h3
    rename_i en
    simp only at h1 h2
    have hk : ∃ tk, en.key = Value.str k tk := by
      rcases keyIs_shape (show keyIs (Sum.inr k) en.key = true from h1) with ⟨i, tk, z, _⟩ | ⟨y, tk, z, z2⟩
      · cases z
      · cases z
        exact ⟨tk, z2⟩
    obtain ⟨tk, hk⟩ := hk
    have r1 : ReadsAll s.heap (es.toList.map (·.key)) [PyData.str k] ([] ++ []) := by
      rw [hl, List.map_cons, List.map_nil, hk]
      exact .cons (.str k tk) .nil
    have r2 : ReadsAll s.heap (es.toList.map (·.val)) [d] (as ++ []) := by
      rw [hl, List.map_cons, List.map_nil, h2]
      exact .cons q .nil
    refine ⟨_, Reads.dict (kvs := [(.str k, d)]) ho hx.1 hd r1 r2, fun m => ?_⟩
    rcases List.mem_append.mp m with m | m
    · rcases List.mem_cons.mp m with m | m
      · exact na m.symm
      · exact absurd m (by simp)
    · rw [List.append_nil] at m
      exact nm m

/-! sizes -/
structure Sh (X : Cx) (H : Hp) (v : V) (n : Nat) (d : PyData) : Prop where
  dt : Dt X H v d
  sh : d.showable = true
  dp : d.depth ≤ 8
  ln : d.shown.length ≤ n
theorem Sh.mono {v : V} {n m : Nat} {d : PyData} (h : Sh X H v n d) (k : n ≤ m) : Sh X H v m d := ⟨h.dt, h.sh, h.dp, Nat.le_trans h.ln k⟩
theorem list_len (ds : List PyData) (n : Nat) (h : ∀ d ∈ ds, d.shown.length ≤ n) : (PyData.list ds).shown.length ≤ (n + 2) * ds.length + 4 := by
  rw [PyData.shown_list, strLen_append, strLen_append]
  have e1 : (("[" : Str)).length = 1 := rfl
  have e2 : (("]" : Str)).length = 1 := rfl
  have e3 : piled (PyData.shownAll ds) ≤ (n + 2) * ds.length := by
    clear e1 e2
    induction ds with
    | nil => simp [PyData.shownAll, piled]
    | cons d ds ih =>
      rw [PyData.shownAll_cons, piled_cons, List.length_cons, Nat.mul_add]
      have h1 := h d List.mem_cons_self
      have h2 := ih fun x hx => h x (List.mem_cons_of_mem _ hx)
      omega
  by_cases z : PyData.shownAll ds = []
  · rw [z]
    have e4 : (Str.join ", " []).length = 0 := rfl
    omega
  · have := join_length_add _ z
    omega
theorem tuple_len (ds : List PyData) (n : Nat) (h : ∀ d ∈ ds, d.shown.length ≤ n) : (PyData.tuple ds).shown.length ≤ (n + 2) * ds.length + 4 := by
  rw [PyData.shown_tuple, strLen_append, strLen_append]
  have e1 : (("(" : Str)).length = 1 := rfl
  have e2 : (((if ds.length == 1 then ",)" else ")" : String) : Str)).length ≤ 2 := by split <;> decide +kernel
  have e3 : piled (PyData.shownAll ds) ≤ (n + 2) * ds.length := by
    clear e1 e2
    induction ds with
    | nil => simp [PyData.shownAll, piled]
    | cons d ds ih =>
      rw [PyData.shownAll_cons, piled_cons, List.length_cons, Nat.mul_add]
      have h1 := h d List.mem_cons_self
      have h2 := ih fun x hx => h x (List.mem_cons_of_mem _ hx)
      omega
  by_cases z : PyData.shownAll ds = []
  · rw [z]
    have e4 : (Str.join ", " []).length = 0 := rfl
    omega
  · have := join_length_add _ z
    omega
theorem call_repr (hg : X.A.guards = some []) (hu : X.A.units + 80 < cLine) : CallR X (.builtin "repr") (fun xs H Q => ∃ a d, xs = [.ref a] ∧ Dt X H (.ref a) d ∧ d.showable = true ∧ d.depth ≤ 60 ∧ d.shown.length ≤ sizeLine ∧ Q (.str d.shown) H) := by
  intro pins s σ H xs us Q I r h
  obtain ⟨a, d, rfl, dt, hs, hd, hz, q⟩ := h
  cases r with
  | cons r1 r2 =>
    cases r2
    obtain rfl : _ = Value.ref a := r1
    obtain ⟨as, rd, nm⟩ := dt pins σ s _ I rfl
    exact repr_of_reads' (h₀ := s.heap) rd hs (fun _ => nm) hg (by omega) (fun _ _ e => e) (fun h' u tk k => ⟨.str d.shown, H, I.kept k, ⟨u, rfl⟩, q⟩) hz
end
end GG

namespace GG
open PySem PySem.Spec PyProof.Rows L2

/-! ### exceptions of the program's own classes as values -/
/-- what is known of an own error class -/
structure ExT (K : PySem.W.Frag) (C : Addr) : Prop where
  ox : OexC K C
  ga : PySem.W.findIn K (.ref C) "__getattribute__" = some (some (.builtin "BaseException.__getattribute__"))
  gg : PySem.W.findIn K (.ref C) "__getattr__" = some none
  hd : PySem.W.hasDictIn K C = true
  cl : PySem.W.findIn K (.ref C) "__class__" = some (some (.builtin "object.__class__"))
  mo : PySem.W.mroIn K C (.type "object") = some true
  oc : PySem.W.specialIn K (.builtin "object.__class__") "__get__" = some (some (.builtin "getset_descriptor.__get__"))
  ot : PySem.W.takesIn K (.builtin "object.__class__") = some true
/-- an error of the class C with these fields -/
def ExAt (H : Hp) (a C : Addr) (fs : List (Str × V)) : Prop := (fs = [] ∧ H a = some (exo a C none)) ∨ ∃ dx, H a = some (exo a C (some dx)) ∧ H dx = some (exd dx fs)
theorem ExT.some {K : PySem.W.Frag} {C : Addr} (T : ExT K C) : (PySem.W.clsIn K C).isSome = true := by
  obtain ⟨nm, q, N, bs, bm, sn, sub, ab, col, dd, k0, k1, k2, k3, k5, hC, hbm⟩ := T.ox.cls
  unfold PySem.W.clsIn
  rw [hC] <;> rfl
section
variable {X : Cx} {pins : List (Addr × Obj)} {σ : L2.St} {H : Hp} {s : Shared} {a C : Addr} {fs : List (Str × V)}
theorem ExAt.inst (I : Inv X pins σ H s) (e : ExAt H a C fs) : ∃ (ox : Obj) (od : Option Obj), PySem.W.InstAt s.heap a ox C od ∧
    ∀ (f : Str) (v : V), fs.lookup f = some v → ∃ (o : Obj) (u : Value), od = some o ∧ PySem.W.lookIn f o = some (some u) ∧ RelV v u := by
  rcases e with ⟨rfl, e⟩ | ⟨dx, e, ed⟩
  · obtain ⟨t, h⟩ := exo_at I.hok e
    exact ⟨_, none, ⟨h, rfl, rfl, trivial⟩, fun f v q => by cases q⟩
  · obtain ⟨t, h⟩ := exo_at I.hok e
    obtain ⟨mA, hns, rel⟩ := exd_at I.hok ed
    obtain ⟨od, ho, hl⟩ := lookIn_ns hns
    refine ⟨_, some od, ⟨h, rfl, rfl, ho⟩, fun f v q => ?_⟩
    obtain ⟨u, hu, ru⟩ := RelO.some_of (v := v) (o := mA f) (by rw [← q]; exact rel f)
    exact ⟨od, u, rfl, by rw [hl, hu], ru⟩
/-- isinstance(e, c) -/
def rIsX (K : PySem.W.Frag) : List V → Hp → VK → Prop := fun xs H Q => ∃ (a C : Addr) (fs : List (Str × V)) (c : V) (u : Value) (b : Bool), xs = [.ref a, c] ∧ ExT K C ∧ ExAt H a C fs ∧ ClsV c u ∧ PySem.W.kitOne K (.ref C) u = some b ∧ Q (.bl b) H
theorem call_isx : CallR X (.builtin "isinstance") (rIsX X.K) := by
  intro pins s σ H xs us Q I r h
  obtain ⟨a, C, fs, c, u, b, rfl, T, e, cv, k, q⟩ := h
  obtain ⟨u1, u2, rfl, r1, r2⟩ := vals2 r
  cases (show u1 = Value.ref a from r1)
  obtain rfl := cv.eq r2
  obtain ⟨ox, od, J, _⟩ := e.inst I
  exact PySem.W.kia_one (PySem.W.kitx_exc T.some T.ga T.gg T.ox.exC T.cl T.oc T.ot T.mo) I.kIn J k (fun z => nomatch z) fun tk => ⟨.bl b, H, I.tok tk, rfl, q⟩
/-- e.f -/
def tXfd (K : PySem.W.Frag) (f : Str) (te : TE) : TE := fun σ H Q => te σ H fun x H1 => ∃ (a C : Addr) (fs : List (Str × V)) (v : V), x = .ref a ∧ ExT K C ∧ ExAt H1 a C fs ∧ PySem.W.findIn K (.ref C) f = some none ∧ fs.lookup f = some v ∧ Q v H1
theorem pe_xfd {e : Expr} {te : TE} {pos : Pos} {f : Str} (he : PE X e te) (hb : attributeBase e f X.env (eval e X.env) = eval e X.env := by rfl) : PE X (.Attribute e f pos) (tXfd X.K f te) := by
  refine ⟨fun pins s σ H Q I h => ?_⟩
  refine attr_of hb (thn (he.run pins s σ H _ I h) fun u s1 hh => ?_)
  obtain ⟨x, H1, I1, rx, a, C, fs, v, ex, T, ea, no, l, q⟩ := hh
  subst ex
  obtain rfl : u = Value.ref a := rx
  obtain ⟨ox, od, J, look⟩ := ea.inst I1
  obtain ⟨o, u, rfl, lk, ru⟩ := look f v l
  exact HandSPX.exc_get I1.kIn J T.ga T.gg T.ox.exC (PySem.W.findObj_own T.hd no rfl lk) (handed_of ru) ⟨v, H1, I1.tok _, ru, q⟩
/-- C(e, ..) as a value, C's own __init__ keeping sp -/
def tVal (C : Addr) (sp : Sp) (ta : TA) : TE := fun σ H Q => ta σ H fun vs H1 => vs.length ≤ 1000 ∧ ∀ a, H1 a = none → sp (.ref a :: vs) (upd H1 a (exo a C none)) (fun v H2 => v = .non ∧ Q (.ref a) H2) (fun _ _ _ => False)
theorem pe_val {x : Str} {C fI : Addr} {k : Nat} {fd : FuncData} {ps : List Str} {sp : Sp} {e : Expr} {es : List Expr} {ta : TA} {p pos : Pos} (T : OexC X.K C) (iC : PySem.W.findIn X.K (.ref C) "__init__" = some (some (.ref fI))) (tI : PySem.W.typeIn X.K (.ref fI) = some (.type "function"))
    (F1 : FnOk X.prog X.w X.K X.mg X.base CX0 k fI fd ps sp) (hr : Room (k + 1) X.A) (hb : Binds X.K fd ps []) (hm : X.mg x = some (.ref C)) (ha : PA X (e :: es) ta) (hg : Gl X x := by rfl)
    (hdb : (x == ("__debug__" : Str)) = false := by decide) (he : starEach (e :: es) X.env = (false, eval e X.env) :: starEach es X.env := by rfl) (hpl : (backTo pos (starEach es X.env)).any (·.1) = false := by rfl) :
    PE X (.Call (.Name x p) (e :: es) [] pos) (tVal C sp ta) := by
  refine ⟨fun pins s σ H Q I h => ?_⟩
  obtain ⟨nm, q, N, bs, bm, sn, sub, ab, col, dd, k0, k1, k2, k3, k5, hC, tail⟩ := T.cls
  refine wpAny_Call_Name_kw (ld_glob I hg hm ?_ hdb)
  refine PySem.W.callWith_K (h₀ := X.base) I.ok.mod.kin T.kC (thn (ha.run pos pins s σ H _ I h) fun us s1 got => ?_) he hpl
  obtain ⟨vs, H1, I1, r1, small, q1⟩ := got
  refine ⟨I1.kIn, ?_⟩
  show wpAny _ _ (call (.ref C) us) _ _ _
  obtain ⟨hp, g, dr, tk, os⟩ := s1
  have big : hp.objs.size ≤ hp.objs.size + 1 := Nat.le_succ _
  have want := q1 (hp.objs.size + 1) (I1.hok.fresh big)
  have grow : ∀ b o, hp.get? b = some o → ((hp.push (PySem.W.kdv_tup us)).push (PySem.HandSPX.excO C hp.objs.size)).get? b = some o := fun b o z => Heap.get?_push_of_some _ (Heap.get?_push_of_some _ z)
  have new : ((hp.push (PySem.W.kdv_tup us)).push (PySem.HandSPX.excO C hp.objs.size)).get? (hp.objs.size + 1) = some (PySem.HandSPX.excO C hp.objs.size) := by heap_get
  have J : Inv X pins σ (upd H1 (hp.objs.size + 1) (exo (hp.objs.size + 1) C none)) ⟨(hp.push (PySem.W.kdv_tup us)).push (PySem.HandSPX.excO C hp.objs.size), g, dr, tk, os⟩ :=
    I1.laid (t' := tk) (a := hp.objs.size + 1) (h' := (hp.push (PySem.W.kdv_tup us)).push (PySem.HandSPX.excO C hp.objs.size)) grow big (exo_ok new)
  have r2 : Vals (V.ref (hp.objs.size + 1) :: vs) (Value.ref (hp.objs.size + 1) :: us ++ []) := by
    rw [List.append_nil]
    exact .cons rfl r1
  have cnt : (Value.ref (hp.objs.size + 1) :: us ++ []).length = ps.length := by
    rw [← r2.length]
    exact F1.len _ _ _ _ want
  have fits : us.length ≤ sizeLine := by
    rw [← Paired.length r1, sizeLine_eq]
    omega
  refine wpAny_call (PySem.HandSPX.call_own F.excBase_ValueError (fun Y => PySem.HandSPX.refsVE_contains Y bm tail) (I1.kIn _ _ hC) (PySem.W.looks_findIn I1.kIn iC) (fun self => PySem.W.bind_fn I1.kIn self tI) fits
    (codeAny_mono (F1.run _ X.stack _ _ ⟨Value.ref (hp.objs.size + 1) :: us, []⟩ (Value.ref (hp.objs.size + 1) :: us ++ []) _ _ (fun _ _ _ => False) (hr.make C us []) (J.env0.make C us []) (hb _ (Value.ref (hp.objs.size + 1) :: us) J.kIn cnt) r2 want) fun r s' res => ?_))
  cases r with
  | error er => exact (show False from res).elim
  | ok fl =>
    cases fl with
    | ret u =>
      obtain ⟨v, H2, J2, rv, rfl, q2⟩ := J.after res
      exact ⟨rv, .ref (hp.objs.size + 1), H2, J2, rfl, q2⟩
    | next => exact False.elim res
    | brk => exact False.elim res
    | cont => exact False.elim res
/-- C() as a value, no own __init__ -/
theorem pe_val0 {C : Addr} {x : Str} {p pos : Pos} (q : PySem.W.excIn X.K C [.type "ValueError", .type "Exception", .type "BaseException", .type "object"] "ValueError.__new__" = true) (gC : X.mg x = some (.ref C)) (kC : PySem.W.keepIn X.K (.ref C) = true) (hg : Gl X x := by rfl) (hdb : (x == ("__debug__" : Str)) = false := by decide) :
    PE X (.Call (.Name x p) [] [] pos) (fun σ H Q => ∀ a, H a = none → Q (.ref a) (upd H a (exo a C none))) := by
  refine ⟨fun pins s σ H Q I h => ?_⟩
  refine wpAny_Call_Name_kw (ld_glob I hg gC ?_ hdb)
  refine PySem.W.callWith_K0 I.kIn kC ?_
  obtain ⟨bm, N, nm, qn, bs, hdct, sn, sub, ab, col, dd, k0, k1, k2, k3, k5, mN, hC, hN, hni, T⟩ := exc_obj I.kIn q
  refine wpAny_call_exc_subT F.excBase_ValueError T hC hN hni (fun h' a made => ?_) (by show 0 ≤ sizeLine; exact Nat.zero_le _)
  have free : H a = none := I.hok.gone made.new
  obtain ⟨t, ht, _, _⟩ := made.there
  exact ⟨.ref a, upd H a (exo a C none), I.laidN made.keeps made.new free (exo_ok ht), rfl, h a free⟩
end
end GG

namespace GG
open PySem PySem.Spec PyProof.Rows L2
/-! ### the text by places -/
def topS (i : Nat) : Stmt := PySem.Challenge.pw_allbids_k00_errors.main.body.getD i (.Pass ⟨0, 0, 0, 0⟩)
abbrev sPen : Stmt := topS 17
abbrev sDraw : Stmt := topS 18
abbrev sPick : Stmt := topS 19

/-! ### a pen -/
def penD (l : Addr) (at' dg c fo : Int) : List (Key × V) := [(.inr "cells", .ref l), (.inr "at", .int at'), (.inr "digits", .int dg), (.inr "count", .int c), (.inr "fold", .int fo)]
section
variable (l : Addr) (a d c f x : Int)
theorem penD_cells : valV (penD l a d c f) (.inr "cells") = some (.ref l) := by kernel_rfl
theorem penD_at : valV (penD l a d c f) (.inr "at") = some (.int a) := by kernel_rfl
theorem penD_digits : valV (penD l a d c f) (.inr "digits") = some (.int d) := by kernel_rfl
theorem penD_count : valV (penD l a d c f) (.inr "count") = some (.int c) := by kernel_rfl
theorem penD_fold : valV (penD l a d c f) (.inr "fold") = some (.int f) := by kernel_rfl
theorem penP_at : putK (penD l a d c f) (.inr "at") (.int x) = penD l x d c f := by kernel_rfl
theorem penP_digits : putK (penD l a d c f) (.inr "digits") (.int x) = penD l a x c f := by kernel_rfl
theorem penP_count : putK (penD l a d c f) (.inr "count") (.int x) = penD l a d x f := by kernel_rfl
theorem penP_fold : putK (penD l a d c f) (.inr "fold") (.int x) = penD l a d c x := by kernel_rfl
end
/-- a pen at p, that was asked c times -/
structure PenIs (H : Hp) (p l : Addr) (ns : List Int) (at' dg c fo : Int) : Prop where
  obj : H p = some (.dK (penD l at' dg c fo))
  cel : H l = some (.lst (ns.map V.int))
  len : ns.length ≤ 63
  a0 : 0 ≤ at'
  d0 : 0 ≤ dg
  c0 : 0 ≤ c
  f0 : 0 ≤ fo
  f1 : fo < 2147483587
def PenAt (H : Hp) (p l : Addr) (c : Int) : Prop := ∃ ns at' dg fo, PenIs H p l ns at' dg c fo
/-- all but p stays -/
def Keep (p : Addr) (H H' : Hp) : Prop := ∀ b o, b ≠ p → H b = some o → H' b = some o
theorem Keep.refl {p : Addr} {H : Hp} : Keep p H H := fun _ _ _ e => e
theorem Keep.trans {p : Addr} {H H1 H2 : Hp} (a : Keep p H H1) (b : Keep p H1 H2) : Keep p H H2 := fun c o n e => b c o n (a c o n e)
theorem Keep.upd {p : Addr} {H H1 : Hp} {o : HO} (a : Keep p H H1) : Keep p H (upd H1 p o) := fun c u n e => by
  rw [upd_ne n]
  exact a c u n e
theorem Keep.new {p q : Addr} {H H1 : Hp} {o : HO} (a : Keep p H H1) (n : H1 q = none) : Keep p H (L2.upd H1 q o) := fun c u nc e => by
  have z := a c u nc e
  rw [upd_ne (ne_of_none z n)]
  exact z
theorem PenIs.put {H : Hp} {p l : Addr} {ns : List Int} {a d c f a' d' c' f' : Int} (P : PenIs H p l ns a d c f) (h1 : 0 ≤ a') (h2 : 0 ≤ d') (h3 : 0 ≤ c') (h4 : 0 ≤ f') (h5 : f' < 2147483587) : PenIs (upd H p (.dK (penD l a' d' c' f'))) p l ns a' d' c' f' :=
  ⟨upd_same, by rw [upd_ne (ne_of P.cel P.obj (by intro z; cases z))]; exact P.cel, P.len, h1, h2, h3, h4, h5⟩
structure PTxt (K : PySem.W.Frag) (mg : Str → Option Value) : Prop where
  int : mg "int" = none
  list : mg "list" = none
  len : mg "len" = none
theorem bInt : bootBuiltins "int" = some (.type "int") := by decide +kernel
theorem bList : bootBuiltins "list" = some (.type "list") := by decide +kernel
theorem small5 {l : Addr} {a d c f : Int} : (penD l a d c f).length < sizeLine := by
  rw [sizeLine_eq]
  show 5 < 16777216
  decide
section
variable {H : Hp} {p l : Addr} {ns : List Int} {a d c f : Int} (I : PenIs H p l ns a d c f)
include I
theorem PenIs.gCells : DGet H p (.str "cells") (some (.ref l)) := penD_cells l a d c f ▸ DGet.k (k := Sum.inr "cells") I.obj
theorem PenIs.gAt : DGet H p (.str "at") (some (.int a)) := penD_at l a d c f ▸ DGet.k (k := Sum.inr "at") I.obj
theorem PenIs.gDigits : DGet H p (.str "digits") (some (.int d)) := penD_digits l a d c f ▸ DGet.k (k := Sum.inr "digits") I.obj
theorem PenIs.gCount : DGet H p (.str "count") (some (.int c)) := penD_count l a d c f ▸ DGet.k (k := Sum.inr "count") I.obj
theorem PenIs.gFold : DGet H p (.str "fold") (some (.int f)) := penD_fold l a d c f ▸ DGet.k (k := Sum.inr "fold") I.obj
theorem PenIs.pAt (x : Int) : DPut H p (.str "at") (.int x) (upd H p (.dK (penD l x d c f))) := penP_at l a d c f x ▸ DPut.k (k := Sum.inr "at") I.obj small5
theorem PenIs.pDigits (x : Int) : DPut H p (.str "digits") (.int x) (upd H p (.dK (penD l a x c f))) := penP_digits l a d c f x ▸ DPut.k (k := Sum.inr "digits") I.obj small5
theorem PenIs.pCount (x : Int) : DPut H p (.str "count") (.int x) (upd H p (.dK (penD l a d x f))) := penP_count l a d c f x ▸ DPut.k (k := Sum.inr "count") I.obj small5
theorem PenIs.pFold (x : Int) : DPut H p (.str "fold") (.int x) (upd H p (.dK (penD l a d c x))) := penP_fold l a d c f x ▸ DPut.k (k := Sum.inr "fold") I.obj small5
end
/-- many is a number of cases -/
def spDraw : Sp := fun vs H Q _ => ∃ (p l : Addr) (c many : Int), vs = [.ref p, .int many] ∧ PenAt H p l c ∧ 0 < many ∧ many < 1000000 ∧ c < 1000000000 ∧
  ∀ (r : Int) (H' : Hp), 0 ≤ r → r < many → PenAt H' p l (c + 1) → Keep p H H' → Q (.int r) H'
section
variable {P : Program} {w : World} {K : PySem.W.Frag} {mg : Str → Option Value} {base : Heap}
theorem scDraw : FnScope ["_law_pen_here", "_law_many", "_law_cell", "_law_digit", "_law_mixed"] ["_law_pen_here", "_law_many"] (defScope sDraw) := ⟨rfl, rfl, rfl, by decide +kernel, rfl, by decide +kernel, by decide +kernel⟩
theorem ok_draw {f : Addr} {fd : FuncData} (F : Fun K "_law_draw" "_law_draw" sDraw f fd) (T : PTxt K mg) : FnOk P w K mg base CX0 1 f fd ["_law_pen_here", "_law_many"] spDraw := by
  refine F.ok scDraw (fun vs H Q E h => ?_) (fun cdv A outer s H vs Q E hr h => ?_)
  · obtain ⟨p, l, c, many, rfl, _⟩ := h
    rfl
  · obtain ⟨p, l, c, many, rfl, ⟨ns, a, d, fo, I0⟩, m0, m1, c1, k⟩ := h
    have hu := hu_of hr
    refine ⟨_, pss_cons (ps_dput hu (pv 0) pe_str (pe_op op_add (pe_dget hu (pv 0) pe_str (fun _ _ => rfl)) pe_int) rfl)
      (Evl.pss_cut (ps_if (PW.pt (pw_and (pt_cmpR op_eq (pe_dget hu (pv 0) pe_str (fun _ _ => rfl)) pe_int (nomark _)) (pw_and1 (pt_cmpR op_lt (pe_dget hu (pv 0) pe_str (fun _ _ => rfl)) (pe_callB call_len_seq (by rfl) T.len PySem.boot_len (pa_cons (pe_dget hu (pv 0) pe_str (fun _ _ => rfl)) pa_nil)) (nomark _)))))
        (pss_cons (ps_set (i := 2) scDraw.nd rfl (.inl rfl) (pe_ix ix_list (pe_dget hu (pv 0) pe_str (fun _ _ => rfl)) (pe_dget hu (pv 0) pe_str (fun _ _ => rfl)) (fun _ _ => rfl)))
          (pss_cons (ps_dput hu (pv 0) pe_str (pe_op op_add (pe_dget hu (pv 0) pe_str (fun _ _ => rfl)) pe_int) rfl)
          (pss_one (ps_if (pt_cmpR op_ge (pv 2) (pe_op op_pow pe_int pe_int) (nomark _))
            (pss_one (ps_dput hu (pv 0) pe_str (pe_op op_sub (pv 2) (pe_op op_pow pe_int pe_int)) rfl))
            (pss_one (ps_dput hu (pv 0) pe_str (pe_op op_mod (pe_callTy call_int1 (by rfl) T.int bInt (pa_cons (pe_op op_add (pe_op op_mul (pe_dget hu (pv 0) pe_str (fun _ _ => rfl)) pe_int) (pv 2)) pa_nil)) pe_int) rfl))))))
        pss_nil)
      (pss_cons (ps_if (pt_cmpR op_gt (pe_dget hu (pv 0) pe_str (fun _ _ => rfl)) pe_int (nomark _))
        (pss_cons (ps_set (i := 3) scDraw.nd rfl (.inl rfl) (pe_op op_mod (pe_callTy call_int1 (by rfl) T.int bInt (pa_cons (pe_dget hu (pv 0) pe_str (fun _ _ => rfl)) pa_nil)) (pv 1)))
          (pss_cons (ps_dput hu (pv 0) pe_str (pe_op op_fdivW (pe_dget hu (pv 0) pe_str (fun _ _ => rfl)) (pv 1)) rfl)
          (pss_one (ps_ret (pv 3)))))
        pss_nil)
      (pss_cons (ps_set (i := 4) scDraw.nd rfl (.inl rfl) (pe_op op_add (pe_op op_add (pe_dget hu (pv 0) pe_str (fun _ _ => rfl)) (pe_op op_mul (pe_dget hu (pv 0) pe_str (fun _ _ => rfl)) pe_int)) pe_int))
      (pss_one (ps_ret (pe_op op_mod (pe_op op_fdiv (pe_callTy call_int1 (by rfl) T.int bInt (pa_cons (pe_op op_mod (pe_op op_pow (pv 4) pe_int) pe_int) pa_nil)) pe_int) (pv 1))))))), ?_⟩
    refine ⟨_, rfl, p, _, rfl, I0.gCount, _, _, rfl, rfl, _, rfl, p, _, rfl, I0.pCount _, ?_⟩
    have I1 := I0.put (a' := a) (d' := d) (c' := c + 1) (f' := fo) I0.a0 I0.d0 (by have := I0.c0; omega) I0.f0 I0.f1
    have K1 : Keep p H (upd H p (.dK (penD l a d (c + 1) fo))) := Keep.refl.upd
    have dc := I1.c0
    refine ⟨fun σ' H' => ∃ (a' d' f' : Int) (v : Option V), σ' = [some (.ref p), some (.int many), v, none, none] ∧ PenIs H' p l ns a' d' (c + 1) f' ∧ Keep p H H', ?_, ?_⟩
    · refine ⟨_, rfl, p, _, rfl, I1.gDigits, rfl, _, rfl, ?_⟩
      refine ite2 (fun _ => ?_) (fun _ => ?_)
      · refine ⟨_, rfl, p, _, rfl, I1.gAt, _, rfl, p, _, rfl, I1.gCells, l, _, rfl, .inl (SqL.of I1.cel), _, _, rfl, rfl, _, rfl, ?_⟩
        refine ite2 (fun e => ?_) (fun _ => ?_)
        · rw [List.length_map] at e
          have ha : a < (ns.length : Int) := of_decide_eq_true e
          have ha0 := I1.a0
          obtain ⟨n, rfl⟩ : ∃ n : Nat, a = (n : Int) := ⟨a.toNat, (Int.toNat_of_nonneg ha0).symm⟩
          have hn : n < ns.length := by omega
          refine ⟨_, rfl, p, _, rfl, I1.gCells, _, rfl, p, _, rfl, I1.gAt, l, _, _, V.int ns[n], rfl, rfl, SqL.of I1.cel, atI_nat (by simp [hn]), ?_⟩
          refine ⟨_, rfl, p, _, rfl, I1.gAt, _, _, rfl, rfl, _, rfl, p, _, rfl, I1.pAt _, ?_⟩
          have I2 := I1.put (a' := (n : Int) + 1) (d' := d) (c' := c + 1) (f' := fo) (by omega) I1.d0 I1.c0 I1.f0 I1.f1
          have K2 := K1.upd (o := .dK (penD l ((n : Int) + 1) d (c + 1) fo))
          refine ⟨_, rfl, _, _, rfl, rfl, ⟨by decide, by decide, by decide⟩, _, _, rfl, rfl, _, rfl, ?_⟩
          refine ite2 (fun e => ?_) (fun _ => ?_)
          · have hb := of_decide_eq_true e
            refine ⟨_, rfl, _, _, rfl, rfl, ⟨by decide, by decide, by decide⟩, _, _, rfl, rfl, _, rfl, p, _, rfl, I2.pDigits _, ?_⟩
            exact ⟨_, _, _, _, rfl, I2.put (by omega) (by omega) I2.c0 I2.f0 I2.f1, K2.upd⟩
          · refine ⟨_, rfl, p, _, rfl, I2.gFold, _, _, rfl, rfl, .inl ⟨by have := I2.f0; omega, by have := I2.f1; omega⟩, _, rfl, _, _, rfl, rfl, .inl ⟨_, rfl, ?_⟩⟩
            refine ⟨_, _, rfl, rfl, (show (0 : Int) < 2147483587 by decide), _, rfl, p, _, rfl, I2.pFold _, ?_⟩
            exact ⟨_, _, _, _, rfl, I2.put I2.a0 I2.d0 I2.c0 (Int.emod_nonneg _ (by decide)) (Int.emod_lt_of_pos _ (by decide)), K2.upd⟩
        · exact ⟨_, _, _, _, rfl, I1, K1⟩
      · exact ⟨_, _, _, _, rfl, I1, K1⟩
    · rintro σ' H' ⟨a', d', f', v, rfl, I2, K2⟩
      refine ⟨_, rfl, p, _, rfl, I2.gDigits, _, _, rfl, rfl, _, rfl, ?_⟩
      refine ite2 (fun e => ?_) (fun _ => ?_)
      · refine ⟨_, rfl, p, _, rfl, I2.gDigits, .inl ⟨_, rfl, _, rfl, _, _, rfl, rfl, m0, ?_⟩⟩
        refine ⟨_, rfl, p, _, rfl, I2.gDigits, _, rfl, _, _, rfl, rfl, wide_div (b := 20) m0 (by omega) (by decide) (by decide), _, rfl, p, _, rfl, I2.pDigits _, ?_⟩
        refine ⟨_, rfl, k _ _ (Int.emod_nonneg _ (by omega)) (Int.emod_lt_of_pos _ m0) ⟨ns, _, _, _, I2.put I2.a0 (Int.ediv_nonneg I2.d0 (by omega)) I2.c0 I2.f0 I2.f1⟩ K2.upd⟩
      · have f0 := I2.f0
        have f1 := I2.f1
        refine ⟨_, rfl, p, _, rfl, I2.gFold, _, rfl, p, _, rfl, I2.gCount, _, _, rfl, rfl, .inl ⟨by omega, by omega⟩, _, _, rfl, rfl, _, _, rfl, rfl, ?_⟩
        refine ⟨_, rfl, _, _, rfl, rfl, ⟨by decide, by decide, by omega⟩, _, _, rfl, rfl, (show (0 : Int) < 2305843009213693951 by decide), .inl ⟨_, rfl, _, _, rfl, rfl, ⟨by decide, by decide⟩, _, rfl, _, _, rfl, rfl, m0, ?_⟩⟩
        exact k _ _ (Int.emod_nonneg _ (by omega)) (Int.emod_lt_of_pos _ m0) ⟨ns, _, _, _, I2⟩ K2
end
end GG

namespace GG
open PySem PySem.Spec PyProof.Rows L2
/-- a def of the text, where its name leads to -/
structure DefIs (K : PySem.W.Frag) (mg : Str → Option Value) (x : Str) (st : Stmt) : Prop where
  ex : ∃ f fd, Fun K x x st f fd ∧ mg x = some (.ref f)
/-- what a name of the module keeps -/
structure Kn (P : Program) (w : World) (K : PySem.W.Frag) (mg : Str → Option Value) (base : Heap) (x : Str) (k : Nat) (ps : List Str) (sp : Sp) : Prop where
  ex : ∃ f fd, mg x = some (.ref f) ∧ PySem.W.keepIn K (.ref f) = true ∧ Binds K fd ps [] ∧ FnOk P w K mg base CX0 k f fd ps sp
theorem Kn.of {P : Program} {w : World} {K : PySem.W.Frag} {mg : Str → Option Value} {base : Heap} {x : Str} {st : Stmt} {k : Nat} {ps : List Str} {sp : Sp} (D : DefIs K mg x st)
    (hb : ∀ (kV doc pm : Value) (an : Option Addr) (cdv ct : Value) (us : List Value), us.length = ps.length → bindArgs (PySem.W.fnOf x x (defArgs st) (defBody st) (defScope st) .none kV doc pm an cdv ct) ⟨us, []⟩ = pure (ps.zip us))
    (ok : ∀ f fd, Fun K x x st f fd → FnOk P w K mg base CX0 k f fd ps sp) : Kn P w K mg base x k ps sp := by
  obtain ⟨f, fd, F, m⟩ := D.ex
  exact ⟨f, fd, m, F.kp, F.binds hb, ok f fd F⟩
theorem pe_kn {X : Cx} {x : Str} {k : Nat} {ps : List Str} {sp : Sp} {e : Expr} {es : List Expr} {t : TA} {p pos : Pos} (F : Kn X.prog X.w X.K X.mg X.base x k ps sp) (hr : Room k X.A) (ha : PA X (e :: es) t) (hg : Gl X x := by rfl)
    (hdb : (x == ("__debug__" : Str)) = false := by decide) (he : starEach (e :: es) X.env = (false, eval e X.env) :: starEach es X.env := by rfl) (hpl : (backTo pos (starEach es X.env)).any (·.1) = false := by rfl) :
    PE X (.Call (.Name x p) (e :: es) [] pos) (tCall sp [] (fun _ _ _ => False) t) := by
  obtain ⟨f, fd, hm, hk, hb, G⟩ := F.ex
  exact pe_call G hr hg hm hk hb .nil (fun _ _ _ _ _ _ _ z => z.elim) ha hdb he hpl
abbrev sFar : Stmt := topS 20
theorem SqL.keep {K : PySem.W.Frag} {H H' : Hp} {p a : Addr} {kvs : List (Key × V)} {xs : List V} (k : Keep p H H') (hp : H p = some (.dK kvs)) (s : SqL K H a xs) : SqL K H' a xs := by
  rcases s with s | s
  · have n : a ≠ p := by
      rcases s with s | ⟨o, s⟩
      · exact ne_of s hp (by intro z; cases z)
      · exact ne_of s hp (by intro z; cases z)
    rcases s with s | ⟨o, s⟩
    · exact .inl (.inl (k a _ n s))
    · exact .inl (.inr ⟨o, k a _ n s⟩)
  · exact .inr s
def spPen (K : PySem.W.Frag) : Sp := fun vs H Q _ => ∃ (a : Addr) (ns : List Int), vs = [.ref a] ∧ SqL K H a (ns.map V.int) ∧ ns.length ≤ 63 ∧ ∀ (p l : Addr) (H' : Hp), PenAt H' p l 0 → H p = none → H l = none → Same H H' → Q (.ref p) H'
def spPick (K : PySem.W.Frag) : Sp := fun vs H Q _ => ∃ (p l a : Addr) (c : Int) (xs : List V), vs = [.ref p, .ref a] ∧ PenAt H p l c ∧ SqL K H a xs ∧ 0 < xs.length ∧ xs.length < 1000000 ∧ c < 1000000000 ∧
  ∀ (x : V) (H' : Hp), x ∈ xs → PenAt H' p l (c + 1) → Keep p H H' → Q x H'
def spFar : Sp := fun vs H Q _ => ∃ (p l : Addr) (c : Int), vs = [.ref p] ∧ PenAt H p l c ∧ c < 100000000 ∧
  ∀ (r c' : Int) (H' : Hp), c ≤ c' → c' ≤ c + 10 → -1000000000000000000 < r → r < 1000000000000000000 → PenAt H' p l c' → Keep p H H' → Q (.int r) H'
section
variable {P : Program} {w : World} {K : PySem.W.Frag} {mg : Str → Option Value} {base : Heap}
theorem kn_draw (D : DefIs K mg "_law_draw" sDraw) (T : PTxt K mg) : Kn P w K mg base "_law_draw" 1 ["_law_pen_here", "_law_many"] spDraw :=
  .of D (fun _ _ _ _ _ _ us hl => match us, hl with | [_, _], _ => rfl) fun _ _ F => ok_draw F T
theorem scPen : FnScope ["_law_script", "_law_fold", "_law_cell"] ["_law_script"] (defScope sPen) := ⟨rfl, rfl, rfl, by decide +kernel, rfl, by decide +kernel, by decide +kernel⟩
theorem kn_pen (D : DefIs K mg "_law_pen" sPen) (T : PTxt K mg) : Kn P w K mg base "_law_pen" 1 ["_law_script"] (spPen K) := by
  refine .of D (fun _ _ _ _ _ _ us hl => match us, hl with | [_], _ => rfl) fun _ _ F => ?_
  refine F.ok scPen (fun vs H Q E h => ?_) (fun cdv A outer s H vs Q E hr h => ?_)
  · obtain ⟨a, ns, rfl, _⟩ := h
    rfl
  · obtain ⟨a, ns, rfl, S, hl, k⟩ := h
    refine ⟨_, pss_cons (ps_set (i := 1) scPen.nd rfl (.inl rfl) pe_int)
      (pss_cons (ps_for PassesOwn.never rfl (pi_list (pv 0)) (pg_name (i := 2) scPen.nd rfl (.inl rfl))
        (pss_one (ps_set (i := 1) scPen.nd rfl (.inl rfl) (pe_op op_mod (pe_callTy call_int1 (by rfl) T.int bInt (pa_cons (pe_op op_add (pe_op op_mul (pv 1) pe_int) (pv 2)) pa_nil)) pe_int))))
      (pss_one (ps_ret (pe_disp (pps_cons pe_str (pe_callTy call_list_of (by rfl) T.list bList (pa_cons (pv 0) pa_nil)) (pps_cons pe_str pe_int (pps_cons pe_str pe_int (pps_cons pe_str pe_int (pps_cons pe_str (pv 1) pps_nil))))) rfl rfl (by intro z; cases z) (by decide))))), ?_⟩
    refine ⟨_, rfl, a, rfl, ⟨_, S⟩, for_list (K := K) (a := a) (xs := ns.map V.int) (fun i σ H' => H = H' ∧ ∃ (f : Int) (v : Option V), σ = [some (.ref a), some (.int f), v] ∧ 0 ≤ f ∧ f < 1000000007) ⟨rfl, _, _, rfl, by decide, by decide⟩ (fun i σ H' _ z => z.1 ▸ S) ?_ ?_⟩
    · rintro i x σ H' hi ⟨rfl, f, v, rfl, f0, f1⟩
      rw [List.getElem?_map] at hi
      obtain ⟨n, _, rfl⟩ := Option.map_eq_some_iff.mp hi
      refine ⟨_, rfl, _, _, rfl, rfl, .inl ⟨by omega, by omega⟩, _, rfl, _, _, rfl, rfl, .inl ⟨_, rfl, _, _, rfl, rfl, (show (0 : Int) < 1000000007 by decide), ?_⟩⟩
      exact ⟨rfl, _, _, rfl, Int.emod_nonneg _ (by decide), Int.emod_lt_of_pos _ (by decide)⟩
    · rintro σ H' ⟨rfl, f, v, rfl, f0, f1⟩
      intro p hp
      have ap : ∀ o, SqL K (upd H p o) a (ns.map V.int) := fun o => by
        rcases S with (s | ⟨u, s⟩) | s
        · exact .inl (.inl (by rw [upd_ne (ne_of_none s hp)]; exact s))
        · exact .inl (.inr ⟨u, by rw [upd_ne (ne_of_none s hp)]; exact s⟩)
        · exact .inr s
      refine ⟨_, rfl, a, _, rfl, .inl (ap _), fun l hl' => ?_⟩
      have npl : p ≠ l := fun z => by
        rw [← z, upd_same] at hl'
        cases hl'
      have nl : H l = none := by
        rw [upd_ne npl.symm] at hl'
        exact hl'
      refine ⟨_, rfl, ⟨by rw [upd_ne npl, upd_same], [(.inr "cells", .ref l), (.inr "at", .int 0), (.inr "digits", .int 0), (.inr "count", .int 0), (.inr "fold", .int f)], rfl, (by show 5 ≤ 15; decide), ?_⟩⟩
      have e : mergeK [] [((.inr "cells" : Key), V.ref l), (.inr "at", .int 0), (.inr "digits", .int 0), (.inr "count", .int 0), (.inr "fold", .int f)] = penD l 0 0 0 f := by kernel_rfl
      rw [e]
      refine k p l _ ⟨ns, 0, 0, f, upd_same, by rw [upd_ne npl.symm, upd_same], hl, by decide, by decide, by decide, f0, by omega⟩ hp nl fun b o z => ?_
      rw [upd_ne (ne_of_none z hp), upd_ne (ne_of_none z nl), upd_ne (ne_of_none z hp)]
      exact z
theorem scPick : FnScope ["_law_pen_here", "_law_some"] ["_law_pen_here", "_law_some"] (defScope sPick) := ⟨rfl, rfl, rfl, by decide +kernel, rfl, by decide +kernel, by decide +kernel⟩
theorem kn_pick (D : DefIs K mg "_law_pick" sPick) (T : PTxt K mg) (B : Kn P w K mg base "_law_draw" 1 ["_law_pen_here", "_law_many"] spDraw) : Kn P w K mg base "_law_pick" 2 ["_law_pen_here", "_law_some"] (spPick K) := by
  refine .of D (fun _ _ _ _ _ _ us hl => match us, hl with | [_, _], _ => rfl) fun _ _ F => ?_
  refine F.ok scPick (fun vs H Q E h => ?_) (fun cdv A outer s H vs Q E hr h => ?_)
  · obtain ⟨p, l, a, c, xs, rfl, _⟩ := h
    rfl
  · obtain ⟨p, l, a, c, xs, rfl, PA', S, l0, l1, c1, k⟩ := h
    refine ⟨_, pss_one (ps_ret (pe_ix ix_list (pv 1) (pe_kn B hr (pa_cons (pv 0) (pa_cons (pe_callB call_len_seq (by rfl) T.len PySem.boot_len (pa_cons (pv 1) pa_nil)) pa_nil))) (fun _ _ => rfl))), ?_⟩
    refine ⟨_, rfl, _, rfl, _, rfl, a, _, rfl, .inl S, p, l, c, _, rfl, PA', by omega, by omega, c1, fun r H' r0 r1 P1 K1 => ?_⟩
    obtain ⟨n, rfl⟩ : ∃ n : Nat, r = (n : Int) := ⟨r.toNat, (Int.toNat_of_nonneg r0).symm⟩
    have hn : n < xs.length := by omega
    obtain ⟨ns, a', d', f', I0⟩ := PA'
    exact ⟨a, xs, _, xs[n], rfl, rfl, SqL.keep K1 I0.obj S, atI_nat (by simp [hn]), k _ _ (List.getElem_mem hn) P1 K1⟩
theorem PenAt.new {H : Hp} {p k l : Addr} {c : Int} {o : HO} (h : PenAt H p k c) (n : H l = none) : PenAt (upd H l o) p k c := by
  obtain ⟨ns, a, d, f, I⟩ := h
  exact ⟨ns, a, d, f, by rw [upd_ne (ne_of_none I.obj n)]; exact I.obj, by rw [upd_ne (ne_of_none I.cel n)]; exact I.cel, I.len, I.a0, I.d0, I.c0, I.f0, I.f1⟩
theorem scFar : FnScope ["_law_pen_here", "_law_found", "_law_k"] ["_law_pen_here"] (defScope sFar) := ⟨rfl, rfl, rfl, by decide +kernel, rfl, by decide +kernel, by decide +kernel⟩
theorem kn_far (D : DefIs K mg "_law_far" sFar) (rg : mg "range" = none) (B1 : Kn P w K mg base "_law_draw" 1 ["_law_pen_here", "_law_many"] spDraw) (B2 : Kn P w K mg base "_law_pick" 2 ["_law_pen_here", "_law_some"] (spPick K)) : Kn P w K mg base "_law_far" 3 ["_law_pen_here"] spFar := by
  refine .of D (fun _ _ _ _ _ _ us hl => match us, hl with | [_], _ => rfl) fun _ _ F => ?_
  refine F.ok scFar (fun vs H Q E h => ?_) (fun cdv A outer s H vs Q E hr h => ?_)
  · obtain ⟨p, l0, c, rfl, _⟩ := h
    rfl
  · obtain ⟨p, l0, c, rfl, PA', c1, k⟩ := h
    have hr1 : Room 1 _ := hr.mono (by decide)
    refine ⟨_, pss_cons (ps_set (i := 1) scFar.nd rfl (.inl rfl) pe_int)
      (pss_cons (ps_for PassesOwn.never rfl (pi_range1 rfl rg (pa_cons (pe_kn B2 hr (pa_cons (pv 0) (pa_cons (pe_lst (pa_cons pe_int (pa_cons pe_int (pa_cons pe_int (pa_cons pe_int (pa_cons pe_int pa_nil)))))) pa_nil))) pa_nil)) (pg_name (i := 2) scFar.nd rfl (.inl rfl))
        (pss_one (ps_set (i := 1) scFar.nd rfl (.inl rfl) (pe_op op_add (pe_op op_mul (pv 1) pe_int) (pe_kn B1 hr1 (pa_cons (pv 0) (pa_cons pe_int pa_nil)))))))
      (pss_one (ps_ret (pe_ifExp (pt_cmpR op_gt (pe_kn B1 hr1 (pa_cons (pv 0) (pa_cons pe_int pa_nil))) pe_int (nomark _)) (pv 1) (pe_un un_neg (pv 1)))))), ?_⟩
    refine ⟨_, rfl, (by rw [sizeLine_eq]; show 5 ≤ 16777216; decide), fun l hl => ?_⟩
    have K0 : Keep p H (upd H l (.lst [.int 0, .int 1, .int 1, .int 2, .int 6])) := Keep.refl.new hl
    refine ⟨p, l0, l, c, _, rfl, PA'.new hl, .inl (.inl upd_same), by show 0 < 5; decide, by show 5 < 1000000; decide, by omega, fun x H1 hx P1 K1 => ?_⟩
    obtain ⟨j, rfl, j0, j6⟩ : ∃ j : Nat, x = V.int (j : Int) ∧ 0 ≤ j ∧ j ≤ 6 := by
      simp only [List.mem_cons, List.not_mem_nil, or_false] at hx
      rcases hx with rfl | rfl | rfl | rfl | rfl
      · exact ⟨0, rfl, by decide, by decide⟩
      · exact ⟨1, rfl, by decide, by decide⟩
      · exact ⟨1, rfl, by decide, by decide⟩
      · exact ⟨2, rfl, by decide, by decide⟩
      · exact ⟨6, rfl, by decide, by decide⟩
    have K2 := K0.trans K1
    refine ⟨(j : Int), rfl, by omega, by omega, for_range (n := j) (fun i σ H' => ∃ (f : Int) (v : Option V), σ = [some (.ref p), some (.int f), v] ∧ PenAt H' p l0 (c + 1 + i) ∧ Keep p H H' ∧ 0 ≤ f ∧ f < 1000 ^ i ∧ i ≤ j) ⟨0, none, rfl, by simpa using P1, K2, by decide, by decide, by omega⟩ ?_ ?_⟩
    · rintro i σ H' hi ⟨f, v, rfl, P2, K3, f0, f1, ij⟩
      have b1 : (1000 : Int) ^ i ≤ 1000 ^ 5 := by
        have : (1000 : Nat) ^ i ≤ 1000 ^ 5 := Nat.pow_le_pow_right (by decide) (by omega)
        exact_mod_cast this
      refine ⟨_, rfl, _, _, rfl, rfl, .inl ⟨by omega, by omega⟩, _, rfl, p, l0, _, 1000, rfl, P2, by decide, by decide, by omega, fun r H2 r0 r1 P3 K4 => ?_⟩
      refine ⟨_, _, rfl, rfl, _, _, rfl, ?_, K3.trans K4, by omega, by rw [Int.pow_succ]; omega, by omega⟩
      have e : c + 1 + ((i + 1 : Nat) : Int) = c + 1 + (i : Int) + 1 := by omega
      rw [e]
      exact P3
    · rintro σ H' ⟨f, v, rfl, P2, K3, f0, f1, _⟩
      have b1 : (1000 : Int) ^ j ≤ 1000 ^ 6 := by
        have : (1000 : Nat) ^ j ≤ 1000 ^ 6 := Nat.pow_le_pow_right (by decide) (by omega)
        exact_mod_cast this
      refine ⟨_, rfl, p, l0, _, 3, rfl, P2, by decide, by decide, by omega, fun r H2 r0 r1 P3 K4 => ?_⟩
      refine ⟨_, _, rfl, rfl, _, rfl, ?_⟩
      refine ite2 (fun _ => ?_) (fun _ => ?_)
      · exact ⟨_, rfl, k _ _ _ (by omega) (by omega) (by omega) (by omega) P3 (K3.trans K4)⟩
      · exact ⟨_, rfl, _, rfl, k _ _ _ (by omega) (by omega) (by omega) (by omega) P3 (K3.trans K4)⟩
end
end GG

namespace GG
open PySem PySem.Spec PyProof.Rows L2
/-! ### data in the heap, by their shape -/
mutual
inductive Da (H : Hp) : V → PyData → Prop
  | non : Da H .non .none
  | bl (b : Bool) : Da H (.bl b) (.bool b)
  | int (i : Int) : Da H (.int i) (.int i)
  | str (x : Str) : Da H (.str x) (.str x)
  | lst {a : Addr} {xs : List V} {ds : List PyData} : H a = some (.lst xs) → a ≠ sysModules → DaAll H xs ds → Da H (.ref a) (.list ds)
  | tup {a : Addr} {xs : List V} {ds : List PyData} : H a = some (.tup xs) → DaAll H xs ds → Da H (.ref a) (.tuple ds)
  | dic {a : Addr} {k : Str} {v : V} {d : PyData} : H a = some (.dK [(.inr k, v)]) → Da H v d → Da H (.ref a) (.dict [(.str k, d)])
inductive DaAll (H : Hp) : List V → List PyData → Prop
  | nil : DaAll H [] []
  | cons {v : V} {vs : List V} {d : PyData} {ds : List PyData} : Da H v d → DaAll H vs ds → DaAll H (v :: vs) (d :: ds)
end
mutual
theorem Da.dt {X : Cx} {H : Hp} : ∀ {v : V} {d : PyData}, Da H v d → Dt X H v d
  | _, _, .non => .non
  | _, _, .bl b => .bl b
  | _, _, .int i => .int i
  | _, _, .str x => .str x
  | _, _, .lst e n t => .lst e n t.dt
  | _, _, .tup e t => .tup e t.dt
  | _, _, .dic e t => .dict1 e t.dt
theorem DaAll.dt {X : Cx} {H : Hp} : ∀ {vs : List V} {ds : List PyData}, DaAll H vs ds → DtAll X H vs ds
  | _, _, .nil => .nil
  | _, _, .cons h t => .cons h.dt t.dt
end
/-- what is no pen stays -/
def Stay (H H' : Hp) : Prop := ∀ b o, H b = some o → (∀ l a d c f, o ≠ .dK (penD l a d c f)) → H' b = some o
theorem Stay.refl {H : Hp} : Stay H H := fun _ _ e _ => e
theorem Stay.trans {H H1 H2 : Hp} (a : Stay H H1) (b : Stay H1 H2) : Stay H H2 := fun c o e n => b c o (a c o e n) n
theorem Same.stay {H H' : Hp} (k : Same H H') : Stay H H' := fun b o e _ => k b o e
theorem Keep.stay {p l0 : Addr} {c : Int} {H H' : Hp} (k : Keep p H H') (P : PenAt H p l0 c) : Stay H H' := fun b o e n => k b o (fun z => by
  obtain ⟨ns, a, d, f, I⟩ := P
  rw [z, I.obj] at e
  exact n _ _ _ _ _ (Option.some.inj e).symm) e
theorem Stay.new {H H1 : Hp} {q : Addr} {o : HO} (a : Stay H H1) (n : H1 q = none) : Stay H (upd H1 q o) := fun c u e ne => by
  have z := a c u e ne
  rw [upd_ne (ne_of_none z n)]
  exact z
mutual
theorem Da.stay {H H' : Hp} (k : Stay H H') : ∀ {v : V} {d : PyData}, Da H v d → Da H' v d
  | _, _, .non => .non
  | _, _, .bl b => .bl b
  | _, _, .int i => .int i
  | _, _, .str x => .str x
  | _, _, .lst e n t => .lst (k _ _ e (fun _ _ _ _ _ z => by cases z)) n (t.stay k)
  | _, _, .tup e t => .tup (k _ _ e (fun _ _ _ _ _ z => by cases z)) (t.stay k)
  | _, _, .dic e t => .dic (k _ _ e (fun _ _ _ _ _ z => by
      have z1 := HO.dK.inj z
      have z2 := congrArg List.length z1
      simp [penD] at z2)) (t.stay k)
theorem DaAll.stay {H H' : Hp} (k : Stay H H') : ∀ {vs : List V} {ds : List PyData}, DaAll H vs ds → DaAll H' vs ds
  | _, _, .nil => .nil
  | _, _, .cons h t => .cons (h.stay k) (t.stay k)
end
/-- a list display whose address is known not to be that of sys.modules -/
def tLstM (t : TA) : TE := fun σ H Q => t σ H fun xs H1 => xs.length ≤ sizeLine ∧ ∀ p, H1 p = none → p ≠ sysModules → Q (.ref p) (upd H1 p (.lst xs))
theorem pe_lstM {X : Cx} {es : List Expr} {t : TA} {pos : Pos} (h : PA X es t) : PE X (.List es pos) (tLstM t) := by
  refine ⟨fun pins s σ H Q I hq => ?_⟩
  refine wpAny_List_spliced (thn (h.run pos pins s σ H _ I hq) fun us s1 got => ?_)
  obtain ⟨xs, H1, I1, rel, small, q⟩ := got
  have fresh : H1 s1.heap.objs.size = none := I1.hok.fresh (Nat.le_refl _)
  refine ⟨by rw [← rel.length]; exact small, .ref s1.heap.objs.size, upd H1 s1.heap.objs.size (.lst xs), I1.laid (t' := s1.toks) (fun b u e => Heap.get?_push_of_some _ e) (Nat.le_refl _) ⟨small, us, 0, rel, Heap.get?_push_size _ rfl⟩, rfl, q _ fresh (Nat.ne_of_gt I1.big)⟩
/-- xs[lo:hi], likewise -/
def rSlM (K : PySem.W.Frag) : V → Option Int → Option Int → Hp → VK → Prop := fun x lo hi H Q => ∃ a xs, x = .ref a ∧ SqL K H a xs ∧ ∀ p, H p = none → p ≠ sysModules → Q (.ref p) (upd H p (.lst (cutV xs lo hi)))
theorem sl_listM {X : Cx} : SlR X (rSlM X.K) := by
  intro pins s σ H x v vl vu lo hi sl Q I rx hs pl pu h
  obtain ⟨a, xs, rfl, sq, q⟩ := h
  cases rx
  obtain ⟨its, r, ht, small⟩ := I.list sq
  have same := r.length
  refine ⟨"list", _, slot_list_getitem.lookup, ht.isList.typeIs, wpAny_getItem_list_slice ht.isList hs pl pu .none (by simp) ?_ (by rw [List.size_toArray] <;> omega)⟩
  rw [slicePick_cut, ← same]
  exact ⟨.ref s.heap.objs.size, _, I.laid (t' := s.toks) (o := .lst (cutV xs lo hi)) (fun b ob q => Heap.get?_push_of_some _ q) (Nat.le_refl _) ⟨Nat.le_trans (cutV_length xs lo hi) small, _, 0, (r.drop (HT.sIx xs.length 0 lo)).take (HT.sIx xs.length xs.length hi - HT.sIx xs.length 0 lo), Heap.get?_push_size _ rfl⟩, rfl, q _ (I.hok.fresh (Nat.le_refl _)) (Nat.ne_of_gt I.big)⟩
/-- for i, x in enumerate(a list) -/
theorem for_enumL {K : PySem.W.Frag} {a : Addr} {xs : List V} {g : TG} {tb : TS} {D : Ends} {σ : L2.St} {H : Hp} (Pv : Nat → L2.St → Hp → Prop) (h0 : Pv 0 σ H) (hq : ∀ i σ H, Pv i σ H → SqL K H a xs)
    (hs : ∀ (i : Nat) (x : V) (T : Addr) (σ : L2.St) (H : Hp), xs[i]? = some x → Pv i σ H → H T = none → g (.ref T) σ (upd H T (.tup [.int (i : Nat), x])) fun σ2 H2 => tb { D with nx := Pv (i + 1), ct := Pv (i + 1), bk := D.nx } σ2 H2) (hd : ∀ σ H, Pv xs.length σ H → D.nx σ H) :
    ∃ W : Nat → Nat → L2.St → Hp → Prop, (∃ m, W 0 m σ H) ∧ ∀ i m σ H, W i m σ H →
      ((Ite K a).stop i H ∧ D.nx σ H) ∨ ((Ite K a).go i H ∧ ∃ N : L2.St → Hp → Prop, (∀ σ' H', N σ' H' → ∃ m', m' < m ∧ W (i + 1) m' σ' H') ∧ ∀ v H', (Ite K a).yld i H v H' → g v σ H' fun σ2 H2 => tb { D with nx := N, ct := N, bk := D.nx } σ2 H2) := by
  refine ⟨fun i m σ H => m = xs.length - i ∧ i ≤ xs.length ∧ Pv i σ H, ⟨_, rfl, Nat.zero_le _, h0⟩, ?_⟩
  rintro i m σ H ⟨rfl, le, now⟩
  have sq := hq i σ H now
  by_cases lt : i < xs.length
  · refine .inr ⟨⟨xs, xs[i], sq, List.getElem?_eq_getElem lt⟩, Pv (i + 1), fun σ' H' z => ⟨xs.length - (i + 1), by omega, rfl, lt, z⟩, ?_⟩
    rintro v H' ⟨T, x, rfl, free, rfl, all⟩
    exact hs i x T σ H (all xs sq) now free
  · obtain rfl : i = xs.length := by omega
    exact .inl ⟨⟨xs, sq, Nat.le_refl _⟩, hd σ H now⟩
end GG

namespace GG
open PySem PySem.Spec PyProof.Rows L2
/-! ### the fourteen errors -/
/-- an __init__ that keeps its arguments as fields -/
def spIn (C : Addr) (names : List Str) : Sp := fun vs H Q _ => ∃ (a : Addr) (ys : List V), vs = .ref a :: ys ∧ ys.length = names.length ∧ H a = some (exo a C none) ∧ ∀ H' : Hp, ExAt H' a C (names.zip ys).reverse → Keep a H H' → Q .non H'
/-- what is known of the class x, at C -/
structure ClsF (K : PySem.W.Frag) (mg : Str → Option Value) (x qual : Str) (C : Addr) (names : List Str) (st : Stmt) : Prop where
  m : mg x = some (.ref C)
  t : ExT K C
  na : ∀ f ∈ names, PySem.W.findIn K (.ref C) f = some none
  ini : ∃ fI fd, PySem.W.findIn K (.ref C) "__init__" = some (some (.ref fI)) ∧ PySem.W.typeIn K (.ref fI) = some (.type "function") ∧ Fun K "__init__" qual st fI fd
structure ClsE (K : PySem.W.Frag) (mg : Str → Option Value) (x : Str) (C : Addr) : Prop where
  m : mg x = some (.ref C)
  t : ExT K C
  e : PySem.W.excIn K C [.type "ValueError", .type "Exception", .type "BaseException", .type "object"] "ValueError.__new__" = true
/-- the same, with its __init__ walked -/
structure ClsV (P : Program) (w : World) (K : PySem.W.Frag) (mg : Str → Option Value) (base : Heap) (x : Str) (C : Addr) (ps names : List Str) : Prop where
  m : mg x = some (.ref C)
  t : ExT K C
  na : ∀ f ∈ names, PySem.W.findIn K (.ref C) f = some none
  ini : ∃ fI fd, PySem.W.findIn K (.ref C) "__init__" = some (some (.ref fI)) ∧ PySem.W.typeIn K (.ref fI) = some (.type "function") ∧ Binds K fd ps [] ∧ FnOk P w K mg base CX0 1 fI fd ps (spIn C names)
theorem pe_clsV {X : Cx} {x : Str} {C : Addr} {ps names : List Str} {e : Expr} {es : List Expr} {ta : TA} {p pos : Pos} (V : ClsV X.prog X.w X.K X.mg X.base x C ps names) (hr : Room 2 X.A) (ha : PA X (e :: es) ta) (hg : Gl X x := by rfl)
    (hdb : (x == ("__debug__" : Str)) = false := by decide) (he : starEach (e :: es) X.env = (false, eval e X.env) :: starEach es X.env := by rfl) (hpl : (backTo pos (starEach es X.env)).any (·.1) = false := by rfl) :
    PE X (.Call (.Name x p) (e :: es) [] pos) (tVal C (spIn C names) ta) := by
  obtain ⟨fI, fd, i, t, b, G⟩ := V.ini
  exact pe_val V.t.ox i t G hr b V.m ha hg hdb he hpl
theorem Keep.same {a : Addr} {o : HO} {H H' : Hp} (n : H a = none) (k : Keep a (L2.upd H a o) H') : Same H H' := fun b u e => k b u (ne_of_none e n) (by rw [upd_ne (ne_of_none e n)]; exact e)
theorem ExAt.same {H H' : Hp} {a C : Addr} {fs : List (Str × V)} (k : Same H H') (e : ExAt H a C fs) : ExAt H' a C fs := by
  rcases e with ⟨z, e⟩ | ⟨dx, e, ed⟩
  · exact .inl ⟨z, k _ _ e⟩
  · exact .inr ⟨dx, k _ _ e, k _ _ ed⟩
theorem Same.new {H H1 : Hp} {q : Addr} {o : HO} (a : Same H H1) (n : H1 q = none) : Same H (upd H1 q o) := fun c u e => by
  have z := a c u e
  rw [upd_ne (ne_of_none z n)]
  exact z
section
variable {P : Program} {w : World} {K : PySem.W.Frag} {mg : Str → Option Value} {base : Heap}

abbrev sI0 : Stmt := inClass (topS 2) 0
theorem scI0 : FnScope ["self", "column"] ["self", "column"] (defScope sI0) := ⟨rfl, rfl, rfl, by decide +kernel, rfl, by decide +kernel, by decide +kernel⟩
theorem cv0 {C : Addr} (F : ClsF K mg "BadText" "BadText.__init__" C ["column"] sI0) : ClsV P w K mg base "BadText" C ["self", "column"] ["column"] := by
  obtain ⟨fI, fd, i, t, U⟩ := F.ini
  refine ⟨F.m, F.t, F.na, fI, fd, i, t, U.binds fun _ _ _ _ _ _ us hl => match us, hl with | [_, _], _ => rfl, ?_⟩
  refine U.ok scI0 (fun vs H Q E h => ?_) (fun cdv A outer s H vs Q E hr h => ?_)
  · obtain ⟨a, ys, rfl, ly, _⟩ := h
    show ys.length + 1 = 2
    rw [ly]
    all_goals rfl
  · obtain ⟨a, ys, rfl, ly, he, k⟩ := h
    obtain ⟨y1, rfl⟩ : ∃ y1, ys = [y1] := by
      match ys, ly with
      | [y1], _ => exact ⟨_, rfl⟩
    refine ⟨_, pss_one (ps_ost (pv 0) (pv 1)), ?_⟩
    refine ⟨_, rfl, _, rfl, a, C, rfl, F.t.ox, F.na _ List.mem_cons_self, .inl ⟨he, fun dx hdx ne => ?_⟩⟩
    have hd1 : ∀ o1 o2, (upd (upd H dx o1) a o2) dx = some o1 := fun o1 o2 => by rw [upd_ne ne, upd_same]
    refine k _ (.inr ⟨dx, upd_same, hd1 _ _⟩) ((Keep.refl.new hdx).upd)
abbrev sI1 : Stmt := inClass (topS 3) 0
theorem scI1 : FnScope ["self", "line", "column"] ["self", "line", "column"] (defScope sI1) := ⟨rfl, rfl, rfl, by decide +kernel, rfl, by decide +kernel, by decide +kernel⟩
theorem cv1 {C : Addr} (F : ClsF K mg "BadLine" "BadLine.__init__" C ["line", "column"] sI1) : ClsV P w K mg base "BadLine" C ["self", "line", "column"] ["line", "column"] := by
  obtain ⟨fI, fd, i, t, U⟩ := F.ini
  refine ⟨F.m, F.t, F.na, fI, fd, i, t, U.binds fun _ _ _ _ _ _ us hl => match us, hl with | [_, _, _], _ => rfl, ?_⟩
  refine U.ok scI1 (fun vs H Q E h => ?_) (fun cdv A outer s H vs Q E hr h => ?_)
  · obtain ⟨a, ys, rfl, ly, _⟩ := h
    show ys.length + 1 = 3
    rw [ly]
    all_goals rfl
  · obtain ⟨a, ys, rfl, ly, he, k⟩ := h
    obtain ⟨y1, y2, rfl⟩ : ∃ y1 y2, ys = [y1, y2] := by
      match ys, ly with
      | [y1, y2], _ => exact ⟨_, _, rfl⟩
    refine ⟨_, pss_cons (ps_ost (pv 0) (pv 1)) (pss_one (ps_ost (pv 0) (pv 2))), ?_⟩
    refine ⟨_, rfl, _, rfl, a, C, rfl, F.t.ox, F.na _ List.mem_cons_self, .inl ⟨he, fun dx hdx ne => ?_⟩⟩
    have hd1 : ∀ o1 o2, (upd (upd H dx o1) a o2) dx = some o1 := fun o1 o2 => by rw [upd_ne ne, upd_same]
    have kp : Keep a H (upd (upd H dx (exd dx [("line", y1)])) a (exo a C (some dx))) := (Keep.refl.new hdx).upd
    have ad : a ≠ dx := ne.symm
    refine ⟨_, rfl, _, rfl, a, C, rfl, F.t.ox, F.na _ (List.mem_cons_of_mem _ List.mem_cons_self), .inr ⟨dx, [("line", y1)], upd_same, hd1 _ _, (by show 1 ≤ 900; decide), ?_⟩⟩
    refine k _ (.inr ⟨dx, by rw [upd_ne ad, upd_same], upd_same⟩) (fun b o nb e => ?_)
    rw [upd_ne (ne_of_none e hdx)]
    exact kp b o nb e
abbrev sI2 : Stmt := inClass (topS 4) 0
theorem scI2 : FnScope ["self", "what", "number"] ["self", "what", "number"] (defScope sI2) := ⟨rfl, rfl, rfl, by decide +kernel, rfl, by decide +kernel, by decide +kernel⟩
theorem cv2 {C : Addr} (F : ClsF K mg "BadNumber" "BadNumber.__init__" C ["what", "number"] sI2) : ClsV P w K mg base "BadNumber" C ["self", "what", "number"] ["what", "number"] := by
  obtain ⟨fI, fd, i, t, U⟩ := F.ini
  refine ⟨F.m, F.t, F.na, fI, fd, i, t, U.binds fun _ _ _ _ _ _ us hl => match us, hl with | [_, _, _], _ => rfl, ?_⟩
  refine U.ok scI2 (fun vs H Q E h => ?_) (fun cdv A outer s H vs Q E hr h => ?_)
  · obtain ⟨a, ys, rfl, ly, _⟩ := h
    show ys.length + 1 = 3
    rw [ly]
    all_goals rfl
  · obtain ⟨a, ys, rfl, ly, he, k⟩ := h
    obtain ⟨y1, y2, rfl⟩ : ∃ y1 y2, ys = [y1, y2] := by
      match ys, ly with
      | [y1, y2], _ => exact ⟨_, _, rfl⟩
    refine ⟨_, pss_cons (ps_ost (pv 0) (pv 1)) (pss_one (ps_ost (pv 0) (pv 2))), ?_⟩
    refine ⟨_, rfl, _, rfl, a, C, rfl, F.t.ox, F.na _ List.mem_cons_self, .inl ⟨he, fun dx hdx ne => ?_⟩⟩
    have hd1 : ∀ o1 o2, (upd (upd H dx o1) a o2) dx = some o1 := fun o1 o2 => by rw [upd_ne ne, upd_same]
    have kp : Keep a H (upd (upd H dx (exd dx [("what", y1)])) a (exo a C (some dx))) := (Keep.refl.new hdx).upd
    have ad : a ≠ dx := ne.symm
    refine ⟨_, rfl, _, rfl, a, C, rfl, F.t.ox, F.na _ (List.mem_cons_of_mem _ List.mem_cons_self), .inr ⟨dx, [("what", y1)], upd_same, hd1 _ _, (by show 1 ≤ 900; decide), ?_⟩⟩
    refine k _ (.inr ⟨dx, by rw [upd_ne ad, upd_same], upd_same⟩) (fun b o nb e => ?_)
    rw [upd_ne (ne_of_none e hdx)]
    exact kp b o nb e
abbrev sI3 : Stmt := inClass (topS 5) 0
theorem scI3 : FnScope ["self", "row"] ["self", "row"] (defScope sI3) := ⟨rfl, rfl, rfl, by decide +kernel, rfl, by decide +kernel, by decide +kernel⟩
theorem cv3 {C : Addr} (F : ClsF K mg "BadRow" "BadRow.__init__" C ["row"] sI3) : ClsV P w K mg base "BadRow" C ["self", "row"] ["row"] := by
  obtain ⟨fI, fd, i, t, U⟩ := F.ini
  refine ⟨F.m, F.t, F.na, fI, fd, i, t, U.binds fun _ _ _ _ _ _ us hl => match us, hl with | [_, _], _ => rfl, ?_⟩
  refine U.ok scI3 (fun vs H Q E h => ?_) (fun cdv A outer s H vs Q E hr h => ?_)
  · obtain ⟨a, ys, rfl, ly, _⟩ := h
    show ys.length + 1 = 2
    rw [ly]
    all_goals rfl
  · obtain ⟨a, ys, rfl, ly, he, k⟩ := h
    obtain ⟨y1, rfl⟩ : ∃ y1, ys = [y1] := by
      match ys, ly with
      | [y1], _ => exact ⟨_, rfl⟩
    refine ⟨_, pss_one (ps_ost (pv 0) (pv 1)), ?_⟩
    refine ⟨_, rfl, _, rfl, a, C, rfl, F.t.ox, F.na _ List.mem_cons_self, .inl ⟨he, fun dx hdx ne => ?_⟩⟩
    have hd1 : ∀ o1 o2, (upd (upd H dx o1) a o2) dx = some o1 := fun o1 o2 => by rw [upd_ne ne, upd_same]
    refine k _ (.inr ⟨dx, upd_same, hd1 _ _⟩) ((Keep.refl.new hdx).upd)
abbrev sI4 : Stmt := inClass (topS 6) 0
theorem scI4 : FnScope ["self", "name"] ["self", "name"] (defScope sI4) := ⟨rfl, rfl, rfl, by decide +kernel, rfl, by decide +kernel, by decide +kernel⟩
theorem cv4 {C : Addr} (F : ClsF K mg "BadName" "BadName.__init__" C ["name"] sI4) : ClsV P w K mg base "BadName" C ["self", "name"] ["name"] := by
  obtain ⟨fI, fd, i, t, U⟩ := F.ini
  refine ⟨F.m, F.t, F.na, fI, fd, i, t, U.binds fun _ _ _ _ _ _ us hl => match us, hl with | [_, _], _ => rfl, ?_⟩
  refine U.ok scI4 (fun vs H Q E h => ?_) (fun cdv A outer s H vs Q E hr h => ?_)
  · obtain ⟨a, ys, rfl, ly, _⟩ := h
    show ys.length + 1 = 2
    rw [ly]
    all_goals rfl
  · obtain ⟨a, ys, rfl, ly, he, k⟩ := h
    obtain ⟨y1, rfl⟩ : ∃ y1, ys = [y1] := by
      match ys, ly with
      | [y1], _ => exact ⟨_, rfl⟩
    refine ⟨_, pss_one (ps_ost (pv 0) (pv 1)), ?_⟩
    refine ⟨_, rfl, _, rfl, a, C, rfl, F.t.ox, F.na _ List.mem_cons_self, .inl ⟨he, fun dx hdx ne => ?_⟩⟩
    have hd1 : ∀ o1 o2, (upd (upd H dx o1) a o2) dx = some o1 := fun o1 o2 => by rw [upd_ne ne, upd_same]
    refine k _ (.inr ⟨dx, upd_same, hd1 _ _⟩) ((Keep.refl.new hdx).upd)
abbrev sI5 : Stmt := inClass (topS 7) 0
theorem scI5 : FnScope ["self", "what"] ["self", "what"] (defScope sI5) := ⟨rfl, rfl, rfl, by decide +kernel, rfl, by decide +kernel, by decide +kernel⟩
theorem cv5 {C : Addr} (F : ClsF K mg "Unlike" "Unlike.__init__" C ["what"] sI5) : ClsV P w K mg base "Unlike" C ["self", "what"] ["what"] := by
  obtain ⟨fI, fd, i, t, U⟩ := F.ini
  refine ⟨F.m, F.t, F.na, fI, fd, i, t, U.binds fun _ _ _ _ _ _ us hl => match us, hl with | [_, _], _ => rfl, ?_⟩
  refine U.ok scI5 (fun vs H Q E h => ?_) (fun cdv A outer s H vs Q E hr h => ?_)
  · obtain ⟨a, ys, rfl, ly, _⟩ := h
    show ys.length + 1 = 2
    rw [ly]
    all_goals rfl
  · obtain ⟨a, ys, rfl, ly, he, k⟩ := h
    obtain ⟨y1, rfl⟩ : ∃ y1, ys = [y1] := by
      match ys, ly with
      | [y1], _ => exact ⟨_, rfl⟩
    refine ⟨_, pss_one (ps_ost (pv 0) (pv 1)), ?_⟩
    refine ⟨_, rfl, _, rfl, a, C, rfl, F.t.ox, F.na _ List.mem_cons_self, .inl ⟨he, fun dx hdx ne => ?_⟩⟩
    have hd1 : ∀ o1 o2, (upd (upd H dx o1) a o2) dx = some o1 := fun o1 o2 => by rw [upd_ne ne, upd_same]
    refine k _ (.inr ⟨dx, upd_same, hd1 _ _⟩) ((Keep.refl.new hdx).upd)
abbrev sI6 : Stmt := inClass (topS 8) 0
theorem scI6 : FnScope ["self", "what", "limit"] ["self", "what", "limit"] (defScope sI6) := ⟨rfl, rfl, rfl, by decide +kernel, rfl, by decide +kernel, by decide +kernel⟩
theorem cv6 {C : Addr} (F : ClsF K mg "TooMany" "TooMany.__init__" C ["what", "limit"] sI6) : ClsV P w K mg base "TooMany" C ["self", "what", "limit"] ["what", "limit"] := by
  obtain ⟨fI, fd, i, t, U⟩ := F.ini
  refine ⟨F.m, F.t, F.na, fI, fd, i, t, U.binds fun _ _ _ _ _ _ us hl => match us, hl with | [_, _, _], _ => rfl, ?_⟩
  refine U.ok scI6 (fun vs H Q E h => ?_) (fun cdv A outer s H vs Q E hr h => ?_)
  · obtain ⟨a, ys, rfl, ly, _⟩ := h
    show ys.length + 1 = 3
    rw [ly]
    all_goals rfl
  · obtain ⟨a, ys, rfl, ly, he, k⟩ := h
    obtain ⟨y1, y2, rfl⟩ : ∃ y1 y2, ys = [y1, y2] := by
      match ys, ly with
      | [y1, y2], _ => exact ⟨_, _, rfl⟩
    refine ⟨_, pss_cons (ps_ost (pv 0) (pv 1)) (pss_one (ps_ost (pv 0) (pv 2))), ?_⟩
    refine ⟨_, rfl, _, rfl, a, C, rfl, F.t.ox, F.na _ List.mem_cons_self, .inl ⟨he, fun dx hdx ne => ?_⟩⟩
    have hd1 : ∀ o1 o2, (upd (upd H dx o1) a o2) dx = some o1 := fun o1 o2 => by rw [upd_ne ne, upd_same]
    have kp : Keep a H (upd (upd H dx (exd dx [("what", y1)])) a (exo a C (some dx))) := (Keep.refl.new hdx).upd
    have ad : a ≠ dx := ne.symm
    refine ⟨_, rfl, _, rfl, a, C, rfl, F.t.ox, F.na _ (List.mem_cons_of_mem _ List.mem_cons_self), .inr ⟨dx, [("what", y1)], upd_same, hd1 _ _, (by show 1 ≤ 900; decide), ?_⟩⟩
    refine k _ (.inr ⟨dx, by rw [upd_ne ad, upd_same], upd_same⟩) (fun b o nb e => ?_)
    rw [upd_ne (ne_of_none e hdx)]
    exact kp b o nb e
abbrev sI7 : Stmt := inClass (topS 9) 0
theorem scI7 : FnScope ["self", "what", "number", "limit"] ["self", "what", "number", "limit"] (defScope sI7) := ⟨rfl, rfl, rfl, by decide +kernel, rfl, by decide +kernel, by decide +kernel⟩
theorem cv7 {C : Addr} (F : ClsF K mg "TooLarge" "TooLarge.__init__" C ["what", "number", "limit"] sI7) : ClsV P w K mg base "TooLarge" C ["self", "what", "number", "limit"] ["what", "number", "limit"] := by
  obtain ⟨fI, fd, i, t, U⟩ := F.ini
  refine ⟨F.m, F.t, F.na, fI, fd, i, t, U.binds fun _ _ _ _ _ _ us hl => match us, hl with | [_, _, _, _], _ => rfl, ?_⟩
  refine U.ok scI7 (fun vs H Q E h => ?_) (fun cdv A outer s H vs Q E hr h => ?_)
  · obtain ⟨a, ys, rfl, ly, _⟩ := h
    show ys.length + 1 = 4
    rw [ly]
    all_goals rfl
  · obtain ⟨a, ys, rfl, ly, he, k⟩ := h
    obtain ⟨y1, y2, y3, rfl⟩ : ∃ y1 y2 y3, ys = [y1, y2, y3] := by
      match ys, ly with
      | [y1, y2, y3], _ => exact ⟨_, _, _, rfl⟩
    refine ⟨_, pss_cons (ps_ost (pv 0) (pv 1)) (pss_cons (ps_ost (pv 0) (pv 2)) (pss_one (ps_ost (pv 0) (pv 3)))), ?_⟩
    refine ⟨_, rfl, _, rfl, a, C, rfl, F.t.ox, F.na _ List.mem_cons_self, .inl ⟨he, fun dx hdx ne => ?_⟩⟩
    have hd1 : ∀ o1 o2, (upd (upd H dx o1) a o2) dx = some o1 := fun o1 o2 => by rw [upd_ne ne, upd_same]
    have kp : Keep a H (upd (upd H dx (exd dx [("what", y1)])) a (exo a C (some dx))) := (Keep.refl.new hdx).upd
    have ad : a ≠ dx := ne.symm
    refine ⟨_, rfl, _, rfl, a, C, rfl, F.t.ox, F.na _ (List.mem_cons_of_mem _ List.mem_cons_self), .inr ⟨dx, [("what", y1)], upd_same, hd1 _ _, (by show 1 ≤ 900; decide), ?_⟩⟩
    refine ⟨_, rfl, _, rfl, a, C, rfl, F.t.ox, F.na _ (List.mem_cons_of_mem _ (List.mem_cons_of_mem _ List.mem_cons_self)), .inr ⟨dx, [("number", y2), ("what", y1)], by rw [upd_ne ad, upd_same], upd_same, (by show 2 ≤ 900; decide), ?_⟩⟩
    refine k _ (.inr ⟨dx, by rw [upd_ne ad, upd_ne ad, upd_same], upd_same⟩) (fun b o nb e => ?_)
    rw [upd_ne (ne_of_none e hdx)]
    rw [upd_ne (ne_of_none e hdx)]
    exact kp b o nb e
abbrev sI9 : Stmt := inClass (topS 11) 0
theorem scI9 : FnScope ["self", "name"] ["self", "name"] (defScope sI9) := ⟨rfl, rfl, rfl, by decide +kernel, rfl, by decide +kernel, by decide +kernel⟩
theorem cv9 {C : Addr} (F : ClsF K mg "NoName" "NoName.__init__" C ["name"] sI9) : ClsV P w K mg base "NoName" C ["self", "name"] ["name"] := by
  obtain ⟨fI, fd, i, t, U⟩ := F.ini
  refine ⟨F.m, F.t, F.na, fI, fd, i, t, U.binds fun _ _ _ _ _ _ us hl => match us, hl with | [_, _], _ => rfl, ?_⟩
  refine U.ok scI9 (fun vs H Q E h => ?_) (fun cdv A outer s H vs Q E hr h => ?_)
  · obtain ⟨a, ys, rfl, ly, _⟩ := h
    show ys.length + 1 = 2
    rw [ly]
    all_goals rfl
  · obtain ⟨a, ys, rfl, ly, he, k⟩ := h
    obtain ⟨y1, rfl⟩ : ∃ y1, ys = [y1] := by
      match ys, ly with
      | [y1], _ => exact ⟨_, rfl⟩
    refine ⟨_, pss_one (ps_ost (pv 0) (pv 1)), ?_⟩
    refine ⟨_, rfl, _, rfl, a, C, rfl, F.t.ox, F.na _ List.mem_cons_self, .inl ⟨he, fun dx hdx ne => ?_⟩⟩
    have hd1 : ∀ o1 o2, (upd (upd H dx o1) a o2) dx = some o1 := fun o1 o2 => by rw [upd_ne ne, upd_same]
    refine k _ (.inr ⟨dx, upd_same, hd1 _ _⟩) ((Keep.refl.new hdx).upd)
abbrev sI10 : Stmt := inClass (topS 12) 0
theorem scI10 : FnScope ["self", "name"] ["self", "name"] (defScope sI10) := ⟨rfl, rfl, rfl, by decide +kernel, rfl, by decide +kernel, by decide +kernel⟩
theorem cv10 {C : Addr} (F : ClsF K mg "TakenName" "TakenName.__init__" C ["name"] sI10) : ClsV P w K mg base "TakenName" C ["self", "name"] ["name"] := by
  obtain ⟨fI, fd, i, t, U⟩ := F.ini
  refine ⟨F.m, F.t, F.na, fI, fd, i, t, U.binds fun _ _ _ _ _ _ us hl => match us, hl with | [_, _], _ => rfl, ?_⟩
  refine U.ok scI10 (fun vs H Q E h => ?_) (fun cdv A outer s H vs Q E hr h => ?_)
  · obtain ⟨a, ys, rfl, ly, _⟩ := h
    show ys.length + 1 = 2
    rw [ly]
    all_goals rfl
  · obtain ⟨a, ys, rfl, ly, he, k⟩ := h
    obtain ⟨y1, rfl⟩ : ∃ y1, ys = [y1] := by
      match ys, ly with
      | [y1], _ => exact ⟨_, rfl⟩
    refine ⟨_, pss_one (ps_ost (pv 0) (pv 1)), ?_⟩
    refine ⟨_, rfl, _, rfl, a, C, rfl, F.t.ox, F.na _ List.mem_cons_self, .inl ⟨he, fun dx hdx ne => ?_⟩⟩
    have hd1 : ∀ o1 o2, (upd (upd H dx o1) a o2) dx = some o1 := fun o1 o2 => by rw [upd_ne ne, upd_same]
    refine k _ (.inr ⟨dx, upd_same, hd1 _ _⟩) ((Keep.refl.new hdx).upd)
abbrev sI11 : Stmt := inClass (topS 13) 0
theorem scI11 : FnScope ["self", "promise", "witness"] ["self", "promise", "witness"] (defScope sI11) := ⟨rfl, rfl, rfl, by decide +kernel, rfl, by decide +kernel, by decide +kernel⟩
theorem cv11 {C : Addr} (F : ClsF K mg "NotKept" "NotKept.__init__" C ["promise", "witness"] sI11) : ClsV P w K mg base "NotKept" C ["self", "promise", "witness"] ["promise", "witness"] := by
  obtain ⟨fI, fd, i, t, U⟩ := F.ini
  refine ⟨F.m, F.t, F.na, fI, fd, i, t, U.binds fun _ _ _ _ _ _ us hl => match us, hl with | [_, _, _], _ => rfl, ?_⟩
  refine U.ok scI11 (fun vs H Q E h => ?_) (fun cdv A outer s H vs Q E hr h => ?_)
  · obtain ⟨a, ys, rfl, ly, _⟩ := h
    show ys.length + 1 = 3
    rw [ly]
    all_goals rfl
  · obtain ⟨a, ys, rfl, ly, he, k⟩ := h
    obtain ⟨y1, y2, rfl⟩ : ∃ y1 y2, ys = [y1, y2] := by
      match ys, ly with
      | [y1, y2], _ => exact ⟨_, _, rfl⟩
    refine ⟨_, pss_cons (ps_ost (pv 0) (pv 1)) (pss_one (ps_ost (pv 0) (pv 2))), ?_⟩
    refine ⟨_, rfl, _, rfl, a, C, rfl, F.t.ox, F.na _ List.mem_cons_self, .inl ⟨he, fun dx hdx ne => ?_⟩⟩
    have hd1 : ∀ o1 o2, (upd (upd H dx o1) a o2) dx = some o1 := fun o1 o2 => by rw [upd_ne ne, upd_same]
    have kp : Keep a H (upd (upd H dx (exd dx [("promise", y1)])) a (exo a C (some dx))) := (Keep.refl.new hdx).upd
    have ad : a ≠ dx := ne.symm
    refine ⟨_, rfl, _, rfl, a, C, rfl, F.t.ox, F.na _ (List.mem_cons_of_mem _ List.mem_cons_self), .inr ⟨dx, [("promise", y1)], upd_same, hd1 _ _, (by show 1 ≤ 900; decide), ?_⟩⟩
    refine k _ (.inr ⟨dx, by rw [upd_ne ad, upd_same], upd_same⟩) (fun b o nb e => ?_)
    rw [upd_ne (ne_of_none e hdx)]
    exact kp b o nb e
end
end GG

namespace GG
open PySem PySem.Spec PyProof.Rows L2
abbrev sKinds : Stmt := topS 21
abbrev sObjs : Stmt := topS 22
abbrev sFields : Stmt := topS 23
theorem bIsi : bootBuiltins "isinstance" = some (.builtin "isinstance") := by decide +kernel
theorem bVE : bootBuiltins "ValueError" = some (.type "ValueError") := by decide +kernel
/-- all fourteen -/
structure All14 (P : Program) (w : World) (K : PySem.W.Frag) (mg : Str → Option Value) (base : Heap) (C : Nat → Addr) : Prop where
  isi : mg "isinstance" = none
  kit : ∀ k, k < 14 → ∀ j, j < 14 → PySem.W.kitOne K (.ref (C k)) (.ref (C j)) = some (decide (j = k))
  c0 : ClsV P w K mg base "BadText" (C 0) ["self", "column"] ["column"]
  c1 : ClsV P w K mg base "BadLine" (C 1) ["self", "line", "column"] ["line", "column"]
  c2 : ClsV P w K mg base "BadNumber" (C 2) ["self", "what", "number"] ["what", "number"]
  c3 : ClsV P w K mg base "BadRow" (C 3) ["self", "row"] ["row"]
  c4 : ClsV P w K mg base "BadName" (C 4) ["self", "name"] ["name"]
  c5 : ClsV P w K mg base "Unlike" (C 5) ["self", "what"] ["what"]
  c6 : ClsV P w K mg base "TooMany" (C 6) ["self", "what", "limit"] ["what", "limit"]
  c7 : ClsV P w K mg base "TooLarge" (C 7) ["self", "what", "number", "limit"] ["what", "number", "limit"]
  c8 : ClsE K mg "NoBuyer" (C 8)
  c9 : ClsV P w K mg base "NoName" (C 9) ["self", "name"] ["name"]
  c10 : ClsV P w K mg base "TakenName" (C 10) ["self", "name"] ["name"]
  c11 : ClsV P w K mg base "NotKept" (C 11) ["self", "promise", "witness"] ["promise", "witness"]
  c12 : ClsE K mg "NothingToUndo" (C 12)
  c13 : ClsE K mg "NothingToRedo" (C 13)
def specs (C : Nat → Addr) (a b c : V) : List (Addr × List (Str × V)) := [(C 0, [("column", a)]), (C 1, [("column", b), ("line", a)]), (C 2, [("number", b), ("what", a)]), (C 3, [("row", a)]), (C 4, [("name", a)]), (C 5, [("what", a)]), (C 6, [("limit", b), ("what", a)]), (C 7, [("limit", c), ("number", b), ("what", a)]), (C 8, []), (C 9, [("name", a)]), (C 10, [("name", a)]), (C 11, [("witness", b), ("promise", a)]), (C 12, []), (C 13, [])]
/-- these errors stand there, in this order -/
def Objs (H : Hp) (es : List Addr) (sp : List (Addr × List (Str × V))) : Prop := Paired (fun e q => ExAt H e q.1 q.2) es sp
theorem Objs.same {H H' : Hp} (k : Same H H') : ∀ {es : List Addr} {sp : List (Addr × List (Str × V))}, Objs H es sp → Objs H' es sp
  | _, _, .nil => .nil
  | _, _, .cons h t => .cons (h.same k) (Objs.same k t)
theorem Objs.snoc {H : Hp} {e C : Addr} {fs : List (Str × V)} (x : ExAt H e C fs) : ∀ {es : List Addr} {sp : List (Addr × List (Str × V))}, Objs H es sp → Objs H (es ++ [e]) (sp ++ [(C, fs)])
  | _, _, .nil => .cons x .nil
  | _, _, .cons h t => .cons h (Objs.snoc x t)
def spObjs (C : Nat → Addr) : Sp := fun vs H Q _ => ∃ a b c, vs = [a, b, c] ∧ ∀ (l : Addr) (es : List Addr) (H' : Hp), H' l = some (.lst (es.map V.ref)) → Objs H' es (specs C a b c) → Same H H' → Q (.ref l) H'
section
variable {P : Program} {w : World} {K : PySem.W.Frag} {mg : Str → Option Value} {base : Heap} {C : Nat → Addr}
theorem scObjs : FnScope ["_law_a", "_law_b", "_law_c", "_law_first"] ["_law_a", "_law_b", "_law_c"] (defScope sObjs) := ⟨rfl, rfl, rfl, by decide +kernel, rfl, by decide +kernel, by decide +kernel⟩
theorem kn_objs (D : DefIs K mg "_law_objects" sObjs) (T : All14 P w K mg base C) : Kn P w K mg base "_law_objects" 3 ["_law_a", "_law_b", "_law_c"] (spObjs C) := by
  refine .of D (fun _ _ _ _ _ _ us hl => match us, hl with | [_, _, _], _ => rfl) fun _ _ F => ?_
  refine F.ok scObjs (fun vs H Q E h => ?_) (fun cdv A outer s H vs Q E hr h => ?_)
  · obtain ⟨a, b, c, rfl, _⟩ := h
    rfl
  · obtain ⟨a, b, c, rfl, k⟩ := h
    refine ⟨_, pss_cons (ps_set (i := 3) scObjs.nd rfl (.inl rfl) (pe_lst (pa_cons (pe_clsV T.c0 hr (pa_cons (pv 0) pa_nil)) (pa_cons (pe_clsV T.c1 hr (pa_cons (pv 0) (pa_cons (pv 1) pa_nil))) (pa_cons (pe_clsV T.c2 hr (pa_cons (pv 0) (pa_cons (pv 1) pa_nil))) (pa_cons (pe_clsV T.c3 hr (pa_cons (pv 0) pa_nil)) (pa_cons (pe_clsV T.c4 hr (pa_cons (pv 0) pa_nil)) (pa_cons (pe_clsV T.c5 hr (pa_cons (pv 0) pa_nil)) (pa_cons (pe_clsV T.c6 hr (pa_cons (pv 0) (pa_cons (pv 1) pa_nil))) pa_nil)))))))))
      (pss_cons (ps_set (i := 3) scObjs.nd rfl (.inl rfl) (pe_op op_cat (pv 3) (pe_lst (pa_cons (pe_clsV T.c7 hr (pa_cons (pv 0) (pa_cons (pv 1) (pa_cons (pv 2) pa_nil)))) (pa_cons (pe_val0 T.c8.e T.c8.m T.c8.t.ox.kC) (pa_cons (pe_clsV T.c9 hr (pa_cons (pv 0) pa_nil)) (pa_cons (pe_clsV T.c10 hr (pa_cons (pv 0) pa_nil)) (pa_cons (pe_clsV T.c11 hr (pa_cons (pv 0) (pa_cons (pv 1) pa_nil))) pa_nil))))))))
      (pss_one (ps_ret (pe_op op_cat (pv 3) (pe_lst (pa_cons (pe_val0 T.c12.e T.c12.m T.c12.t.ox.kC) (pa_cons (pe_val0 T.c13.e T.c13.m T.c13.t.ox.kC) pa_nil))))))), ?_⟩
    have S0 : Same H H := Same.refl H
    have O0 : Objs H [] [] := .nil
    refine ⟨_, rfl, (by show 1 ≤ 1000; decide), fun e0 n0 => ⟨e0, _, rfl, rfl, upd_same, fun H0 x0 k0 => ⟨rfl, ?_⟩⟩⟩
    have s0 := Keep.same n0 k0
    have S1 := Same.trans S0 s0
    have O1 := (O0.same s0).snoc x0
    refine ⟨_, rfl, _, rfl, (by show 2 ≤ 1000; decide), fun e1 n1 => ⟨e1, _, rfl, rfl, upd_same, fun H1 x1 k1 => ⟨rfl, ?_⟩⟩⟩
    have s1 := Keep.same n1 k1
    have S2 := Same.trans S1 s1
    have O2 := (O1.same s1).snoc x1
    refine ⟨_, rfl, _, rfl, (by show 2 ≤ 1000; decide), fun e2 n2 => ⟨e2, _, rfl, rfl, upd_same, fun H2 x2 k2 => ⟨rfl, ?_⟩⟩⟩
    have s2 := Keep.same n2 k2
    have S3 := Same.trans S2 s2
    have O3 := (O2.same s2).snoc x2
    refine ⟨_, rfl, (by show 1 ≤ 1000; decide), fun e3 n3 => ⟨e3, _, rfl, rfl, upd_same, fun H3 x3 k3 => ⟨rfl, ?_⟩⟩⟩
    have s3 := Keep.same n3 k3
    have S4 := Same.trans S3 s3
    have O4 := (O3.same s3).snoc x3
    refine ⟨_, rfl, (by show 1 ≤ 1000; decide), fun e4 n4 => ⟨e4, _, rfl, rfl, upd_same, fun H4 x4 k4 => ⟨rfl, ?_⟩⟩⟩
    have s4 := Keep.same n4 k4
    have S5 := Same.trans S4 s4
    have O5 := (O4.same s4).snoc x4
    refine ⟨_, rfl, (by show 1 ≤ 1000; decide), fun e5 n5 => ⟨e5, _, rfl, rfl, upd_same, fun H5 x5 k5 => ⟨rfl, ?_⟩⟩⟩
    have s5 := Keep.same n5 k5
    have S6 := Same.trans S5 s5
    have O6 := (O5.same s5).snoc x5
    refine ⟨_, rfl, _, rfl, (by show 2 ≤ 1000; decide), fun e6 n6 => ⟨e6, _, rfl, rfl, upd_same, fun H6 x6 k6 => ⟨rfl, ?_⟩⟩⟩
    have s6 := Keep.same n6 k6
    have S7 := Same.trans S6 s6
    have O7 := (O6.same s6).snoc x6
    refine ⟨(by show 7 ≤ sizeLine; rw [sizeLine_eq]; decide), fun l1 nl1 => ?_⟩
    have S7' := GG.Same.new S7 nl1 (o := .lst [.ref e0, .ref e1, .ref e2, .ref e3, .ref e4, .ref e5, .ref e6])
    have O7' := O7.same (GG.Same.new (L2.Same.refl _) nl1 (o := .lst [.ref e0, .ref e1, .ref e2, .ref e3, .ref e4, .ref e5, .ref e6]))
    have L6 : (upd H6 l1 (.lst [.ref e0, .ref e1, .ref e2, .ref e3, .ref e4, .ref e5, .ref e6])) l1 = some (.lst [.ref e0, .ref e1, .ref e2, .ref e3, .ref e4, .ref e5, .ref e6]) := upd_same
    generalize (upd H6 l1 (.lst [.ref e0, .ref e1, .ref e2, .ref e3, .ref e4, .ref e5, .ref e6])) = G6 at S7' O7' L6 ⊢
    replace S7 := S7'
    replace O7 := O7'
    refine ⟨_, rfl, _, rfl, _, rfl, _, rfl, (by show 3 ≤ 1000; decide), fun e7 n7 => ⟨e7, _, rfl, rfl, upd_same, fun H7 x7 k7 => ⟨rfl, ?_⟩⟩⟩
    have s7 := Keep.same n7 k7
    have S8 := Same.trans S7 s7
    have O8 := (O7.same s7).snoc x7
    have L7 := s7 _ _ L6
    intro e8 n8
    have x8 : ExAt (upd H7 e8 (exo e8 (C 8) none)) e8 (C 8) [] := .inl ⟨rfl, upd_same⟩
    have s8 : Same H7 (upd H7 e8 (exo e8 (C 8) none)) := GG.Same.new (L2.Same.refl _) n8
    generalize (upd H7 e8 (exo e8 (C 8) none)) = H8 at x8 s8 ⊢
    have S9 := Same.trans S8 s8
    have O9 := (O8.same s8).snoc x8
    have L8 := s8 _ _ L7
    refine ⟨_, rfl, (by show 1 ≤ 1000; decide), fun e9 n9 => ⟨e9, _, rfl, rfl, upd_same, fun H9 x9 k9 => ⟨rfl, ?_⟩⟩⟩
    have s9 := Keep.same n9 k9
    have S10 := Same.trans S9 s9
    have O10 := (O9.same s9).snoc x9
    have L9 := s9 _ _ L8
    refine ⟨_, rfl, (by show 1 ≤ 1000; decide), fun e10 n10 => ⟨e10, _, rfl, rfl, upd_same, fun H10 x10 k10 => ⟨rfl, ?_⟩⟩⟩
    have s10 := Keep.same n10 k10
    have S11 := Same.trans S10 s10
    have O11 := (O10.same s10).snoc x10
    have L10 := s10 _ _ L9
    refine ⟨_, rfl, _, rfl, (by show 2 ≤ 1000; decide), fun e11 n11 => ⟨e11, _, rfl, rfl, upd_same, fun H11 x11 k11 => ⟨rfl, ?_⟩⟩⟩
    have s11 := Keep.same n11 k11
    have S12 := Same.trans S11 s11
    have O12 := (O11.same s11).snoc x11
    have L11 := s11 _ _ L10
    refine ⟨(by show 5 ≤ sizeLine; rw [sizeLine_eq]; decide), fun l2 nl2 => ?_⟩
    have S12' := GG.Same.new S12 nl2 (o := .lst [.ref e7, .ref e8, .ref e9, .ref e10, .ref e11])
    have O12' := O12.same (GG.Same.new (L2.Same.refl _) nl2 (o := .lst [.ref e7, .ref e8, .ref e9, .ref e10, .ref e11]))
    have L11' : (upd H11 l2 (.lst [.ref e7, .ref e8, .ref e9, .ref e10, .ref e11])) l1 = _ := GG.Same.new (L2.Same.refl _) nl2 _ _ L11
    refine ⟨l1, l2, _, _, rfl, rfl, L11', upd_same, (by show 12 ≤ sizeLine; rw [sizeLine_eq]; decide), fun l3 nl3 => ?_⟩
    have S12'' := GG.Same.new S12' nl3 (o := .lst [.ref e0, .ref e1, .ref e2, .ref e3, .ref e4, .ref e5, .ref e6, .ref e7, .ref e8, .ref e9, .ref e10, .ref e11])
    have O12'' := O12'.same (GG.Same.new (L2.Same.refl _) nl3 (o := .lst [.ref e0, .ref e1, .ref e2, .ref e3, .ref e4, .ref e5, .ref e6, .ref e7, .ref e8, .ref e9, .ref e10, .ref e11]))
    have L11'' : (upd (upd H11 l2 (.lst [.ref e7, .ref e8, .ref e9, .ref e10, .ref e11])) l3 (.lst [.ref e0, .ref e1, .ref e2, .ref e3, .ref e4, .ref e5, .ref e6, .ref e7, .ref e8, .ref e9, .ref e10, .ref e11])) l3 = some (.lst [.ref e0, .ref e1, .ref e2, .ref e3, .ref e4, .ref e5, .ref e6, .ref e7, .ref e8, .ref e9, .ref e10, .ref e11]) := upd_same
    change _
    generalize hG : (upd (upd H11 l2 (.lst [.ref e7, .ref e8, .ref e9, .ref e10, .ref e11])) l3 (.lst [.ref e0, .ref e1, .ref e2, .ref e3, .ref e4, .ref e5, .ref e6, .ref e7, .ref e8, .ref e9, .ref e10, .ref e11])) = G11 at S12'' O12'' L11''
    replace S12 := S12''
    replace O12 := O12''
    replace L11 := L11''
    rw [show (upd (upd H11 l2 (.lst [.ref e7, .ref e8, .ref e9, .ref e10, .ref e11])) l3 (.lst ([.ref e0, .ref e1, .ref e2, .ref e3, .ref e4, .ref e5, .ref e6] ++ [.ref e7, .ref e8, .ref e9, .ref e10, .ref e11]))) = G11 from hG]
    refine ⟨_, rfl, fun e12 n12 => ?_⟩
    have x12 : ExAt (upd G11 e12 (exo e12 (C 12) none)) e12 (C 12) [] := .inl ⟨rfl, upd_same⟩
    have s12 : Same G11 (upd G11 e12 (exo e12 (C 12) none)) := GG.Same.new (L2.Same.refl _) n12
    generalize (upd G11 e12 (exo e12 (C 12) none)) = H12 at x12 s12 ⊢
    have S13 := Same.trans S12 s12
    have O13 := (O12.same s12).snoc x12
    have L12 := s12 _ _ L11
    intro e13 n13
    have x13 : ExAt (upd H12 e13 (exo e13 (C 13) none)) e13 (C 13) [] := .inl ⟨rfl, upd_same⟩
    have s13 : Same H12 (upd H12 e13 (exo e13 (C 13) none)) := GG.Same.new (L2.Same.refl _) n13
    generalize (upd H12 e13 (exo e13 (C 13) none)) = H13 at x13 s13 ⊢
    have S14 := Same.trans S13 s13
    have O14 := (O13.same s13).snoc x13
    have L13 := s13 _ _ L12
    refine ⟨(by show 2 ≤ sizeLine; rw [sizeLine_eq]; decide), fun l4 nl4 => ?_⟩
    have S14' := GG.Same.new S14 nl4 (o := .lst [.ref e12, .ref e13])
    have O14' := O14.same (GG.Same.new (L2.Same.refl _) nl4 (o := .lst [.ref e12, .ref e13]))
    have L13' : (upd H13 l4 (.lst [.ref e12, .ref e13])) l3 = _ := GG.Same.new (L2.Same.refl _) nl4 _ _ L13
    refine ⟨l3, l4, _, _, rfl, rfl, L13', upd_same, (by show 14 ≤ sizeLine; rw [sizeLine_eq]; decide), fun l5 nl5 => ?_⟩
    exact k l5 [e0, e1, e2, e3, e4, e5, e6, e7, e8, e9, e10, e11, e12, e13] _ upd_same (O14'.same (GG.Same.new (L2.Same.refl _) nl5)) (GG.Same.new S14' nl5)
end
end GG

namespace GG
open PySem PySem.Spec PyProof.Rows L2
theorem Objs.get {H : Hp} {e c : Addr} {fs : List (Str × V)} : ∀ {k : Nat} {es : List Addr} {sp : List (Addr × List (Str × V))}, Objs H es sp → es[k]? = some e → sp[k]? = some (c, fs) → ExAt H e c fs
  | _, _, _, .nil, h, _ => by cases h
  | 0, _, _, .cons x _, h1, h2 => by
    cases h1
    cases h2
    exact x
  | k + 1, _, _, .cons _ t, h1, h2 => Objs.get (k := k) t (by simpa using h1) (by simpa using h2)
/-- lists of these values, none of them at the address of sys.modules -/
def Rws (H : Hp) (rs : List Addr) (vs : List (List V)) : Prop := Paired (fun r q => H r = some (.lst q) ∧ r ≠ sysModules) rs vs
theorem Rws.same {H H' : Hp} (k : Same H H') : ∀ {es : List Addr} {sp : List (List V)}, Rws H es sp → Rws H' es sp
  | _, _, .nil => .nil
  | _, _, .cons h t => .cons ⟨k _ _ h.1, h.2⟩ (Rws.same k t)
theorem Rws.snoc {H : Hp} {e : Addr} {q : List V} (x : H e = some (.lst q) ∧ e ≠ sysModules) : ∀ {es : List Addr} {sp : List (List V)}, Rws H es sp → Rws H (es ++ [e]) (sp ++ [q])
  | _, _, .nil => .cons x .nil
  | _, _, .cons h t => .cons h (Rws.snoc x t)
section
variable {P : Program} {w : World} {K : PySem.W.Frag} {mg : Str → Option Value} {base : Heap} {C : Nat → Addr}
theorem All14.tt (T : All14 P w K mg base C) : ∀ k, k < 14 → ExT K (C k)
  | 0, _ => T.c0.t
  | 1, _ => T.c1.t
  | 2, _ => T.c2.t
  | 3, _ => T.c3.t
  | 4, _ => T.c4.t
  | 5, _ => T.c5.t
  | 6, _ => T.c6.t
  | 7, _ => T.c7.t
  | 8, _ => T.c8.t
  | 9, _ => T.c9.t
  | 10, _ => T.c10.t
  | 11, _ => T.c11.t
  | 12, _ => T.c12.t
  | 13, _ => T.c13.t
  | k + 14, h => absurd h (by omega)
def kindsL (k : Nat) : List V := [.bl (decide (0 = k)), .bl (decide (1 = k)), .bl (decide (2 = k)), .bl (decide (3 = k)), .bl (decide (4 = k)), .bl (decide (5 = k)), .bl (decide (6 = k)), .bl (decide (7 = k)), .bl (decide (8 = k)), .bl (decide (9 = k)), .bl (decide (10 = k)), .bl (decide (11 = k)), .bl (decide (12 = k)), .bl (decide (13 = k))]
def spKinds (C : Nat → Addr) : Sp := fun vs H Q _ => ∃ (e k : Nat) (fs : List (Str × V)), vs = [.ref e] ∧ k < 14 ∧ ExAt H e (C k) fs ∧ ∀ (l : Addr) (H' : Hp), H' l = some (.lst (kindsL k)) → Same H H' → Q (.ref l) H'
theorem scKinds : FnScope ["_law_e", "_law_first"] ["_law_e"] (defScope sKinds) := ⟨rfl, rfl, rfl, by decide +kernel, rfl, by decide +kernel, by decide +kernel⟩
theorem kn_kinds (D : DefIs K mg "_law_kinds" sKinds) (T : All14 P w K mg base C) : Kn P w K mg base "_law_kinds" 1 ["_law_e"] (spKinds C) := by
  refine .of D (fun _ _ _ _ _ _ us hl => match us, hl with | [_], _ => rfl) fun _ _ F => ?_
  refine F.ok scKinds (fun vs H Q E h => ?_) (fun cdv A outer s H vs Q E hr h => ?_)
  · obtain ⟨e, k, fs, rfl, _⟩ := h
    rfl
  · obtain ⟨e, k, fs, rfl, hk, X, want⟩ := h
    have tk := T.tt k hk
    refine ⟨_, pss_cons (ps_set (i := 1) scKinds.nd rfl (.inl rfl) (pe_lst (pa_cons (pe_callB call_isx (by rfl) T.isi bIsi (pa_cons (pv 0) (pa_cons (pe_glob (v := .ref (C 0)) rfl T.c0.m rfl) pa_nil))) (pa_cons (pe_callB call_isx (by rfl) T.isi bIsi (pa_cons (pv 0) (pa_cons (pe_glob (v := .ref (C 1)) rfl T.c1.m rfl) pa_nil))) (pa_cons (pe_callB call_isx (by rfl) T.isi bIsi (pa_cons (pv 0) (pa_cons (pe_glob (v := .ref (C 2)) rfl T.c2.m rfl) pa_nil))) (pa_cons (pe_callB call_isx (by rfl) T.isi bIsi (pa_cons (pv 0) (pa_cons (pe_glob (v := .ref (C 3)) rfl T.c3.m rfl) pa_nil))) pa_nil))))))
      (pss_cons (ps_set (i := 1) scKinds.nd rfl (.inl rfl) (pe_op op_cat (pv 1) (pe_lst (pa_cons (pe_callB call_isx (by rfl) T.isi bIsi (pa_cons (pv 0) (pa_cons (pe_glob (v := .ref (C 4)) rfl T.c4.m rfl) pa_nil))) (pa_cons (pe_callB call_isx (by rfl) T.isi bIsi (pa_cons (pv 0) (pa_cons (pe_glob (v := .ref (C 5)) rfl T.c5.m rfl) pa_nil))) (pa_cons (pe_callB call_isx (by rfl) T.isi bIsi (pa_cons (pv 0) (pa_cons (pe_glob (v := .ref (C 6)) rfl T.c6.m rfl) pa_nil))) (pa_cons (pe_callB call_isx (by rfl) T.isi bIsi (pa_cons (pv 0) (pa_cons (pe_glob (v := .ref (C 7)) rfl T.c7.m rfl) pa_nil))) pa_nil)))))))
      (pss_cons (ps_set (i := 1) scKinds.nd rfl (.inl rfl) (pe_op op_cat (pv 1) (pe_lst (pa_cons (pe_callB call_isx (by rfl) T.isi bIsi (pa_cons (pv 0) (pa_cons (pe_glob (v := .ref (C 8)) rfl T.c8.m rfl) pa_nil))) (pa_cons (pe_callB call_isx (by rfl) T.isi bIsi (pa_cons (pv 0) (pa_cons (pe_glob (v := .ref (C 9)) rfl T.c9.m rfl) pa_nil))) (pa_cons (pe_callB call_isx (by rfl) T.isi bIsi (pa_cons (pv 0) (pa_cons (pe_glob (v := .ref (C 10)) rfl T.c10.m rfl) pa_nil))) (pa_cons (pe_callB call_isx (by rfl) T.isi bIsi (pa_cons (pv 0) (pa_cons (pe_glob (v := .ref (C 11)) rfl T.c11.m rfl) pa_nil))) pa_nil)))))))
      (pss_one (ps_ret (pe_op op_cat (pv 1) (pe_lst (pa_cons (pe_callB call_isx (by rfl) T.isi bIsi (pa_cons (pv 0) (pa_cons (pe_glob (v := .ref (C 12)) rfl T.c12.m rfl) pa_nil))) (pa_cons (pe_callB call_isx (by rfl) T.isi bIsi (pa_cons (pv 0) (pa_cons (pe_glob (v := .ref (C 13)) rfl T.c13.m rfl) pa_nil))) pa_nil)))))))), ?_⟩
    have S0 : Same H H := L2.Same.refl H
    refine ⟨_, rfl, e, C k, fs, .ref (C 0), .ref (C 0), decide (0 = k), rfl, tk, X, ClsV.own _, T.kit k hk 0 (by decide), _, rfl, e, C k, fs, .ref (C 1), .ref (C 1), decide (1 = k), rfl, tk, X, ClsV.own _, T.kit k hk 1 (by decide), _, rfl, e, C k, fs, .ref (C 2), .ref (C 2), decide (2 = k), rfl, tk, X, ClsV.own _, T.kit k hk 2 (by decide), _, rfl, e, C k, fs, .ref (C 3), .ref (C 3), decide (3 = k), rfl, tk, X, ClsV.own _, T.kit k hk 3 (by decide), (by show 4 ≤ sizeLine; rw [sizeLine_eq]; decide), fun l0 n0 => ?_⟩
    have S1 := GG.Same.new S0 n0 (o := .lst [.bl (decide (0 = k)), .bl (decide (1 = k)), .bl (decide (2 = k)), .bl (decide (3 = k))])
    replace X := X.same (GG.Same.new (L2.Same.refl _) n0 (o := .lst [.bl (decide (0 = k)), .bl (decide (1 = k)), .bl (decide (2 = k)), .bl (decide (3 = k))]))
    have A0 : (upd H l0 (.lst [.bl (decide (0 = k)), .bl (decide (1 = k)), .bl (decide (2 = k)), .bl (decide (3 = k))])) l0 = some (.lst [.bl (decide (0 = k)), .bl (decide (1 = k)), .bl (decide (2 = k)), .bl (decide (3 = k))]) := upd_same
    generalize (upd H l0 (.lst [.bl (decide (0 = k)), .bl (decide (1 = k)), .bl (decide (2 = k)), .bl (decide (3 = k))])) = H0 at S1 X A0 ⊢
    have B0 := A0
    have b0 : Addr := l0
    refine ⟨_, rfl, _, rfl, e, C k, fs, .ref (C 4), .ref (C 4), decide (4 = k), rfl, tk, X, ClsV.own _, T.kit k hk 4 (by decide), _, rfl, e, C k, fs, .ref (C 5), .ref (C 5), decide (5 = k), rfl, tk, X, ClsV.own _, T.kit k hk 5 (by decide), _, rfl, e, C k, fs, .ref (C 6), .ref (C 6), decide (6 = k), rfl, tk, X, ClsV.own _, T.kit k hk 6 (by decide), _, rfl, e, C k, fs, .ref (C 7), .ref (C 7), decide (7 = k), rfl, tk, X, ClsV.own _, T.kit k hk 7 (by decide), (by show 4 ≤ sizeLine; rw [sizeLine_eq]; decide), fun l1 n1 => ?_⟩
    have S2 := GG.Same.new S1 n1 (o := .lst [.bl (decide (4 = k)), .bl (decide (5 = k)), .bl (decide (6 = k)), .bl (decide (7 = k))])
    replace X := X.same (GG.Same.new (L2.Same.refl _) n1 (o := .lst [.bl (decide (4 = k)), .bl (decide (5 = k)), .bl (decide (6 = k)), .bl (decide (7 = k))]))
    have A1 : (upd H0 l1 (.lst [.bl (decide (4 = k)), .bl (decide (5 = k)), .bl (decide (6 = k)), .bl (decide (7 = k))])) l1 = some (.lst [.bl (decide (4 = k)), .bl (decide (5 = k)), .bl (decide (6 = k)), .bl (decide (7 = k))]) := upd_same
    have B := GG.Same.new (L2.Same.refl _) n1 (o := .lst [.bl (decide (4 = k)), .bl (decide (5 = k)), .bl (decide (6 = k)), .bl (decide (7 = k))]) _ _ B0
    generalize (upd H0 l1 (.lst [.bl (decide (4 = k)), .bl (decide (5 = k)), .bl (decide (6 = k)), .bl (decide (7 = k))])) = H1 at S2 X A1 B ⊢
    refine ⟨l0, l1, _, _, rfl, rfl, B, A1, (by show 8 ≤ sizeLine; rw [sizeLine_eq]; decide), fun m1 o1 => ?_⟩
    replace S2 := GG.Same.new S2 o1 (o := .lst [.bl (decide (0 = k)), .bl (decide (1 = k)), .bl (decide (2 = k)), .bl (decide (3 = k)), .bl (decide (4 = k)), .bl (decide (5 = k)), .bl (decide (6 = k)), .bl (decide (7 = k))])
    replace X := X.same (GG.Same.new (L2.Same.refl _) o1 (o := .lst [.bl (decide (0 = k)), .bl (decide (1 = k)), .bl (decide (2 = k)), .bl (decide (3 = k)), .bl (decide (4 = k)), .bl (decide (5 = k)), .bl (decide (6 = k)), .bl (decide (7 = k))]))
    have B1 : (upd H1 m1 (.lst [.bl (decide (0 = k)), .bl (decide (1 = k)), .bl (decide (2 = k)), .bl (decide (3 = k)), .bl (decide (4 = k)), .bl (decide (5 = k)), .bl (decide (6 = k)), .bl (decide (7 = k))])) m1 = some (.lst [.bl (decide (0 = k)), .bl (decide (1 = k)), .bl (decide (2 = k)), .bl (decide (3 = k)), .bl (decide (4 = k)), .bl (decide (5 = k)), .bl (decide (6 = k)), .bl (decide (7 = k))]) := upd_same
    generalize hI : (upd H1 m1 (.lst [.bl (decide (0 = k)), .bl (decide (1 = k)), .bl (decide (2 = k)), .bl (decide (3 = k)), .bl (decide (4 = k)), .bl (decide (5 = k)), .bl (decide (6 = k)), .bl (decide (7 = k))])) = I1 at S2 X B1
    rw [show (upd H1 m1 (.lst ([.bl (decide (0 = k)), .bl (decide (1 = k)), .bl (decide (2 = k)), .bl (decide (3 = k))] ++ [.bl (decide (4 = k)), .bl (decide (5 = k)), .bl (decide (6 = k)), .bl (decide (7 = k))]))) = I1 from hI]
    refine ⟨_, rfl, _, rfl, e, C k, fs, .ref (C 8), .ref (C 8), decide (8 = k), rfl, tk, X, ClsV.own _, T.kit k hk 8 (by decide), _, rfl, e, C k, fs, .ref (C 9), .ref (C 9), decide (9 = k), rfl, tk, X, ClsV.own _, T.kit k hk 9 (by decide), _, rfl, e, C k, fs, .ref (C 10), .ref (C 10), decide (10 = k), rfl, tk, X, ClsV.own _, T.kit k hk 10 (by decide), _, rfl, e, C k, fs, .ref (C 11), .ref (C 11), decide (11 = k), rfl, tk, X, ClsV.own _, T.kit k hk 11 (by decide), (by show 4 ≤ sizeLine; rw [sizeLine_eq]; decide), fun l2 n2 => ?_⟩
    have S3 := GG.Same.new S2 n2 (o := .lst [.bl (decide (8 = k)), .bl (decide (9 = k)), .bl (decide (10 = k)), .bl (decide (11 = k))])
    replace X := X.same (GG.Same.new (L2.Same.refl _) n2 (o := .lst [.bl (decide (8 = k)), .bl (decide (9 = k)), .bl (decide (10 = k)), .bl (decide (11 = k))]))
    have A2 : (upd I1 l2 (.lst [.bl (decide (8 = k)), .bl (decide (9 = k)), .bl (decide (10 = k)), .bl (decide (11 = k))])) l2 = some (.lst [.bl (decide (8 = k)), .bl (decide (9 = k)), .bl (decide (10 = k)), .bl (decide (11 = k))]) := upd_same
    have B := GG.Same.new (L2.Same.refl _) n2 (o := .lst [.bl (decide (8 = k)), .bl (decide (9 = k)), .bl (decide (10 = k)), .bl (decide (11 = k))]) _ _ B1
    generalize (upd I1 l2 (.lst [.bl (decide (8 = k)), .bl (decide (9 = k)), .bl (decide (10 = k)), .bl (decide (11 = k))])) = H2 at S3 X A2 B ⊢
    refine ⟨m1, l2, _, _, rfl, rfl, B, A2, (by show 12 ≤ sizeLine; rw [sizeLine_eq]; decide), fun m2 o2 => ?_⟩
    replace S3 := GG.Same.new S3 o2 (o := .lst [.bl (decide (0 = k)), .bl (decide (1 = k)), .bl (decide (2 = k)), .bl (decide (3 = k)), .bl (decide (4 = k)), .bl (decide (5 = k)), .bl (decide (6 = k)), .bl (decide (7 = k)), .bl (decide (8 = k)), .bl (decide (9 = k)), .bl (decide (10 = k)), .bl (decide (11 = k))])
    replace X := X.same (GG.Same.new (L2.Same.refl _) o2 (o := .lst [.bl (decide (0 = k)), .bl (decide (1 = k)), .bl (decide (2 = k)), .bl (decide (3 = k)), .bl (decide (4 = k)), .bl (decide (5 = k)), .bl (decide (6 = k)), .bl (decide (7 = k)), .bl (decide (8 = k)), .bl (decide (9 = k)), .bl (decide (10 = k)), .bl (decide (11 = k))]))
    have B2 : (upd H2 m2 (.lst [.bl (decide (0 = k)), .bl (decide (1 = k)), .bl (decide (2 = k)), .bl (decide (3 = k)), .bl (decide (4 = k)), .bl (decide (5 = k)), .bl (decide (6 = k)), .bl (decide (7 = k)), .bl (decide (8 = k)), .bl (decide (9 = k)), .bl (decide (10 = k)), .bl (decide (11 = k))])) m2 = some (.lst [.bl (decide (0 = k)), .bl (decide (1 = k)), .bl (decide (2 = k)), .bl (decide (3 = k)), .bl (decide (4 = k)), .bl (decide (5 = k)), .bl (decide (6 = k)), .bl (decide (7 = k)), .bl (decide (8 = k)), .bl (decide (9 = k)), .bl (decide (10 = k)), .bl (decide (11 = k))]) := upd_same
    generalize hI : (upd H2 m2 (.lst [.bl (decide (0 = k)), .bl (decide (1 = k)), .bl (decide (2 = k)), .bl (decide (3 = k)), .bl (decide (4 = k)), .bl (decide (5 = k)), .bl (decide (6 = k)), .bl (decide (7 = k)), .bl (decide (8 = k)), .bl (decide (9 = k)), .bl (decide (10 = k)), .bl (decide (11 = k))])) = I2 at S3 X B2
    rw [show (upd H2 m2 (.lst ([.bl (decide (0 = k)), .bl (decide (1 = k)), .bl (decide (2 = k)), .bl (decide (3 = k)), .bl (decide (4 = k)), .bl (decide (5 = k)), .bl (decide (6 = k)), .bl (decide (7 = k))] ++ [.bl (decide (8 = k)), .bl (decide (9 = k)), .bl (decide (10 = k)), .bl (decide (11 = k))]))) = I2 from hI]
    refine ⟨_, rfl, _, rfl, e, C k, fs, .ref (C 12), .ref (C 12), decide (12 = k), rfl, tk, X, ClsV.own _, T.kit k hk 12 (by decide), _, rfl, e, C k, fs, .ref (C 13), .ref (C 13), decide (13 = k), rfl, tk, X, ClsV.own _, T.kit k hk 13 (by decide), (by show 2 ≤ sizeLine; rw [sizeLine_eq]; decide), fun l3 n3 => ?_⟩
    have S4 := GG.Same.new S3 n3 (o := .lst [.bl (decide (12 = k)), .bl (decide (13 = k))])
    replace X := X.same (GG.Same.new (L2.Same.refl _) n3 (o := .lst [.bl (decide (12 = k)), .bl (decide (13 = k))]))
    have A3 : (upd I2 l3 (.lst [.bl (decide (12 = k)), .bl (decide (13 = k))])) l3 = some (.lst [.bl (decide (12 = k)), .bl (decide (13 = k))]) := upd_same
    have B := GG.Same.new (L2.Same.refl _) n3 (o := .lst [.bl (decide (12 = k)), .bl (decide (13 = k))]) _ _ B2
    generalize (upd I2 l3 (.lst [.bl (decide (12 = k)), .bl (decide (13 = k))])) = H3 at S4 X A3 B ⊢
    refine ⟨m2, l3, _, _, rfl, rfl, B, A3, (by show 14 ≤ sizeLine; rw [sizeLine_eq]; decide), fun m3 o3 => ?_⟩
    exact want m3 _ upd_same (GG.Same.new S4 o3)
def valsL (a b c : V) : List (List V) := [[a], [a, b], [a, b], [a], [a], [a], [a, b], [a, b, c], [], [a], [a], [a, b], [], []]
def spFields (C : Nat → Addr) : Sp := fun vs H Q _ => ∃ (l : Addr) (es : List Addr) (a b c : V), vs = [.ref l] ∧ H l = some (.lst (es.map V.ref)) ∧ Objs H es (specs C a b c) ∧ ∀ (m : Addr) (rs : List Addr) (H' : Hp), H' m = some (.lst (rs.map V.ref)) → Rws H' rs (valsL a b c) → Same H H' → Q (.ref m) H'
theorem Objs.len {H : Hp} : ∀ {es : List Addr} {sp : List (Addr × List (Str × V))}, Objs H es sp → es.length = sp.length
  | _, _, .nil => rfl
  | _, _, .cons _ t => by rw [List.length_cons, List.length_cons, Objs.len t]
theorem scFields : FnScope ["_law_row", "_law_first"] ["_law_row"] (defScope sFields) := ⟨rfl, rfl, rfl, by decide +kernel, rfl, by decide +kernel, by decide +kernel⟩
theorem kn_fields (D : DefIs K mg "_law_fields" sFields) (T : All14 P w K mg base C) : Kn P w K mg base "_law_fields" 1 ["_law_row"] (spFields C) := by
  refine .of D (fun _ _ _ _ _ _ us hl => match us, hl with | [_], _ => rfl) fun _ _ F => ?_
  refine F.ok scFields (fun vs H Q E h => ?_) (fun cdv A outer s H vs Q E hr h => ?_)
  · obtain ⟨l, es, a, b, c, rfl, _⟩ := h
    rfl
  · obtain ⟨l, es, a, b, c, rfl, L, O, want⟩ := h
    obtain ⟨e0, e1, e2, e3, e4, e5, e6, e7, e8, e9, e10, e11, e12, e13, rfl⟩ : ∃ e0 e1 e2 e3 e4 e5 e6 e7 e8 e9 e10 e11 e12 e13, es = [e0, e1, e2, e3, e4, e5, e6, e7, e8, e9, e10, e11, e12, e13] := by
      have q := O.len
      match es, q with
      | [e0, e1, e2, e3, e4, e5, e6, e7, e8, e9, e10, e11, e12, e13], _ => exact ⟨_, _, _, _, _, _, _, _, _, _, _, _, _, _, rfl⟩
    refine ⟨_, pss_cons (ps_set (i := 1) scFields.nd rfl (.inl rfl) (pe_lst (pa_cons (pe_lstM (pa_cons (pe_xfd (pe_ix ix_list (pv 0) pe_int (fun _ _ => rfl))) pa_nil)) (pa_cons (pe_lstM (pa_cons (pe_xfd (pe_ix ix_list (pv 0) pe_int (fun _ _ => rfl))) (pa_cons (pe_xfd (pe_ix ix_list (pv 0) pe_int (fun _ _ => rfl))) pa_nil))) (pa_cons (pe_lstM (pa_cons (pe_xfd (pe_ix ix_list (pv 0) pe_int (fun _ _ => rfl))) (pa_cons (pe_xfd (pe_ix ix_list (pv 0) pe_int (fun _ _ => rfl))) pa_nil))) (pa_cons (pe_lstM (pa_cons (pe_xfd (pe_ix ix_list (pv 0) pe_int (fun _ _ => rfl))) pa_nil)) pa_nil))))))
      (pss_cons (ps_set (i := 1) scFields.nd rfl (.inl rfl) (pe_op op_cat (pv 1) (pe_lst (pa_cons (pe_lstM (pa_cons (pe_xfd (pe_ix ix_list (pv 0) pe_int (fun _ _ => rfl))) pa_nil)) (pa_cons (pe_lstM (pa_cons (pe_xfd (pe_ix ix_list (pv 0) pe_int (fun _ _ => rfl))) pa_nil)) (pa_cons (pe_lstM (pa_cons (pe_xfd (pe_ix ix_list (pv 0) pe_int (fun _ _ => rfl))) (pa_cons (pe_xfd (pe_ix ix_list (pv 0) pe_int (fun _ _ => rfl))) pa_nil))) pa_nil))))))
      (pss_cons (ps_set (i := 1) scFields.nd rfl (.inl rfl) (pe_op op_cat (pv 1) (pe_lst (pa_cons (pe_lstM (pa_cons (pe_xfd (pe_ix ix_list (pv 0) pe_int (fun _ _ => rfl))) (pa_cons (pe_xfd (pe_ix ix_list (pv 0) pe_int (fun _ _ => rfl))) (pa_cons (pe_xfd (pe_ix ix_list (pv 0) pe_int (fun _ _ => rfl))) pa_nil)))) (pa_cons (pe_lstM pa_nil) (pa_cons (pe_lstM (pa_cons (pe_xfd (pe_ix ix_list (pv 0) pe_int (fun _ _ => rfl))) pa_nil)) (pa_cons (pe_lstM (pa_cons (pe_xfd (pe_ix ix_list (pv 0) pe_int (fun _ _ => rfl))) pa_nil)) pa_nil)))))))
      (pss_one (ps_ret (pe_op op_cat (pv 1) (pe_lst (pa_cons (pe_lstM (pa_cons (pe_xfd (pe_ix ix_list (pv 0) pe_int (fun _ _ => rfl))) (pa_cons (pe_xfd (pe_ix ix_list (pv 0) pe_int (fun _ _ => rfl))) pa_nil))) (pa_cons (pe_lstM pa_nil) (pa_cons (pe_lstM pa_nil) pa_nil))))))))), ?_⟩
    have S0 : Same H H := L2.Same.refl H
    have R0 : Rws H [] [] := .nil
    refine ⟨_, rfl, l, _, _, _, rfl, rfl, SqL.of L, atI_nat (j := 0) rfl, e0, C 0, _, a, rfl, T.c0.t, O.get (k := 0) rfl rfl, T.c0.na _ List.mem_cons_self, (by kernel_rfl), (by show 1 ≤ sizeLine; rw [sizeLine_eq]; decide), fun r0 n0 ne0 => ?_⟩
    have D0 := GG.Same.new (L2.Same.refl _) n0 (o := .lst [a])
    have R1 := Rws.snoc (e := r0) (q := [a]) ⟨upd_same, ne0⟩ (R0.same D0)
    replace O := O.same D0
    replace L := D0 _ _ L
    have S1 := L2.Same.trans S0 D0
    clear D0
    generalize (upd H r0 (.lst [a])) = H0 at R1 O L S1  ⊢
    refine ⟨_, rfl, l, _, _, _, rfl, rfl, SqL.of L, atI_nat (j := 1) rfl, e1, C 1, _, a, rfl, T.c1.t, O.get (k := 1) rfl rfl, T.c1.na _ List.mem_cons_self, (by kernel_rfl), _, rfl, l, _, _, _, rfl, rfl, SqL.of L, atI_nat (j := 1) rfl, e1, C 1, _, b, rfl, T.c1.t, O.get (k := 1) rfl rfl, T.c1.na _ (List.mem_cons_of_mem _ List.mem_cons_self), (by kernel_rfl), (by show 2 ≤ sizeLine; rw [sizeLine_eq]; decide), fun r1 n1 ne1 => ?_⟩
    have D1 := GG.Same.new (L2.Same.refl _) n1 (o := .lst [a, b])
    have R2 := Rws.snoc (e := r1) (q := [a, b]) ⟨upd_same, ne1⟩ (R1.same D1)
    replace O := O.same D1
    replace L := D1 _ _ L
    have S2 := L2.Same.trans S1 D1
    clear D1
    generalize (upd H0 r1 (.lst [a, b])) = H1 at R2 O L S2  ⊢
    refine ⟨_, rfl, l, _, _, _, rfl, rfl, SqL.of L, atI_nat (j := 2) rfl, e2, C 2, _, a, rfl, T.c2.t, O.get (k := 2) rfl rfl, T.c2.na _ List.mem_cons_self, (by kernel_rfl), _, rfl, l, _, _, _, rfl, rfl, SqL.of L, atI_nat (j := 2) rfl, e2, C 2, _, b, rfl, T.c2.t, O.get (k := 2) rfl rfl, T.c2.na _ (List.mem_cons_of_mem _ List.mem_cons_self), (by kernel_rfl), (by show 2 ≤ sizeLine; rw [sizeLine_eq]; decide), fun r2 n2 ne2 => ?_⟩
    have D2 := GG.Same.new (L2.Same.refl _) n2 (o := .lst [a, b])
    have R3 := Rws.snoc (e := r2) (q := [a, b]) ⟨upd_same, ne2⟩ (R2.same D2)
    replace O := O.same D2
    replace L := D2 _ _ L
    have S3 := L2.Same.trans S2 D2
    clear D2
    generalize (upd H1 r2 (.lst [a, b])) = H2 at R3 O L S3  ⊢
    refine ⟨_, rfl, l, _, _, _, rfl, rfl, SqL.of L, atI_nat (j := 3) rfl, e3, C 3, _, a, rfl, T.c3.t, O.get (k := 3) rfl rfl, T.c3.na _ List.mem_cons_self, (by kernel_rfl), (by show 1 ≤ sizeLine; rw [sizeLine_eq]; decide), fun r3 n3 ne3 => ?_⟩
    have D3 := GG.Same.new (L2.Same.refl _) n3 (o := .lst [a])
    have R4 := Rws.snoc (e := r3) (q := [a]) ⟨upd_same, ne3⟩ (R3.same D3)
    replace O := O.same D3
    replace L := D3 _ _ L
    have S4 := L2.Same.trans S3 D3
    clear D3
    generalize (upd H2 r3 (.lst [a])) = H3 at R4 O L S4  ⊢
    refine ⟨(by show 4 ≤ sizeLine; rw [sizeLine_eq]; decide), fun q0 nq0 => ?_⟩
    have D := GG.Same.new (L2.Same.refl _) nq0 (o := .lst [.ref r0, .ref r1, .ref r2, .ref r3])
    replace R4 := R4.same D
    replace O := O.same D
    replace L := D _ _ L
    replace S4 := L2.Same.trans S4 D
    have A_q0 : (upd H3 q0 (.lst [.ref r0, .ref r1, .ref r2, .ref r3])) q0 = some (.lst [.ref r0, .ref r1, .ref r2, .ref r3]) := upd_same
    clear D
    generalize (upd H3 q0 (.lst [.ref r0, .ref r1, .ref r2, .ref r3])) = J_q0 at R4 O L S4 A_q0 ⊢
    refine ⟨_, rfl, _, rfl, l, _, _, _, rfl, rfl, SqL.of L, atI_nat (j := 4) rfl, e4, C 4, _, a, rfl, T.c4.t, O.get (k := 4) rfl rfl, T.c4.na _ List.mem_cons_self, (by kernel_rfl), (by show 1 ≤ sizeLine; rw [sizeLine_eq]; decide), fun r4 n4 ne4 => ?_⟩
    have D4 := GG.Same.new (L2.Same.refl _) n4 (o := .lst [a])
    have R5 := Rws.snoc (e := r4) (q := [a]) ⟨upd_same, ne4⟩ (R4.same D4)
    replace O := O.same D4
    replace L := D4 _ _ L
    have S5 := L2.Same.trans S4 D4
    replace A_q0 := D4 _ _ A_q0
    clear D4
    generalize (upd J_q0 r4 (.lst [a])) = H4 at R5 O L S5 A_q0 ⊢
    refine ⟨_, rfl, l, _, _, _, rfl, rfl, SqL.of L, atI_nat (j := 5) rfl, e5, C 5, _, a, rfl, T.c5.t, O.get (k := 5) rfl rfl, T.c5.na _ List.mem_cons_self, (by kernel_rfl), (by show 1 ≤ sizeLine; rw [sizeLine_eq]; decide), fun r5 n5 ne5 => ?_⟩
    have D5 := GG.Same.new (L2.Same.refl _) n5 (o := .lst [a])
    have R6 := Rws.snoc (e := r5) (q := [a]) ⟨upd_same, ne5⟩ (R5.same D5)
    replace O := O.same D5
    replace L := D5 _ _ L
    have S6 := L2.Same.trans S5 D5
    replace A_q0 := D5 _ _ A_q0
    clear D5
    generalize (upd H4 r5 (.lst [a])) = H5 at R6 O L S6 A_q0 ⊢
    refine ⟨_, rfl, l, _, _, _, rfl, rfl, SqL.of L, atI_nat (j := 6) rfl, e6, C 6, _, a, rfl, T.c6.t, O.get (k := 6) rfl rfl, T.c6.na _ List.mem_cons_self, (by kernel_rfl), _, rfl, l, _, _, _, rfl, rfl, SqL.of L, atI_nat (j := 6) rfl, e6, C 6, _, b, rfl, T.c6.t, O.get (k := 6) rfl rfl, T.c6.na _ (List.mem_cons_of_mem _ List.mem_cons_self), (by kernel_rfl), (by show 2 ≤ sizeLine; rw [sizeLine_eq]; decide), fun r6 n6 ne6 => ?_⟩
    have D6 := GG.Same.new (L2.Same.refl _) n6 (o := .lst [a, b])
    have R7 := Rws.snoc (e := r6) (q := [a, b]) ⟨upd_same, ne6⟩ (R6.same D6)
    replace O := O.same D6
    replace L := D6 _ _ L
    have S7 := L2.Same.trans S6 D6
    replace A_q0 := D6 _ _ A_q0
    clear D6
    generalize (upd H5 r6 (.lst [a, b])) = H6 at R7 O L S7 A_q0 ⊢
    refine ⟨(by show 3 ≤ sizeLine; rw [sizeLine_eq]; decide), fun q1 nq1 => ?_⟩
    have D := GG.Same.new (L2.Same.refl _) nq1 (o := .lst [.ref r4, .ref r5, .ref r6])
    replace R7 := R7.same D
    replace O := O.same D
    replace L := D _ _ L
    replace S7 := L2.Same.trans S7 D
    replace A_q0 := D _ _ A_q0
    have A_q1 : (upd H6 q1 (.lst [.ref r4, .ref r5, .ref r6])) q1 = some (.lst [.ref r4, .ref r5, .ref r6]) := upd_same
    clear D
    generalize (upd H6 q1 (.lst [.ref r4, .ref r5, .ref r6])) = J_q1 at R7 O L S7 A_q0 A_q1 ⊢
    refine ⟨q0, q1, _, _, rfl, rfl, A_q0, A_q1, (by show 7 ≤ sizeLine; rw [sizeLine_eq]; decide), fun m1 nm1 => ?_⟩
    have D := GG.Same.new (L2.Same.refl _) nm1 (o := .lst [.ref r0, .ref r1, .ref r2, .ref r3, .ref r4, .ref r5, .ref r6])
    replace R7 := R7.same D
    replace O := O.same D
    replace L := D _ _ L
    replace S7 := L2.Same.trans S7 D
    have A_m1 : (upd J_q1 m1 (.lst [.ref r0, .ref r1, .ref r2, .ref r3, .ref r4, .ref r5, .ref r6])) m1 = some (.lst [.ref r0, .ref r1, .ref r2, .ref r3, .ref r4, .ref r5, .ref r6]) := upd_same
    clear D
    generalize hJ : (upd J_q1 m1 (.lst [.ref r0, .ref r1, .ref r2, .ref r3, .ref r4, .ref r5, .ref r6])) = J_m1 at R7 O L S7 A_m1
    rw [show (upd J_q1 m1 (.lst ([.ref r0, .ref r1, .ref r2, .ref r3] ++ [.ref r4, .ref r5, .ref r6]))) = J_m1 from hJ]
    clear hJ
    refine ⟨_, rfl, _, rfl, l, _, _, _, rfl, rfl, SqL.of L, atI_nat (j := 7) rfl, e7, C 7, _, a, rfl, T.c7.t, O.get (k := 7) rfl rfl, T.c7.na _ List.mem_cons_self, (by kernel_rfl), _, rfl, l, _, _, _, rfl, rfl, SqL.of L, atI_nat (j := 7) rfl, e7, C 7, _, b, rfl, T.c7.t, O.get (k := 7) rfl rfl, T.c7.na _ (List.mem_cons_of_mem _ List.mem_cons_self), (by kernel_rfl), _, rfl, l, _, _, _, rfl, rfl, SqL.of L, atI_nat (j := 7) rfl, e7, C 7, _, c, rfl, T.c7.t, O.get (k := 7) rfl rfl, T.c7.na _ (List.mem_cons_of_mem _ (List.mem_cons_of_mem _ List.mem_cons_self)), (by kernel_rfl), (by show 3 ≤ sizeLine; rw [sizeLine_eq]; decide), fun r7 n7 ne7 => ?_⟩
    have D7 := GG.Same.new (L2.Same.refl _) n7 (o := .lst [a, b, c])
    have R8 := Rws.snoc (e := r7) (q := [a, b, c]) ⟨upd_same, ne7⟩ (R7.same D7)
    replace O := O.same D7
    replace L := D7 _ _ L
    have S8 := L2.Same.trans S7 D7
    replace A_m1 := D7 _ _ A_m1
    clear D7
    generalize (upd J_m1 r7 (.lst [a, b, c])) = H7 at R8 O L S8 A_m1 ⊢
    refine ⟨(by show 0 ≤ sizeLine; rw [sizeLine_eq]; decide), fun r8 n8 ne8 => ?_⟩
    have D8 := GG.Same.new (L2.Same.refl _) n8 (o := .lst [])
    have R9 := Rws.snoc (e := r8) (q := []) ⟨upd_same, ne8⟩ (R8.same D8)
    replace O := O.same D8
    replace L := D8 _ _ L
    have S9 := L2.Same.trans S8 D8
    replace A_m1 := D8 _ _ A_m1
    clear D8
    generalize (upd H7 r8 (.lst [])) = H8 at R9 O L S9 A_m1 ⊢
    refine ⟨_, rfl, l, _, _, _, rfl, rfl, SqL.of L, atI_nat (j := 9) rfl, e9, C 9, _, a, rfl, T.c9.t, O.get (k := 9) rfl rfl, T.c9.na _ List.mem_cons_self, (by kernel_rfl), (by show 1 ≤ sizeLine; rw [sizeLine_eq]; decide), fun r9 n9 ne9 => ?_⟩
    have D9 := GG.Same.new (L2.Same.refl _) n9 (o := .lst [a])
    have R10 := Rws.snoc (e := r9) (q := [a]) ⟨upd_same, ne9⟩ (R9.same D9)
    replace O := O.same D9
    replace L := D9 _ _ L
    have S10 := L2.Same.trans S9 D9
    replace A_m1 := D9 _ _ A_m1
    clear D9
    generalize (upd H8 r9 (.lst [a])) = H9 at R10 O L S10 A_m1 ⊢
    refine ⟨_, rfl, l, _, _, _, rfl, rfl, SqL.of L, atI_nat (j := 10) rfl, e10, C 10, _, a, rfl, T.c10.t, O.get (k := 10) rfl rfl, T.c10.na _ List.mem_cons_self, (by kernel_rfl), (by show 1 ≤ sizeLine; rw [sizeLine_eq]; decide), fun r10 n10 ne10 => ?_⟩
    have D10 := GG.Same.new (L2.Same.refl _) n10 (o := .lst [a])
    have R11 := Rws.snoc (e := r10) (q := [a]) ⟨upd_same, ne10⟩ (R10.same D10)
    replace O := O.same D10
    replace L := D10 _ _ L
    have S11 := L2.Same.trans S10 D10
    replace A_m1 := D10 _ _ A_m1
    clear D10
    generalize (upd H9 r10 (.lst [a])) = H10 at R11 O L S11 A_m1 ⊢
    refine ⟨(by show 4 ≤ sizeLine; rw [sizeLine_eq]; decide), fun q2 nq2 => ?_⟩
    have D := GG.Same.new (L2.Same.refl _) nq2 (o := .lst [.ref r7, .ref r8, .ref r9, .ref r10])
    replace R11 := R11.same D
    replace O := O.same D
    replace L := D _ _ L
    replace S11 := L2.Same.trans S11 D
    replace A_m1 := D _ _ A_m1
    have A_q2 : (upd H10 q2 (.lst [.ref r7, .ref r8, .ref r9, .ref r10])) q2 = some (.lst [.ref r7, .ref r8, .ref r9, .ref r10]) := upd_same
    clear D
    generalize (upd H10 q2 (.lst [.ref r7, .ref r8, .ref r9, .ref r10])) = J_q2 at R11 O L S11 A_m1 A_q2 ⊢
    refine ⟨m1, q2, _, _, rfl, rfl, A_m1, A_q2, (by show 11 ≤ sizeLine; rw [sizeLine_eq]; decide), fun m2 nm2 => ?_⟩
    have D := GG.Same.new (L2.Same.refl _) nm2 (o := .lst [.ref r0, .ref r1, .ref r2, .ref r3, .ref r4, .ref r5, .ref r6, .ref r7, .ref r8, .ref r9, .ref r10])
    replace R11 := R11.same D
    replace O := O.same D
    replace L := D _ _ L
    replace S11 := L2.Same.trans S11 D
    have A_m2 : (upd J_q2 m2 (.lst [.ref r0, .ref r1, .ref r2, .ref r3, .ref r4, .ref r5, .ref r6, .ref r7, .ref r8, .ref r9, .ref r10])) m2 = some (.lst [.ref r0, .ref r1, .ref r2, .ref r3, .ref r4, .ref r5, .ref r6, .ref r7, .ref r8, .ref r9, .ref r10]) := upd_same
    clear D
    generalize hJ : (upd J_q2 m2 (.lst [.ref r0, .ref r1, .ref r2, .ref r3, .ref r4, .ref r5, .ref r6, .ref r7, .ref r8, .ref r9, .ref r10])) = J_m2 at R11 O L S11 A_m2
    rw [show (upd J_q2 m2 (.lst ([.ref r0, .ref r1, .ref r2, .ref r3, .ref r4, .ref r5, .ref r6] ++ [.ref r7, .ref r8, .ref r9, .ref r10]))) = J_m2 from hJ]
    clear hJ
    refine ⟨_, rfl, _, rfl, l, _, _, _, rfl, rfl, SqL.of L, atI_nat (j := 11) rfl, e11, C 11, _, a, rfl, T.c11.t, O.get (k := 11) rfl rfl, T.c11.na _ List.mem_cons_self, (by kernel_rfl), _, rfl, l, _, _, _, rfl, rfl, SqL.of L, atI_nat (j := 11) rfl, e11, C 11, _, b, rfl, T.c11.t, O.get (k := 11) rfl rfl, T.c11.na _ (List.mem_cons_of_mem _ List.mem_cons_self), (by kernel_rfl), (by show 2 ≤ sizeLine; rw [sizeLine_eq]; decide), fun r11 n11 ne11 => ?_⟩
    have D11 := GG.Same.new (L2.Same.refl _) n11 (o := .lst [a, b])
    have R12 := Rws.snoc (e := r11) (q := [a, b]) ⟨upd_same, ne11⟩ (R11.same D11)
    replace O := O.same D11
    replace L := D11 _ _ L
    have S12 := L2.Same.trans S11 D11
    replace A_m2 := D11 _ _ A_m2
    clear D11
    generalize (upd J_m2 r11 (.lst [a, b])) = H11 at R12 O L S12 A_m2 ⊢
    refine ⟨(by show 0 ≤ sizeLine; rw [sizeLine_eq]; decide), fun r12 n12 ne12 => ?_⟩
    have D12 := GG.Same.new (L2.Same.refl _) n12 (o := .lst [])
    have R13 := Rws.snoc (e := r12) (q := []) ⟨upd_same, ne12⟩ (R12.same D12)
    replace O := O.same D12
    replace L := D12 _ _ L
    have S13 := L2.Same.trans S12 D12
    replace A_m2 := D12 _ _ A_m2
    clear D12
    generalize (upd H11 r12 (.lst [])) = H12 at R13 O L S13 A_m2 ⊢
    refine ⟨(by show 0 ≤ sizeLine; rw [sizeLine_eq]; decide), fun r13 n13 ne13 => ?_⟩
    have D13 := GG.Same.new (L2.Same.refl _) n13 (o := .lst [])
    have R14 := Rws.snoc (e := r13) (q := []) ⟨upd_same, ne13⟩ (R13.same D13)
    replace O := O.same D13
    replace L := D13 _ _ L
    have S14 := L2.Same.trans S13 D13
    replace A_m2 := D13 _ _ A_m2
    clear D13
    generalize (upd H12 r13 (.lst [])) = H13 at R14 O L S14 A_m2 ⊢
    refine ⟨(by show 3 ≤ sizeLine; rw [sizeLine_eq]; decide), fun q3 nq3 => ?_⟩
    have D := GG.Same.new (L2.Same.refl _) nq3 (o := .lst [.ref r11, .ref r12, .ref r13])
    replace R14 := R14.same D
    replace O := O.same D
    replace L := D _ _ L
    replace S14 := L2.Same.trans S14 D
    replace A_m2 := D _ _ A_m2
    have A_q3 : (upd H13 q3 (.lst [.ref r11, .ref r12, .ref r13])) q3 = some (.lst [.ref r11, .ref r12, .ref r13]) := upd_same
    clear D
    generalize (upd H13 q3 (.lst [.ref r11, .ref r12, .ref r13])) = J_q3 at R14 O L S14 A_m2 A_q3 ⊢
    refine ⟨m2, q3, _, _, rfl, rfl, A_m2, A_q3, (by show 14 ≤ sizeLine; rw [sizeLine_eq]; decide), fun m3 nm3 => ?_⟩
    exact want m3 [r0, r1, r2, r3, r4, r5, r6, r7, r8, r9, r10, r11, r12, r13] _ upd_same (R14.same (GG.Same.new (L2.Same.refl _) nm3)) (GG.Same.new S14 nm3)
end
end GG

namespace GG
open PySem PySem.Spec PyProof.Rows L2
/-! ### lists of truth values -/
theorem bools_lay : ∀ bs : List Bool, PyData.canLayAll0 (bs.map PyData.bool) = true
  | [] => by simp [PyData.canLayAll0]
  | b :: bs => by simp [PyData.canLayAll0, PyData.canLay0, bools_lay bs]
theorem bools_depth : ∀ bs : List Bool, PyData.depthAll (bs.map PyData.bool) ≤ 2
  | [] => by simp [PyData.depthAll]
  | b :: bs => by
    have h := bools_depth bs
    simp only [List.map_cons, PyData.depthAll, PyData.depth]
    omega
theorem bools_shaped (bs : List Bool) : SeqAt.shaped (.list (bs.map PyData.bool)) = true := by
  have h1 := bools_depth bs
  have h2 : PyData.depth (.list (bs.map PyData.bool)) ≤ 64 := by
    simp only [PyData.depth]
    omega
  show (PyData.canLay0 _ && decide (PyData.depth (.list (bs.map PyData.bool)) ≤ 64)) = true
  rw [Bool.and_eq_true]
  exact ⟨by simp only [PyData.canLay0]; exact bools_lay bs, decide_eq_true h2⟩
theorem bools_eqvAll : ∀ bs : List Bool, PyData.eqvAll (bs.map PyData.bool) (bs.map PyData.bool) = true
  | [] => by simp [PyData.eqvAll]
  | b :: bs => by simp [PyData.eqvAll, PyData.eqv, bools_eqvAll bs]
theorem bools_eqv (bs : List Bool) : PyData.eqv (.list (bs.map PyData.bool)) (.list (bs.map PyData.bool)) = true := by
  simp only [PyData.eqv]
  exact bools_eqvAll bs
theorem bools_dp (K : PySem.W.Frag) (H : Hp) : ∀ bs : List Bool, DpAll K H (bs.map V.bl) (bs.map PyData.bool)
  | [] => .nil
  | b :: bs => .cons (.bl b) (bools_dp K H bs)
/-! ### texts -/
theorem codes_small (s : String) : ∀ c ∈ (Str.ofString s).cps.toList, c < 16 ^ 8 := by
  intro c hc
  have e : (Str.ofString s).cps.toList = s.toList.map Char.toNat := by
    rw [Str.ofString_eq_toList, List.toList_toArray]
  rw [e] at hc
  obtain ⟨x, _, rfl⟩ := List.mem_map.mp hc
  have h := x.val.toNat_lt
  show x.val.toNat < 16 ^ 8
  omega
/-- a value whose datum is small -/
def Gd (H : Hp) (v : V) : Prop := ∃ d, Da H v d ∧ d.showable = true ∧ d.depth ≤ 8 ∧ d.shown.length ≤ 400
theorem Gd.stay {H H' : Hp} {v : V} (k : Stay H H') (g : Gd H v) : Gd H' v := by
  obtain ⟨d, h, r⟩ := g
  exact ⟨d, h.stay k, r⟩
theorem small_log {i : Int} (h0 : -1000000000000000000 < i) (h1 : i < 1000000000000000000) : i.natAbs.log2 < 1920 := by
  apply log2_small
  have e : i.natAbs < 1000000000000000000 := by omega
  exact Nat.lt_trans e (by decide +kernel)
theorem int_len {i : Int} (h0 : -1000000000000000000 < i) (h1 : i < 1000000000000000000) : (Str.ofString (toString i)).length ≤ 20 := by
  have e := int_text_length_le10 (a := i) (k := 18) (by decide) (by omega)
  rw [PySem.ofString_length]
  omega

theorem gd_int {H : Hp} {i : Int} (h0 : -1000000000000000000 < i) (h1 : i < 1000000000000000000) : Gd H (.int i) := by
  refine ⟨.int i, .int i, ?_, by simp [PyData.depth], ?_⟩
  · simp only [PyData.showable, decide_eq_true_eq]
    exact small_log h0 h1
  · rw [PyData.shown_int]
    have := int_len h0 h1
    omega
theorem gd_str {H : Hp} {x : Str} (h : x.length ≤ 25) (hc : ∀ c ∈ x.cps.toList, c < 16 ^ 8) : Gd H (.str x) := by
  refine ⟨.str x, .str x, by simp [PyData.showable], by simp [PyData.depth], ?_⟩
  rw [PyData.shown_str]
  have := StrLaws.reprText_len x hc
  omega
theorem gd_non {H : Hp} : Gd H .non := ⟨.none, .non, by simp [PyData.showable], by simp [PyData.depth], by rw [PyData.shown_none]; decide +kernel⟩
theorem gd_bl {H : Hp} (b : Bool) : Gd H (.bl b) := ⟨.bool b, .bl b, by simp [PyData.showable], by simp [PyData.depth], by rw [PyData.shown_bool]; cases b <;> decide +kernel⟩
theorem gd_tup {H : Hp} {t : Addr} {i : Int} (h0 : -1000000000000000000 < i) (h1 : i < 1000000000000000000) (e : H t = some (.tup [.int i, .str "a"])) : Gd H (.ref t) := by
  refine ⟨.tuple [.int i, .str "a"], .tup e (.cons (.int i) (.cons (.str _) .nil)), ?_, by simp [PyData.depth, PyData.depthAll], ?_⟩
  · simp only [PyData.showable, PyData.showableAll, Bool.and_true, decide_eq_true_eq]
    exact small_log h0 h1
  · have z := tuple_len [.int i, .str "a"] 30 (by
      intro d hd
      simp only [List.mem_cons, List.not_mem_nil, or_false] at hd
      rcases hd with rfl | rfl
      · rw [PyData.shown_int]
        have := int_len h0 h1
        omega
      · rw [PyData.shown_str]
        decide +kernel)
    simp only [List.length_cons, List.length_nil] at z
    omega
theorem gd_lst {H : Hp} {t : Addr} {i : Int} (h0 : -1000000000000000000 < i) (h1 : i < 1000000000000000000) (e : H t = some (.lst [.int i, .non])) (ne : t ≠ sysModules) : Gd H (.ref t) := by
  refine ⟨.list [.int i, .none], .lst e ne (.cons (.int i) (.cons .non .nil)), ?_, by simp [PyData.depth, PyData.depthAll], ?_⟩
  · simp only [PyData.showable, PyData.showableAll, Bool.and_true, decide_eq_true_eq]
    exact small_log h0 h1
  · have z := list_len [.int i, .none] 30 (by
      intro d hd
      simp only [List.mem_cons, List.not_mem_nil, or_false] at hd
      rcases hd with rfl | rfl
      · rw [PyData.shown_int]
        have := int_len h0 h1
        omega
      · rw [PyData.shown_none]
        decide +kernel)
    simp only [List.length_cons, List.length_nil] at z
    omega
theorem gd_dic {H : Hp} {t : Addr} {i : Int} (h0 : -1000000000000000000 < i) (h1 : i < 1000000000000000000) (e : H t = some (.dK [(.inr "a", .int i)])) : Gd H (.ref t) := by
  refine ⟨.dict [(.str "a", .int i)], .dic e (.int i), ?_, by simp [PyData.depth, PyData.depthKv], ?_⟩
  · simp only [PyData.showable, PyData.showableKv, Bool.and_true, Bool.true_and, decide_eq_true_eq]
    exact small_log h0 h1
  · rw [PyData.shown_dict, PyData.shownKv_cons, PyData.shownKv_nil]
    have e1 : ∀ x : Str, (Str.join ", " [x]) = x := fun x => rfl
    rw [e1, strLen_append, strLen_append, strLen_append, strLen_append, PyData.shown_str, PyData.shown_int]
    have := int_len h0 h1
    have e2 : (reprText ("a" : Str)).length ≤ 10 := by decide +kernel
    have e3 : (("{" : Str)).length = 1 := rfl
    have e4 : (("}" : Str)).length = 1 := rfl
    have e5 : ((": " : Str)).length = 2 := rfl
    omega
end GG

namespace GG
open PySem PySem.Spec PyProof.Rows L2
abbrev sLaw : Stmt := topS 24
theorem bStr : bootBuiltins "str" = some (.type "str") := by decide +kernel
theorem bRepr : bootBuiltins "repr" = some (.builtin "repr") := by decide +kernel
structure LTxt (K : PySem.W.Frag) (mg : Str → Option Value) : Prop where
  p : PTxt K mg
  range : mg "range" = none
  str : mg "str" = none
  repr : mg "repr" = none
  enum : mg "enumerate" = none
  zip : mg "zip" = none
  isi : mg "isinstance" = none
  ve : mg "ValueError" = none
def spLaw (K : PySem.W.Frag) : Sp := fun vs H Q _ => ∃ (a : Addr) (ns : List Int), vs = [.ref a] ∧ SqL K H a (ns.map V.int) ∧ ns.length ≤ 63 ∧ ∀ H', Q (.bl true) H'
theorem delH_stay {g : Addr} {H H' : Hp} (k : Stay H H') : Stay (delH H g) (delH H' g) := fun b o e n => by
  have hb : b ≠ g := fun z => by
    rw [z, delH_same] at e
    cases e
  rw [delH_ne hb] at e ⊢
  exact k b o e n
theorem delH_sub {g : Addr} {H : Hp} : Stay (delH H g) H := fun b o e _ => by
  have hb : b ≠ g := fun z => by
    rw [z, delH_same] at e
    cases e
  rw [delH_ne hb] at e
  exact e
theorem delH_upd {g : Addr} {H : Hp} {o : HO} : delH (upd H g o) g = delH H g := by
  funext b
  by_cases hb : b = g
  · rw [hb, delH_same, delH_same]
  · rw [delH_ne hb, delH_ne hb, upd_ne hb]
def N9 : List Str := ["_law_script", "_law_pen_here", "_law_given", "_law_k", "_law_far_here", "_law_row", "_law_e", "_law_fields_here", "_law_many", "_law_j"]
def manys : List V := [.int 1, .int 2, .int 2, .int 1, .int 1, .int 1, .int 2, .int 3, .int 0, .int 1, .int 1, .int 2, .int 0, .int 0]
theorem many_of (a b c : V) : ∀ {i : Nat} {x : V}, manys[i]? = some x → ∃ n : Nat, x = .int (n : Int) ∧ n ≤ 3 ∧ (valsL a b c)[i]? = some ([a, b, c].take n)
  | 0, _, h => ⟨1, by cases h; rfl, by decide, rfl⟩
  | 1, _, h => ⟨2, by cases h; rfl, by decide, rfl⟩
  | 2, _, h => ⟨2, by cases h; rfl, by decide, rfl⟩
  | 3, _, h => ⟨1, by cases h; rfl, by decide, rfl⟩
  | 4, _, h => ⟨1, by cases h; rfl, by decide, rfl⟩
  | 5, _, h => ⟨1, by cases h; rfl, by decide, rfl⟩
  | 6, _, h => ⟨2, by cases h; rfl, by decide, rfl⟩
  | 7, _, h => ⟨3, by cases h; rfl, by decide, rfl⟩
  | 8, _, h => ⟨0, by cases h; rfl, by decide, rfl⟩
  | 9, _, h => ⟨1, by cases h; rfl, by decide, rfl⟩
  | 10, _, h => ⟨1, by cases h; rfl, by decide, rfl⟩
  | 11, _, h => ⟨2, by cases h; rfl, by decide, rfl⟩
  | 12, _, h => ⟨0, by cases h; rfl, by decide, rfl⟩
  | 13, _, h => ⟨0, by cases h; rfl, by decide, rfl⟩
  | i + 14, _, h => by cases h
theorem Rws.get {H : Hp} {r : Addr} {q : List V} : ∀ {k : Nat} {rs : List Addr} {vs : List (List V)}, Rws H rs vs → rs[k]? = some r → vs[k]? = some q → H r = some (.lst q) ∧ r ≠ sysModules
  | _, _, _, .nil, h, _ => by cases h
  | 0, _, _, .cons x _, h1, h2 => by
    cases h1
    cases h2
    exact x
  | k + 1, _, _, .cons _ t, h1, h2 => Rws.get (k := k) t (by simpa using h1) (by simpa using h2)
theorem Rws.length {H : Hp} : ∀ {rs : List Addr} {vs : List (List V)}, Rws H rs vs → rs.length = vs.length
  | _, _, .nil => rfl
  | _, _, .cons _ t => by rw [List.length_cons, List.length_cons, Rws.length t]
theorem DaAll.take {H : Hp} : ∀ (n : Nat) {vs : List V} {ds : List PyData}, DaAll H vs ds → DaAll H (vs.take n) (ds.take n)
  | 0, _, _, _ => .nil
  | _ + 1, _, _, .nil => .nil
  | n + 1, _, _, .cons h t => .cons h (t.take n)
theorem depth_all : ∀ ds : List PyData, (∀ d ∈ ds, d.depth ≤ 8) → PyData.depthAll ds ≤ 8
  | [], _ => by simp [PyData.depthAll]
  | d :: ds, h => by
    have h1 := h d List.mem_cons_self
    have h2 := depth_all ds fun x hx => h x (List.mem_cons_of_mem _ hx)
    simp only [PyData.depthAll]
    omega
section
variable {P : Program} {w : World} {K : PySem.W.Frag} {mg : Str → Option Value} {base : Heap} {C : Nat → Addr}
theorem scLaw : FnScope ["_law_script", "_law_pen_here", "_law_given", "_law_k", "_law_far_here", "_law_row", "_law_e", "_law_fields_here", "_law_many", "_law_j"] ["_law_script"] (defScope sLaw) := ⟨rfl, rfl, rfl, by decide +kernel, rfl, by decide +kernel, by decide +kernel⟩
theorem ok_law {f : Addr} {fd : FuncData} (F : Fun K "law" "law" sLaw f fd) (T : LTxt K mg) (A14 : All14 P w K mg base C) {B : Addr} (mB : mg "BidError" = some (.ref B)) (kB : ∀ k, k < 14 → PySem.W.kitOne K (.ref (C k)) (.ref B) = some true) (kV : ∀ k, k < 14 → PySem.W.kitOne K (.ref (C k)) (.type "ValueError") = some true)
    (fPen : Kn P w K mg base "_law_pen" 1 ["_law_script"] (spPen K)) (fPick : Kn P w K mg base "_law_pick" 2 ["_law_pen_here", "_law_some"] (spPick K)) (fFar : Kn P w K mg base "_law_far" 3 ["_law_pen_here"] spFar)
    (fObjs : Kn P w K mg base "_law_objects" 3 ["_law_a", "_law_b", "_law_c"] (spObjs C)) (fKinds : Kn P w K mg base "_law_kinds" 1 ["_law_e"] (spKinds C)) (fFields : Kn P w K mg base "_law_fields" 1 ["_law_row"] (spFields C)) :
    FnG P w K mg base 4 f fd ["_law_script"] (spLaw K) := by
  refine fnG F scLaw (fun vs H Q E h => ?_) (fun cdv A outer s H vs Q E noG hr h => ?_)
  · obtain ⟨a, ns, rfl, _⟩ := h
    rfl
  · obtain ⟨a, ns, rfl, S, hl, want⟩ := h
    have hu := hu_of hr
    have hr1 : Room 1 _ := hr.mono (by decide)
    have hr2 : Room 2 _ := hr.mono (by decide)
    have hu64 : (A.deeper (envOfC "law" (defScope sLaw) s.heap.objs.size f cdv)).units + 64 < cLine := by have := hr.un; omega
    have hu80 : (A.deeper (envOfC "law" (defScope sLaw) s.heap.objs.size f cdv)).units + 80 < cLine := by have := hr.un; omega
    have hg : (A.deeper (envOfC "law" (defScope sLaw) s.heap.objs.size f cdv)).guards = some [] := noG
    refine ⟨_, pss_cons (ps_set (i := 1) scLaw.nd rfl (.inl rfl) (pe_kn fPen hr1 (pa_cons (pv 0) pa_nil)))
      (pss_cons (ps_set (i := 2) scLaw.nd rfl (.inl rfl) (pe_lstM pa_nil))
      (pss_cons (ps_for PassesOwn.never rfl (pi_range1 rfl T.range (pa_cons pe_int pa_nil)) (pg_name (i := 3) scLaw.nd rfl (.inr rfl))
        (pss_cons (ps_set (i := 4) scLaw.nd rfl (.inl rfl) (pe_kn fFar hr (pa_cons (pv 1) pa_nil)))
        (pss_one (ps_expr (pe_bm PySem.F.plainAttrs_list PySem.F.slot_list_append PySem.F.type_list_append mt_append (pv 2) (pa_cons (pe_kn fPick hr2 (pa_cons (pv 1) (pa_cons
          (pe_lst (pa_cons (pv 4) (pa_cons (pe_un un_neg (pv 4)) (pa_cons (pe_op op_add_str pe_str (pe_callTy call_str_int (by rfl) T.str bStr (pa_cons (pv 4) pa_nil))) (pa_cons pe_non (pa_cons (pe_tup (pa_cons (pv 4) (pa_cons pe_str pa_nil)))
            (pa_cons (pe_lstM (pa_cons (pv 4) (pa_cons pe_non pa_nil))) (pa_cons pe_bl (pa_cons pe_str (pa_cons (pe_disp (pps_cons pe_str (pv 4) pps_nil) rfl rfl (by intro z; cases z) (by decide)) pa_nil))))))))))
          pa_nil))) pa_nil))))))
      (pss_cons (ps_set (i := 5) scLaw.nd rfl (.inl rfl) (pe_kn fObjs hr (pa_cons (pe_ix ix_list (pv 2) pe_int (fun _ _ => rfl)) (pa_cons (pe_ix ix_list (pv 2) pe_int (fun _ _ => rfl)) (pa_cons (pe_ix ix_list (pv 2) pe_int (fun _ _ => rfl)) pa_nil)))))
      (pss_cons (ps_for PassesOwn.never rfl (pi_enum rfl T.enum (pa_cons (pv 5) pa_nil)) (pg_tup rfl (pgs_cons (pg_name (i := 3) scLaw.nd rfl (.inr rfl)) (pgs_cons (pg_name (i := 6) scLaw.nd rfl (.inl rfl)) pgs_nil)))
        (pss_cons (ps_if (PW.pt (pw_or (pt_not (pt_val (pe_callB call_isx (by rfl) T.isi bIsi (pa_cons (pv 6) (pa_cons (pe_glob (v := .ref B) rfl mB rfl) pa_nil)))))
            (pw_or1 (pt_not (pt_val (pe_callB call_isx (by rfl) T.isi bIsi (pa_cons (pv 6) (pa_cons (pe_bltn (v := .ty "ValueError") rfl T.ve bVE rfl) pa_nil)))))))) (pss_one (ps_ret pe_bl)) pss_nil)
        (pss_one (ps_if (pt_cmpR (op_neD hu64) (pe_kn fKinds hr1 (pa_cons (pv 6) pa_nil))
            (pe_lc (own := [("_law_j", 9)]) (g := gName 9) (tt := tYes) rfl scLaw.nd (pi_range1 rfl T.range (pa_cons (pe_callB call_len_seq (by rfl) T.p.len PySem.boot_len (pa_cons (pv 5) pa_nil)) pa_nil)) (blkOk_by (N := N9) (sc := defScope sLaw) (by decide +kernel))
              (fun _ _ _ _ _ => pg_name (i := 9) scLaw.nd rfl (.inl rfl)) (fun _ _ _ _ _ => pts_nil) (fun _ _ _ _ _ => pe_cmpR op_eq (pv 9) (pv 3) (nomark _))) (nomark _)) (pss_one (ps_ret pe_bl)) pss_nil))))
      (pss_cons (ps_for PassesOwn.never rfl (pi_zip rfl T.zip (pa_cons (pe_kn fFields hr1 (pa_cons (pv 5) pa_nil)) (pa_cons (pe_lst (pa_cons pe_int (pa_cons pe_int (pa_cons pe_int (pa_cons pe_int (pa_cons pe_int (pa_cons pe_int (pa_cons pe_int (pa_cons pe_int (pa_cons pe_int (pa_cons pe_int (pa_cons pe_int (pa_cons pe_int (pa_cons pe_int (pa_cons pe_int pa_nil))))))))))))))) pa_nil)))
          (pg_tup rfl (pgs_cons (pg_name (i := 7) scLaw.nd rfl (.inl rfl)) (pgs_cons (pg_name (i := 8) scLaw.nd rfl (.inl rfl)) pgs_nil)))
        (pss_one (ps_if (pt_cmpR op_ne (pe_callB (call_repr hg hu80) (by rfl) T.repr bRepr (pa_cons (pv 7) pa_nil)) (pe_callB (call_repr hg hu80) (by rfl) T.repr bRepr (pa_cons (pe_slice sl_listM (pv 2) po_none (po_some (pv 8))) pa_nil)) (nomark _)) (pss_one (ps_ret pe_bl)) pss_nil)))
      (pss_one (ps_ret pe_bl))))))), ?_⟩
    refine ⟨_, rfl, a, ns, rfl, S, hl, fun p l0 H1 P1 np nl0 S1 => ?_⟩
    refine ⟨Nat.zero_le _, fun g ng gm => ?_⟩
    have pg : p ≠ g := fun z => by
      obtain ⟨_, _, _, _, I⟩ := P1
      rw [← z, I.obj] at ng
      cases ng
    have lg : l0 ≠ g := fun z => by
      obtain ⟨_, _, _, _, I⟩ := P1
      rw [← z, I.cel] at ng
      cases ng
    refine ⟨3, rfl, by decide, by decide, for_range (n := 3) (fun i σ H' => ∃ (c : Int) (vs : List V) (v3 v4 : Option V), σ = [some (.ref a), some (.ref p), some (.ref g), v3, v4, none, none, none, none, none] ∧ PenAt H' p l0 c ∧ c ≤ 20 * i ∧ H' g = some (.lst vs) ∧ vs.length = i ∧ ∀ v ∈ vs, Gd (delH H' g) v)
      ⟨0, [], none, none, rfl, P1.new ng, by decide, upd_same, rfl, fun v hv => absurd hv List.not_mem_nil⟩ ?_ ?_⟩
    · rintro i σ H2 hi ⟨c, vs, v3, v4, rfl, P2, hc, G2, lv, gd⟩
      have gp : g ≠ p := pg.symm
      refine ⟨_, rfl, p, l0, c, rfl, P2, by omega, fun r c' H3 c1 c2 r0 r1 P3 K3 => ?_⟩
      have G3 := K3 g _ gp G2
      have st3 : Stay (delH H2 g) (delH H3 g) := delH_stay (K3.stay P2)
      refine ⟨_, rfl, .inl ⟨rfl, _, SqL.of G3⟩, _, rfl, _, rfl, _, rfl, _, rfl, _, rfl, _, rfl, small_log r0 r1, _, _, rfl, rfl, ?_, ?_⟩
      · have h1 := int_len r0 r1
        have h2 : (("x" : Str)).length = 1 := rfl
        rw [sizeLine_eq]
        omega
      refine ⟨_, rfl, (by show 2 ≤ sizeLine; rw [sizeLine_eq]; decide), fun t nt => ?_⟩
      refine ⟨_, rfl, (by show 2 ≤ sizeLine; rw [sizeLine_eq]; decide), fun m nm mm => ?_⟩
      intro q nq
      refine ⟨_, rfl, upd_same, [(.inr "a", .int r)], rfl, (by show 1 ≤ 15; decide), (by show 9 ≤ sizeLine; rw [sizeLine_eq]; decide), fun L nL => ?_⟩
      have em : mergeK [] [((.inr "a" : Key), V.int r)] = [(.inr "a", V.int r)] := by kernel_rfl
      rw [em] at nL ⊢
      have ntm : t ≠ m := fun z => by
        rw [← z, upd_same] at nm
        cases nm
      have ntq : t ≠ q := fun z => by
        rw [← z, upd_ne ntm, upd_same] at nq
        cases nq
      have nmq : m ≠ q := fun z => by
        rw [← z, upd_same] at nq
        cases nq
      have st4 : Stay (delH H2 g) (delH (upd (upd (upd (upd H3 t (.tup [V.int r, V.str "a"])) m (.lst [V.int r, V.non])) q (.dK [])) q (.dK [(.inr "a", V.int r)])) g) := by
        refine st3.trans (delH_stay ?_)
        have n3q : H3 q = none := by
          rw [upd_ne nmq.symm, upd_ne ntq.symm] at nq
          exact nq
        have n3m : H3 m = none := by
          rw [upd_ne ntm.symm] at nm
          exact nm
        intro b o e _
        rw [upd_ne (ne_of_none e n3q), upd_ne (ne_of_none e n3q), upd_ne (ne_of_none e n3m), upd_ne (ne_of_none e nt)]
        exact e
      have n3q : H3 q = none := by
        rw [upd_ne nmq.symm, upd_ne ntq.symm] at nq
        exact nq
      have n3m : H3 m = none := by
        rw [upd_ne ntm.symm] at nm
        exact nm
      have P4 : PenAt (upd (upd (upd (upd H3 t (.tup [V.int r, V.str "a"])) m (.lst [V.int r, V.non])) q (.dK [])) q (.dK [(.inr "a", V.int r)])) p l0 c' := by
        have z := ((P3.new nt (o := .tup [V.int r, V.str "a"])).new nm (o := .lst [V.int r, V.non])).new nq (o := .dK [(.inr "a", V.int r)])
        rw [show upd (upd (upd (upd H3 t (.tup [V.int r, V.str "a"])) m (.lst [V.int r, V.non])) q (.dK [])) q (.dK [(.inr "a", V.int r)]) = upd (upd (upd H3 t (.tup [V.int r, V.str "a"])) m (.lst [V.int r, V.non])) q (.dK [(.inr "a", V.int r)]) from ?_]
        · exact z
        · funext b
          by_cases hb : b = q
          · rw [hb, upd_same, upd_same]
          · rw [upd_ne hb, upd_ne hb, upd_ne hb]
      have G4 : (upd (upd (upd (upd H3 t (.tup [V.int r, V.str "a"])) m (.lst [V.int r, V.non])) q (.dK [])) q (.dK [(.inr "a", V.int r)])) g = some (.lst vs) := by
        rw [upd_ne (ne_of_none G3 n3q), upd_ne (ne_of_none G3 n3q), upd_ne (ne_of_none G3 n3m), upd_ne (ne_of_none G3 nt)]
        exact G3
      have T4 : (upd (upd (upd (upd H3 t (.tup [V.int r, V.str "a"])) m (.lst [V.int r, V.non])) q (.dK [])) q (.dK [(.inr "a", V.int r)])) t = some (.tup [V.int r, V.str "a"]) := by
        rw [upd_ne ntq, upd_ne ntq, upd_ne ntm, upd_same]
      have M4 : (upd (upd (upd (upd H3 t (.tup [V.int r, V.str "a"])) m (.lst [V.int r, V.non])) q (.dK [])) q (.dK [(.inr "a", V.int r)])) m = some (.lst [V.int r, V.non]) := by
        rw [upd_ne nmq, upd_ne nmq, upd_same]
      have Q4 : (upd (upd (upd (upd H3 t (.tup [V.int r, V.str "a"])) m (.lst [V.int r, V.non])) q (.dK [])) q (.dK [(.inr "a", V.int r)])) q = some (.dK [(.inr "a", V.int r)]) := upd_same
      generalize (upd (upd (upd (upd H3 t (.tup [V.int r, V.str "a"])) m (.lst [V.int r, V.non])) q (.dK [])) q (.dK [(.inr "a", V.int r)])) = H4 at st4 P4 G4 T4 M4 Q4 nL ⊢
      have gt : t ≠ g := ne_of_none G3 nt |>.symm
      have gm' : m ≠ g := ne_of_none G3 n3m |>.symm
      have gq : q ≠ g := ne_of_none G3 n3q |>.symm
      refine ⟨p, l0, L, c', _, rfl, P4.new nL, .inl (.inl upd_same), (by show 0 < 9; decide), (by show 9 < 1000000; decide), by omega, fun x H5 hx P5 K5 => ?_⟩
      have K45 : Keep p H4 H5 := (Keep.refl.new nL).trans K5
      have G5 := K45 g _ gp G4
      have st5 : Stay (delH H4 g) (delH H5 g) := delH_stay (K45.stay P4)
      have gx : Gd (delH H5 g) x := by
        refine Gd.stay st5 ?_
        simp only [List.mem_cons, List.not_mem_nil, or_false] at hx
        rcases hx with rfl | rfl | rfl | rfl | rfl | rfl | rfl | rfl | rfl
        · exact gd_int r0 r1
        · exact gd_int (by omega) (by omega)
        · refine gd_str ?_ ?_
          · rw [strLen_append]
            have h1 := int_len r0 r1
            have h2 : (("x" : Str)).length = 1 := rfl
            omega
          · intro cc hcc
            have e : (("x" : Str) ++ Str.ofString (toString r)).cps.toList = ("x" : Str).cps.toList ++ (Str.ofString (toString r)).cps.toList := Array.toList_append
            rw [e] at hcc
            rcases List.mem_append.mp hcc with z | z
            · exact codes_small "x" cc z
            · exact codes_small _ cc z
        · exact gd_non
        · exact gd_tup r0 r1 (by rw [delH_ne gt]; exact T4)
        · exact gd_lst r0 r1 (by rw [delH_ne gm']; exact M4) mm
        · exact gd_bl true
        · exact gd_str (by decide +kernel) (codes_small "")
        · exact gd_dic r0 r1 (by rw [delH_ne gq]; exact Q4)
      refine ⟨g, vs, x, rfl, rfl, G5, by rw [lv, sizeLine_eq]; omega, ?_⟩
      refine ⟨c' + 1, vs ++ [x], _, _, rfl, ?_, by omega, upd_same, by rw [List.length_append, lv]; rfl, fun v hv => ?_⟩
      · obtain ⟨ns', a', d', f', I⟩ := P5
        exact ⟨ns', a', d', f', by rw [upd_ne pg]; exact I.obj, by rw [upd_ne lg]; exact I.cel, I.len, I.a0, I.d0, I.c0, I.f0, I.f1⟩
      · rw [delH_upd]
        rcases List.mem_append.mp hv with z | z
        · exact Gd.stay (st4.trans st5) (gd v z)
        · rw [List.mem_singleton] at z
          rw [z]
          exact gx
    · rintro σ H2 ⟨c, vs, v3, v4, rfl, P2, hc, G2, lv, gd⟩
      obtain ⟨x0, x1, x2, rfl⟩ : ∃ x0 x1 x2, vs = [x0, x1, x2] := by
        match vs, lv with
        | [x0, x1, x2], _ => exact ⟨_, _, _, rfl⟩
      refine ⟨_, rfl, g, _, _, x0, rfl, rfl, SqL.of G2, atI_nat (j := 0) rfl, _, rfl, g, _, _, x1, rfl, rfl, SqL.of G2, atI_nat (j := 1) rfl, _, rfl, g, _, _, x2, rfl, rfl, SqL.of G2, atI_nat (j := 2) rfl, x0, x1, x2, rfl, fun l es H3 L3 O3 S3 => ?_⟩
      have le : es.length = 14 := O3.len
      refine ⟨_, rfl, l, es.map V.ref, rfl, SqL.of L3, for_enumL (K := K) (a := l) (xs := es.map V.ref) (fun i σ H' => ∃ (v3 v4 v6 : Option V), σ = [some (.ref a), some (.ref p), some (.ref g), v3, v4, some (.ref l), v6, none, none, none] ∧ Same H3 H')
        ⟨_, _, _, rfl, L2.Same.refl H3⟩ (fun i σ H' ⟨_, _, _, _, S4⟩ => SqL.of (S4 _ _ L3)) ?_ ?_⟩
      · rintro i x T σ H4 hx ⟨w3, w4, w6, rfl, S4⟩ nT
        rw [List.getElem?_map] at hx
        obtain ⟨e, he, rfl⟩ := Option.map_eq_some_iff.mp hx
        have hi : i < 14 := by
          have z := (List.getElem?_eq_some_iff.mp he).1
          omega
        obtain ⟨fs, hs⟩ : ∃ fs, (specs C x0 x1 x2)[i]? = some (C i, fs) := by
          match i, hi with
          | 0, _ => exact ⟨_, rfl⟩
          | 1, _ => exact ⟨_, rfl⟩
          | 2, _ => exact ⟨_, rfl⟩
          | 3, _ => exact ⟨_, rfl⟩
          | 4, _ => exact ⟨_, rfl⟩
          | 5, _ => exact ⟨_, rfl⟩
          | 6, _ => exact ⟨_, rfl⟩
          | 7, _ => exact ⟨_, rfl⟩
          | 8, _ => exact ⟨_, rfl⟩
          | 9, _ => exact ⟨_, rfl⟩
          | 10, _ => exact ⟨_, rfl⟩
          | 11, _ => exact ⟨_, rfl⟩
          | 12, _ => exact ⟨_, rfl⟩
          | 13, _ => exact ⟨_, rfl⟩
        have S5 := GG.Same.new S4 nT (o := .tup [.int (i : Nat), .ref e])
        have X5 := (O3.get he hs).same S5
        refine ⟨T, [.int (i : Nat), .ref e], rfl, .inl (.inl upd_same), rfl, _, _, rfl, _, _, rfl, rfl, ?_⟩
        generalize (upd H4 T (.tup [.int (i : Nat), .ref e])) = H5 at S5 X5 ⊢
        have ti := A14.tt i hi
        refine ⟨_, rfl, e, C i, fs, .ref B, .ref B, true, rfl, ti, X5, ClsV.own _, kB i hi, _, rfl, ?_⟩
        refine iteF ?_
        refine ⟨_, rfl, e, C i, fs, .ty "ValueError", .type "ValueError", true, rfl, ti, X5, ClsV.ty _, kV i hi, _, rfl, ?_⟩
        refine iteF ?_
        refine ⟨_, rfl, e, i, fs, rfl, hi, X5, fun k H6 K6 S6 => ?_⟩
        have L6 : H6 l = some (.lst (es.map V.ref)) := S6 _ _ (S5 _ _ L3)
        refine ⟨_, rfl, l, _, rfl, .inl (SqL.of L6), 14, by rw [List.length_map, le]; rfl, by decide, by decide, fun D nD => ?_⟩
        refine lc_range (lo := 0) (n := 14) (fun j H' => Same H6 H' ∧ H' D = some (.lst ((List.range j).map fun (j : Nat) => V.bl (decide (V.int (0 + (j : Int)) = V.int (i : Int)))))) ⟨GG.Same.new (L2.Same.refl H6) nD, upd_same⟩ ?_ ?_
        · rintro j H7 hj ⟨S7, D7⟩
          refine ⟨rfl, ?_⟩
          refine ⟨_, rfl, _, rfl, rfl, _, D7, by rw [List.length_map, List.length_range, sizeLine_eq]; omega, ?_⟩
          refine ⟨fun b o z => ?_, ?_⟩
          · rw [upd_ne (ne_of_none z nD)]
            exact S7 b o z
          · rw [upd_same, List.range_succ, List.map_append]
            all_goals rfl
        · rintro H7 ⟨S7, D7⟩
          have ek : kindsL i = ((List.range 14).map fun (j : Nat) => decide (j = i)).map V.bl := rfl
          have ej : ((List.range 14).map fun (j : Nat) => V.bl (decide (V.int (0 + (j : Int)) = V.int (i : Int)))) = ((List.range 14).map fun (j : Nat) => decide (j = i)).map V.bl := by
            rw [List.map_map]
            refine List.map_congr_left fun j _ => ?_
            show V.bl _ = V.bl _
            congr 1
            show decide (V.int (0 + (j : Int)) = V.int (i : Int)) = decide (j = i)
            refine decide_eq_decide.mpr ⟨fun z => ?_, fun z => ?_⟩
            · have := V.int.inj z
              omega
            · rw [z, Int.zero_add]
          have K7 := S7 _ _ K6
          rw [ek] at K7
          rw [ej] at D7
          refine ⟨.list (((List.range 14).map fun (j : Nat) => decide (j = i)).map PyData.bool), .list (((List.range 14).map fun (j : Nat) => decide (j = i)).map PyData.bool), .lst (SqL.of K7) (bools_dp K H7 _), .lst (SqL.of D7) (bools_dp K H7 _), bools_shaped _, bools_shaped _, _, rfl, ?_⟩
          rw [bools_eqv]
          refine iteF ?_
          exact ⟨_, _, _, rfl, L2.Same.trans S5 (L2.Same.trans S6 S7)⟩
      · rintro σ H4 ⟨w3, w4, w6, rfl, S4⟩
        refine ⟨_, rfl, l, es, x0, x1, x2, rfl, S4 _ _ L3, O3.same S4, fun m rs H5 M5 R5 S5 => ?_⟩
        refine ⟨(by show 14 ≤ sizeLine; rw [sizeLine_eq]; decide), fun y ny => ?_⟩
        have S6 := GG.Same.new (L2.Same.refl H5) ny (o := .lst manys)
        have M6 := S6 _ _ M5
        have R6 := R5.same S6
        have Y6 : (upd H5 y (.lst manys)) y = some (.lst manys) := upd_same
        have S26 : Same H2 (upd H5 y (.lst manys)) := L2.Same.trans S3 (L2.Same.trans S4 (L2.Same.trans S5 S6))
        have G6 := S26 _ _ G2
        have gd6 : ∀ v ∈ [x0, x1, x2], Gd (upd H5 y (.lst manys)) v := fun v hv => ((gd v hv).stay delH_sub).stay (Same.stay S26)
        refine ⟨m, y, rs.map V.ref, manys, rfl, SqL.of M6, SqL.of Y6, ?_⟩
        change ∃ W : Nat → Nat → L2.St → Hp → Prop, (∃ m, W 0 m _ (upd H5 y (.lst manys))) ∧ _
        generalize (upd H5 y (.lst manys)) = H6 at S6 M6 R6 Y6 S26 G6 gd6
        have lr : rs.length = 14 := R6.length
        refine RZ.for_zipL (K := K) (a := m) (b := y) (xs := rs.map V.ref) (ys := manys) (by rw [List.length_map, lr]; rfl) (fun i σ H' => ∃ (v7 v8 : Option V), σ = [some (.ref a), some (.ref p), some (.ref g), w3, w4, some (.ref l), w6, v7, v8, none] ∧ Same H6 H') ⟨_, _, rfl, L2.Same.refl H6⟩
          (fun i σ H' ⟨_, _, _, S7⟩ => ⟨SqL.of (S7 _ _ M6), SqL.of (S7 _ _ Y6)⟩) ?_ ?_
        · rintro i xx yy T σ H7 hx hy ⟨w7, w8, rfl, S7⟩ nT
          rw [List.getElem?_map] at hx
          obtain ⟨r, hr', rfl⟩ := Option.map_eq_some_iff.mp hx
          obtain ⟨n, rfl, n3, hq⟩ := many_of x0 x1 x2 hy
          have S8 := GG.Same.new S7 nT (o := .tup [.ref r, .int (n : Nat)])
          obtain ⟨rq, rne⟩ := R6.get hr' hq
          refine ⟨T, [.ref r, .int (n : Nat)], rfl, .inl (.inl upd_same), rfl, _, _, rfl, _, _, rfl, rfl, ?_⟩
          generalize (upd H7 T (.tup [.ref r, .int (n : Nat)])) = H8 at S8 ⊢
          have r8 := S8 _ _ rq
          have g8 := S8 _ _ G6
          obtain ⟨d0, a0, s0, p0, z0⟩ := (gd6 x0 (by simp)).stay (Same.stay S8)
          obtain ⟨d1, a1, s1, p1, z1⟩ := (gd6 x1 (by simp)).stay (Same.stay S8)
          obtain ⟨d2, a2, s2, p2, z2⟩ := (gd6 x2 (by simp)).stay (Same.stay S8)
          have all3 : DaAll H8 [x0, x1, x2] [d0, d1, d2] := .cons a0 (.cons a1 (.cons a2 .nil))
          have pr : ∀ d ∈ [d0, d1, d2].take n, d.showable = true ∧ d.depth ≤ 8 ∧ d.shown.length ≤ 400 := fun d hd => by
            have hd := List.mem_of_mem_take hd
            simp only [List.mem_cons, List.not_mem_nil, or_false] at hd
            rcases hd with rfl | rfl | rfl
            · exact ⟨s0, p0, z0⟩
            · exact ⟨s1, p1, z1⟩
            · exact ⟨s2, p2, z2⟩
          have hs : (PyData.list ([d0, d1, d2].take n)).showable = true := by
            simp only [PyData.showable]
            exact showableAll_of fun d hd => (pr d hd).1
          have hdp : (PyData.list ([d0, d1, d2].take n)).depth ≤ 60 := by
            have := depth_all _ fun d hd => (pr d hd).2.1
            simp only [PyData.depth]
            omega
          have hln : (PyData.list ([d0, d1, d2].take n)).shown.length ≤ sizeLine := by
            have q1 := list_len ([d0, d1, d2].take n) 400 fun d hd => (pr d hd).2.2
            have q2 : ([d0, d1, d2].take n).length ≤ 3 := List.length_take_le' ..
            have q3 : (400 + 2) * ([d0, d1, d2].take n).length ≤ 402 * 3 := Nat.mul_le_mul_left _ q2
            rw [sizeLine_eq]
            omega
          refine ⟨_, rfl, r, _, rfl, (Da.lst r8 rne (all3.take n)).dt, hs, hdp, hln, ?_⟩
          refine ⟨_, rfl, _, rfl, _, rfl, g, _, rfl, SqL.of g8, fun z nz ze => ?_⟩
          have S9 := GG.Same.new (L2.Same.refl H8) nz (o := .lst (cutV [x0, x1, x2] none (some (n : Int))))
          have cut : cutV [x0, x1, x2] none (some (n : Int)) = [x0, x1, x2].take n := by
            match n, n3 with
            | 0, _ => rfl
            | 1, _ => rfl
            | 2, _ => rfl
            | 3, _ => rfl
          refine ⟨z, _, rfl, (Da.lst (by rw [upd_same, cut]) ze ((all3.take n).stay (Same.stay S9))).dt, hs, hdp, hln, rfl, _, rfl, ?_⟩
          rw [decide_eq_true rfl]
          refine iteF ?_
          exact ⟨_, _, rfl, L2.Same.trans S8 S9⟩
        · rintro σ H7 ⟨w7, w8, rfl, S7⟩
          exact want H7
end
end GG

namespace GG
open PySem PySem.Spec PyProof.Rows L2
theorem def_mk {K : PySem.W.Frag} {h : Heap} {mg : Str → Option Value} (X : K.In h) (G : h.Ns mainGlobals mg) {x : Str} {st : Stmt} {f : Addr} {od an : Option Addr} {sl : Array (Option Value)} {oc kV dc pm cd ct : Value}
    (a : PySem.W.nsIn K mainGlobals x = some (some (.ref f))) (l : K.lookup f = some ⟨oc, od, .func (PySem.W.fnOf x x (defArgs st) (defBody st) (defScope st) .none kV dc pm an cd ct), sl⟩) (c : PySem.W.codeIn K cd x = true) (k : PySem.W.keepIn K (.ref f) = true) : DefIs K mg x st :=
  ⟨f, _, fun_mk (st := st) l c k, PySem.W.mg_of X G a⟩
/-- what the kernel reckons of the classes -/
def kit14 (K : PySem.W.Frag) (cs : List Addr) (B : Addr) : Bool := cs.zipIdx.all fun p => (cs.zipIdx.all fun q => decide (PySem.W.kitOne K (.ref p.1) (.ref q.1) = some (decide (q.2 = p.2)))) && (decide (PySem.W.kitOne K (.ref p.1) (.ref B) = some true) && decide (PySem.W.kitOne K (.ref p.1) (.type "ValueError") = some true))
theorem kit14_ok {K : PySem.W.Frag} {cs : List Addr} {B : Addr} (n : cs.length = 14) (h : kit14 K cs B = true) :
    (∀ k, k < 14 → ∀ j, j < 14 → PySem.W.kitOne K (.ref (cs.getD k 0)) (.ref (cs.getD j 0)) = some (decide (j = k))) ∧ (∀ k, k < 14 → PySem.W.kitOne K (.ref (cs.getD k 0)) (.ref B) = some true) ∧ ∀ k, k < 14 → PySem.W.kitOne K (.ref (cs.getD k 0)) (.type "ValueError") = some true := by
  have mem : ∀ k, k < 14 → (cs.getD k 0, k) ∈ cs.zipIdx := fun k hk => by
    rw [List.mk_mem_zipIdx_iff_getElem?]
    have hk' : k < cs.length := by omega
    simp [List.getD, List.getElem?_eq_getElem hk']
  have z : ∀ k, k < 14 → _ := fun k hk => List.all_eq_true.mp h _ (mem k hk)
  refine ⟨fun k hk j hj => ?_, fun k hk => ?_, fun k hk => ?_⟩
  · have z1 := (Bool.and_eq_true_iff.mp (z k hk)).1
    exact of_decide_eq_true (List.all_eq_true.mp z1 _ (mem j hj))
  · exact of_decide_eq_true (Bool.and_eq_true_iff.mp (Bool.and_eq_true_iff.mp (z k hk)).2).1
  · exact of_decide_eq_true (Bool.and_eq_true_iff.mp (Bool.and_eq_true_iff.mp (z k hk)).2).2
def noAttrs (K : PySem.W.Frag) (C : Addr) (names : List Str) : Bool := names.all fun f => decide (PySem.W.findIn K (.ref C) f = some none)
theorem noAttrs_ok {K : PySem.W.Frag} {C : Addr} {names : List Str} (h : noAttrs K C names = true) : ∀ f ∈ names, PySem.W.findIn K (.ref C) f = some none := fun f hf => of_decide_eq_true (List.all_eq_true.mp h f hf)
theorem ext_mk {K : PySem.W.Frag} {C : Addr} {nm q : Str} {N : Addr} {bs bm : List Value} {sn : List Str} {sub : List Value} {ab : Bool} {col : Option Bool} {dd : Option Addr} {k0 k1 k2 k3 k5 : Option Value}
    (l : K.lookup C = some (excClassObj nm q C N bs bm true sn sub ab col dd k0 k1 k2 k3 k5 "ValueError.__new__")) (r : PySem.HandSPX.refsVE bm = true) (sa : PySem.W.findIn K (.ref C) "__setattr__" = some (some (.builtin "object.__setattr__")))
    (ex : PySem.W.subIn K (.ref C) (.type "BaseException") = some true) (ty : PySem.W.typeIn K (.ref C) = some (.type "type")) (kp : PySem.W.keepIn K (.ref C) = true) (ga : PySem.W.findIn K (.ref C) "__getattribute__" = some (some (.builtin "BaseException.__getattribute__")))
    (gg : PySem.W.findIn K (.ref C) "__getattr__" = some none) (hd : PySem.W.hasDictIn K C = true) (cl : PySem.W.findIn K (.ref C) "__class__" = some (some (.builtin "object.__class__"))) (mo : PySem.W.mroIn K C (.type "object") = some true)
    (oc : PySem.W.specialIn K (.builtin "object.__class__") "__get__" = some (some (.builtin "getset_descriptor.__get__"))) (ot : PySem.W.takesIn K (.builtin "object.__class__") = some true) : ExT K C :=
  ⟨⟨⟨nm, q, N, bs, bm, sn, sub, ab, col, dd, k0, k1, k2, k3, k5, l, r⟩, sa, ex, ty, kp⟩, ga, gg, hd, cl, mo, oc, ot⟩
theorem clsF_mk {K : PySem.W.Frag} {h : Heap} {mg : Str → Option Value} (X : K.In h) (G : h.Ns mainGlobals mg) {x qual : Str} {C : Addr} {names : List Str} {st : Stmt} {f : Addr} {od an : Option Addr} {sl : Array (Option Value)} {oc kV dc pm cd ct : Value}
    (a : PySem.W.nsIn K mainGlobals x = some (some (.ref C))) (t : ExT K C) (na : noAttrs K C names = true) (i : PySem.W.findIn K (.ref C) "__init__" = some (some (.ref f))) (ti : PySem.W.typeIn K (.ref f) = some (.type "function"))
    (l : K.lookup f = some ⟨oc, od, .func (PySem.W.fnOf "__init__" qual (defArgs st) (defBody st) (defScope st) .none kV dc pm an cd ct), sl⟩) (c : PySem.W.codeIn K cd qual = true) (k : PySem.W.keepIn K (.ref f) = true) : ClsF K mg x qual C names st :=
  ⟨PySem.W.mg_of X G a, t, noAttrs_ok na, f, _, i, ti, fun_mk (st := st) l c k⟩
theorem clsE_mk {K : PySem.W.Frag} {h : Heap} {mg : Str → Option Value} (X : K.In h) (G : h.Ns mainGlobals mg) {x : Str} {C : Addr}
    (a : PySem.W.nsIn K mainGlobals x = some (some (.ref C))) (t : ExT K C) (e : PySem.W.excIn K C [.type "ValueError", .type "Exception", .type "BaseException", .type "object"] "ValueError.__new__" = true) : ClsE K mg x C :=
  ⟨PySem.W.mg_of X G a, t, e⟩

theorem all_mk {l : PySem.W.OpenLaw} {w : World} {K : PySem.W.Frag} {h : Heap} {mg : Str → Option Value} {fa : Addr} (X : K.In h) (G : h.Ns mainGlobals mg) (hfa : mg "law" = some (.ref fa)) {C0 C1 C2 C3 C4 C5 C6 C7 C8 C9 C10 C11 C12 C13 B f24 : Addr}
    {od an : Option Addr} {sl : Array (Option Value)} {oc kV dc pm cd ct : Value}
    (F0 : ClsF K mg "BadText" "BadText.__init__" C0 ["column"] sI0)
    (F1 : ClsF K mg "BadLine" "BadLine.__init__" C1 ["line", "column"] sI1)
    (F2 : ClsF K mg "BadNumber" "BadNumber.__init__" C2 ["what", "number"] sI2)
    (F3 : ClsF K mg "BadRow" "BadRow.__init__" C3 ["row"] sI3)
    (F4 : ClsF K mg "BadName" "BadName.__init__" C4 ["name"] sI4)
    (F5 : ClsF K mg "Unlike" "Unlike.__init__" C5 ["what"] sI5)
    (F6 : ClsF K mg "TooMany" "TooMany.__init__" C6 ["what", "limit"] sI6)
    (F7 : ClsF K mg "TooLarge" "TooLarge.__init__" C7 ["what", "number", "limit"] sI7)
    (F8 : ClsE K mg "NoBuyer" C8)
    (F9 : ClsF K mg "NoName" "NoName.__init__" C9 ["name"] sI9)
    (F10 : ClsF K mg "TakenName" "TakenName.__init__" C10 ["name"] sI10)
    (F11 : ClsF K mg "NotKept" "NotKept.__init__" C11 ["promise", "witness"] sI11)
    (F12 : ClsE K mg "NothingToUndo" C12)
    (F13 : ClsE K mg "NothingToRedo" C13)
    (aB : PySem.W.nsIn K mainGlobals "BidError" = some (some (.ref B))) (kit : kit14 K [C0, C1, C2, C3, C4, C5, C6, C7, C8, C9, C10, C11, C12, C13] B = true)
    (d17 : DefIs K mg "_law_pen" sPen) (d18 : DefIs K mg "_law_draw" sDraw) (d19 : DefIs K mg "_law_pick" sPick) (d20 : DefIs K mg "_law_far" sFar) (d21 : DefIs K mg "_law_kinds" sKinds) (d22 : DefIs K mg "_law_objects" sObjs) (d23 : DefIs K mg "_law_fields" sFields)
    (a24 : PySem.W.nsIn K mainGlobals "law" = some (some (.ref f24))) (l24 : K.lookup f24 = some ⟨oc, od, .func (PySem.W.fnOf "law" "law" (defArgs sLaw) (defBody sLaw) (defScope sLaw) .none kV dc pm an cd ct), sl⟩) (c24 : PySem.W.codeIn K cd "law" = true) (k24 : PySem.W.keepIn K (.ref f24) = true)
    (z1 : PySem.W.nsIn K mainGlobals "int" = some none) (z2 : PySem.W.nsIn K mainGlobals "list" = some none) (z3 : PySem.W.nsIn K mainGlobals "len" = some none) (z4 : PySem.W.nsIn K mainGlobals "range" = some none) (z5 : PySem.W.nsIn K mainGlobals "str" = some none) (z6 : PySem.W.nsIn K mainGlobals "repr" = some none)
    (z7 : PySem.W.nsIn K mainGlobals "enumerate" = some none) (z8 : PySem.W.nsIn K mainGlobals "zip" = some none) (z9 : PySem.W.nsIn K mainGlobals "isinstance" = some none) (z10 : PySem.W.nsIn K mainGlobals "ValueError" = some none) :
    ∃ fd : FuncData, (∀ (s : Shared) (v : Value), BindsTo s fd ⟨[v], []⟩ [("_law_script", v)]) ∧ ∀ base : Heap, K.In base → base.Ns mainGlobals mg → FnG l.prog w K mg base 4 fa fd ["_law_script"] (spLaw K) := by
  have e := hfa.symm.trans (PySem.W.mg_of X G a24)
  cases e
  obtain ⟨q1, q2, q3⟩ := kit14_ok (cs := [C0, C1, C2, C3, C4, C5, C6, C7, C8, C9, C10, C11, C12, C13]) rfl kit
  have n := fun {x : Str} (z : PySem.W.nsIn K mainGlobals x = some none) => PySem.W.mg_none_of X G z
  have T : LTxt K mg := ⟨⟨n z1, n z2, n z3⟩, n z4, n z5, n z6, n z7, n z8, n z9, n z10⟩
  refine ⟨PySem.W.fnOf "law" "law" (defArgs sLaw) (defBody sLaw) (defScope sLaw) .none kV dc pm an cd ct, fun s v => .of_eq rfl, fun base _ _ => ?_⟩
  have A : All14 l.prog w K mg base (fun k => ([C0, C1, C2, C3, C4, C5, C6, C7, C8, C9, C10, C11, C12, C13] : List Addr).getD k 0) := ⟨n z9, q1, cv0 F0, cv1 F1, cv2 F2, cv3 F3, cv4 F4, cv5 F5, cv6 F6, cv7 F7, F8, cv9 F9, cv10 F10, cv11 F11, F12, F13⟩
  have b1 : Kn l.prog w K mg base "_law_draw" 1 _ _ := kn_draw d18 T.p
  have b2 : Kn l.prog w K mg base "_law_pick" 2 _ _ := kn_pick d19 T.p b1
  have b3 : Kn l.prog w K mg base "_law_far" 3 _ _ := kn_far d20 T.range b1 b2
  exact ok_law (fun_mk (st := sLaw) l24 c24 k24) T A (PySem.W.mg_of X G aB) q2 q3 (kn_pen d17 T.p) b2 b3 (kn_objs d22 A) (kn_kinds d21 A) (kn_fields d23 A)
theorem walkL {l : PySem.W.OpenLaw} {q : Program} {loose : List Str} {XP : (Str → Option Value) → Heap → Prop} {YP : World → Heap → Prop} {d : DefRec} {K : Params → PySem.W.Frag} (hn : l.most = some 63) (dflt : d.params.defaults = []) (inY : ∀ (w : World) (h : Heap), YP w h → (K w.params).In h)
    (F : ∀ (w : World) (mg : Str → Option Value) (fa : Addr) (h : Heap), (K w.params).In h → h.Ns mainGlobals mg → mg d.name = some (.ref fa) →
      ∃ fd : FuncData, (∀ (s : Shared) (u : Value), BindsTo s fd ⟨[u], []⟩ [("_law_script", u)]) ∧ ∀ base : Heap, (K w.params).In base → base.Ns mainGlobals mg → FnG l.prog w (K w.params) mg base 4 fa fd ["_law_script"] (spLaw (K w.params))) :
    PySem.W.WalkO q loose XP YP l.row.toRowW d [] (fun f vs => PySem.call f vs) :=
  walkG (sp := fun w => spLaw (K w.params)) hn (by decide) dflt ⟨rfl, by decide, by decide⟩ inY F fun _ _ a ns hl _ _ hS => ⟨a, ns, rfl, hS, hl, fun _ => rfl⟩
end GG

open PySem PySem.W PyProof.Rows in
set_option maxRecDepth 100000 in
set_option maxHeartbeats 0 in
theorem PySem.Challenge.cw_allbids_k00_errors_holds : PySem.Challenge.rw_allbids_k00_errors.Holds := by
  w_on; o_law; k_head; (case hw => w_witness2)
  k_fill
  refine GG.walkL (l := PySem.Challenge.rw_allbids_k00_errors) rfl rfl (fun w h Y => PySem.W.kIn_of Y) ?F
  case F =>
    intro w mg fa h KX G hmg
    refine' GG.all_mk KX G hmg ?F0 ?F1 ?F2 ?F3 ?F4 ?F5 ?F6 ?F7 ?F8 ?F9 ?F10 ?F11 ?F12 ?F13 ?aB ?kit ?d17 ?d18 ?d19 ?d20 ?d21 ?d22 ?d23 ?a24 ?l24 ?c24 ?k24 ?z1 ?z2 ?z3 ?z4 ?z5 ?z6 ?z7 ?z8 ?z9 ?z10
    case F0 =>
      refine' GG.clsF_mk KX G ?a ?t ?na ?i ?ti ?li ?c ?k
      (case a => k_is)
      (case t => (refine' GG.ext_mk ?l ?r ?sa ?ex ?ty ?kp ?ga ?gg ?hd ?cl ?mo ?oc ?ot; (case l => k_is); (case r => decide +kernel); (case sa => k_is); (case ex => k_is); (case ty => k_is); (case kp => k_is); (case ga => k_is); (case gg => k_is); (case hd => k_is); (case cl => k_is); (case mo => k_is); (case oc => k_is); (case ot => k_is)))
      (case na => kernel_rfl)
      (case i => k_is)
      (case ti => k_is)
      (case li => k_is)
      (case c => k_is)
      (case k => k_is)
    case F1 =>
      refine' GG.clsF_mk KX G ?a ?t ?na ?i ?ti ?li ?c ?k
      (case a => k_is)
      (case t => (refine' GG.ext_mk ?l ?r ?sa ?ex ?ty ?kp ?ga ?gg ?hd ?cl ?mo ?oc ?ot; (case l => k_is); (case r => decide +kernel); (case sa => k_is); (case ex => k_is); (case ty => k_is); (case kp => k_is); (case ga => k_is); (case gg => k_is); (case hd => k_is); (case cl => k_is); (case mo => k_is); (case oc => k_is); (case ot => k_is)))
      (case na => kernel_rfl)
      (case i => k_is)
      (case ti => k_is)
      (case li => k_is)
      (case c => k_is)
      (case k => k_is)
    case F2 =>
      refine' GG.clsF_mk KX G ?a ?t ?na ?i ?ti ?li ?c ?k
      (case a => k_is)
      (case t => (refine' GG.ext_mk ?l ?r ?sa ?ex ?ty ?kp ?ga ?gg ?hd ?cl ?mo ?oc ?ot; (case l => k_is); (case r => decide +kernel); (case sa => k_is); (case ex => k_is); (case ty => k_is); (case kp => k_is); (case ga => k_is); (case gg => k_is); (case hd => k_is); (case cl => k_is); (case mo => k_is); (case oc => k_is); (case ot => k_is)))
      (case na => kernel_rfl)
      (case i => k_is)
      (case ti => k_is)
      (case li => k_is)
      (case c => k_is)
      (case k => k_is)
    case F3 =>
      refine' GG.clsF_mk KX G ?a ?t ?na ?i ?ti ?li ?c ?k
      (case a => k_is)
      (case t => (refine' GG.ext_mk ?l ?r ?sa ?ex ?ty ?kp ?ga ?gg ?hd ?cl ?mo ?oc ?ot; (case l => k_is); (case r => decide +kernel); (case sa => k_is); (case ex => k_is); (case ty => k_is); (case kp => k_is); (case ga => k_is); (case gg => k_is); (case hd => k_is); (case cl => k_is); (case mo => k_is); (case oc => k_is); (case ot => k_is)))
      (case na => kernel_rfl)
      (case i => k_is)
      (case ti => k_is)
      (case li => k_is)
      (case c => k_is)
      (case k => k_is)
    case F4 =>
      refine' GG.clsF_mk KX G ?a ?t ?na ?i ?ti ?li ?c ?k
      (case a => k_is)
      (case t => (refine' GG.ext_mk ?l ?r ?sa ?ex ?ty ?kp ?ga ?gg ?hd ?cl ?mo ?oc ?ot; (case l => k_is); (case r => decide +kernel); (case sa => k_is); (case ex => k_is); (case ty => k_is); (case kp => k_is); (case ga => k_is); (case gg => k_is); (case hd => k_is); (case cl => k_is); (case mo => k_is); (case oc => k_is); (case ot => k_is)))
      (case na => kernel_rfl)
      (case i => k_is)
      (case ti => k_is)
      (case li => k_is)
      (case c => k_is)
      (case k => k_is)
    case F5 =>
      refine' GG.clsF_mk KX G ?a ?t ?na ?i ?ti ?li ?c ?k
      (case a => k_is)
      (case t => (refine' GG.ext_mk ?l ?r ?sa ?ex ?ty ?kp ?ga ?gg ?hd ?cl ?mo ?oc ?ot; (case l => k_is); (case r => decide +kernel); (case sa => k_is); (case ex => k_is); (case ty => k_is); (case kp => k_is); (case ga => k_is); (case gg => k_is); (case hd => k_is); (case cl => k_is); (case mo => k_is); (case oc => k_is); (case ot => k_is)))
      (case na => kernel_rfl)
      (case i => k_is)
      (case ti => k_is)
      (case li => k_is)
      (case c => k_is)
      (case k => k_is)
    case F6 =>
      refine' GG.clsF_mk KX G ?a ?t ?na ?i ?ti ?li ?c ?k
      (case a => k_is)
      (case t => (refine' GG.ext_mk ?l ?r ?sa ?ex ?ty ?kp ?ga ?gg ?hd ?cl ?mo ?oc ?ot; (case l => k_is); (case r => decide +kernel); (case sa => k_is); (case ex => k_is); (case ty => k_is); (case kp => k_is); (case ga => k_is); (case gg => k_is); (case hd => k_is); (case cl => k_is); (case mo => k_is); (case oc => k_is); (case ot => k_is)))
      (case na => kernel_rfl)
      (case i => k_is)
      (case ti => k_is)
      (case li => k_is)
      (case c => k_is)
      (case k => k_is)
    case F7 =>
      refine' GG.clsF_mk KX G ?a ?t ?na ?i ?ti ?li ?c ?k
      (case a => k_is)
      (case t => (refine' GG.ext_mk ?l ?r ?sa ?ex ?ty ?kp ?ga ?gg ?hd ?cl ?mo ?oc ?ot; (case l => k_is); (case r => decide +kernel); (case sa => k_is); (case ex => k_is); (case ty => k_is); (case kp => k_is); (case ga => k_is); (case gg => k_is); (case hd => k_is); (case cl => k_is); (case mo => k_is); (case oc => k_is); (case ot => k_is)))
      (case na => kernel_rfl)
      (case i => k_is)
      (case ti => k_is)
      (case li => k_is)
      (case c => k_is)
      (case k => k_is)
    case F8 =>
      refine' GG.clsE_mk KX G ?a ?t ?e
      (case a => k_is)
      (case t => (refine' GG.ext_mk ?l ?r ?sa ?ex ?ty ?kp ?ga ?gg ?hd ?cl ?mo ?oc ?ot; (case l => k_is); (case r => decide +kernel); (case sa => k_is); (case ex => k_is); (case ty => k_is); (case kp => k_is); (case ga => k_is); (case gg => k_is); (case hd => k_is); (case cl => k_is); (case mo => k_is); (case oc => k_is); (case ot => k_is)))
      (case e => k_exc)
    case F9 =>
      refine' GG.clsF_mk KX G ?a ?t ?na ?i ?ti ?li ?c ?k
      (case a => k_is)
      (case t => (refine' GG.ext_mk ?l ?r ?sa ?ex ?ty ?kp ?ga ?gg ?hd ?cl ?mo ?oc ?ot; (case l => k_is); (case r => decide +kernel); (case sa => k_is); (case ex => k_is); (case ty => k_is); (case kp => k_is); (case ga => k_is); (case gg => k_is); (case hd => k_is); (case cl => k_is); (case mo => k_is); (case oc => k_is); (case ot => k_is)))
      (case na => kernel_rfl)
      (case i => k_is)
      (case ti => k_is)
      (case li => k_is)
      (case c => k_is)
      (case k => k_is)
    case F10 =>
      refine' GG.clsF_mk KX G ?a ?t ?na ?i ?ti ?li ?c ?k
      (case a => k_is)
      (case t => (refine' GG.ext_mk ?l ?r ?sa ?ex ?ty ?kp ?ga ?gg ?hd ?cl ?mo ?oc ?ot; (case l => k_is); (case r => decide +kernel); (case sa => k_is); (case ex => k_is); (case ty => k_is); (case kp => k_is); (case ga => k_is); (case gg => k_is); (case hd => k_is); (case cl => k_is); (case mo => k_is); (case oc => k_is); (case ot => k_is)))
      (case na => kernel_rfl)
      (case i => k_is)
      (case ti => k_is)
      (case li => k_is)
      (case c => k_is)
      (case k => k_is)
    case F11 =>
      refine' GG.clsF_mk KX G ?a ?t ?na ?i ?ti ?li ?c ?k
      (case a => k_is)
      (case t => (refine' GG.ext_mk ?l ?r ?sa ?ex ?ty ?kp ?ga ?gg ?hd ?cl ?mo ?oc ?ot; (case l => k_is); (case r => decide +kernel); (case sa => k_is); (case ex => k_is); (case ty => k_is); (case kp => k_is); (case ga => k_is); (case gg => k_is); (case hd => k_is); (case cl => k_is); (case mo => k_is); (case oc => k_is); (case ot => k_is)))
      (case na => kernel_rfl)
      (case i => k_is)
      (case ti => k_is)
      (case li => k_is)
      (case c => k_is)
      (case k => k_is)
    case F12 =>
      refine' GG.clsE_mk KX G ?a ?t ?e
      (case a => k_is)
      (case t => (refine' GG.ext_mk ?l ?r ?sa ?ex ?ty ?kp ?ga ?gg ?hd ?cl ?mo ?oc ?ot; (case l => k_is); (case r => decide +kernel); (case sa => k_is); (case ex => k_is); (case ty => k_is); (case kp => k_is); (case ga => k_is); (case gg => k_is); (case hd => k_is); (case cl => k_is); (case mo => k_is); (case oc => k_is); (case ot => k_is)))
      (case e => k_exc)
    case F13 =>
      refine' GG.clsE_mk KX G ?a ?t ?e
      (case a => k_is)
      (case t => (refine' GG.ext_mk ?l ?r ?sa ?ex ?ty ?kp ?ga ?gg ?hd ?cl ?mo ?oc ?ot; (case l => k_is); (case r => decide +kernel); (case sa => k_is); (case ex => k_is); (case ty => k_is); (case kp => k_is); (case ga => k_is); (case gg => k_is); (case hd => k_is); (case cl => k_is); (case mo => k_is); (case oc => k_is); (case ot => k_is)))
      (case e => k_exc)
    (case aB => k_is)
    (case kit => kernel_rfl)
    (case d17 => (refine' GG.def_mk KX G ?a ?l ?c ?k; (case a => k_is); (case l => k_is); (case c => k_is); (case k => k_is)))
    (case d18 => (refine' GG.def_mk KX G ?a ?l ?c ?k; (case a => k_is); (case l => k_is); (case c => k_is); (case k => k_is)))
    (case d19 => (refine' GG.def_mk KX G ?a ?l ?c ?k; (case a => k_is); (case l => k_is); (case c => k_is); (case k => k_is)))
    (case d20 => (refine' GG.def_mk KX G ?a ?l ?c ?k; (case a => k_is); (case l => k_is); (case c => k_is); (case k => k_is)))
    (case d21 => (refine' GG.def_mk KX G ?a ?l ?c ?k; (case a => k_is); (case l => k_is); (case c => k_is); (case k => k_is)))
    (case d22 => (refine' GG.def_mk KX G ?a ?l ?c ?k; (case a => k_is); (case l => k_is); (case c => k_is); (case k => k_is)))
    (case d23 => (refine' GG.def_mk KX G ?a ?l ?c ?k; (case a => k_is); (case l => k_is); (case c => k_is); (case k => k_is)))
    (case a24 => k_is)
    (case l24 => k_is)
    (case c24 => k_is)
    (case k24 => k_is)
    (case z1 => k_is)
    (case z2 => k_is)
    (case z3 => k_is)
    (case z4 => k_is)
    (case z5 => k_is)
    (case z6 => k_is)
    (case z7 => k_is)
    (case z8 => k_is)
    (case z9 => k_is)
    (case z10 => k_is)
