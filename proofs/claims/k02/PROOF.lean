import PyProof.Rows.All
import Wide.All
import OpenK.AllK
import Wide.FinOn
import HandS.ForMost
import HandS.ExcInit
import HandS.IsInst
import HandS.Wide
import HandS.EndBits
import HandS.ExcField
import KE.KExcIs
import HandS.ExcIs
import HandS.ExcOwn
import HandS.ExcValue
import HandS.Evl
import HandS.Zip
import HandS.ForExc
import HandS.Gcd
import HandS.Style
import HandS.TryMany
import HandS.Lambda
import HandS.EndTab
import HandS.CallLocal
import HandS.Codes
import HandS.Text
import HandS.Flow
import KE.IntTextLaws
import KE.IntTextText
import HandS.StrMore
import HandS.Iter
import PyProof.Draws
import PyProof.EnumMake
import PySem.Challenge.RW_allbids_k02_whole_texts_of_ratios
set_option Elab.async false
set_option linter.all false
set_option maxRecDepth 100000
set_option maxHeartbeats 4000000
/-! ## GG: calls around which no repr is under way -/
namespace GG
open PySem PySem.Spec PyProof.Rows L2
section
variable {P : Program} {w : World} {K : PySem.W.Frag} {mg : Str → Option Value} {base : Heap}

/-- the def at f keeps sp wherever nothing guarded is under way -/
structure FnG (P : Program) (w : World) (K : PySem.W.Frag) (mg : Str → Option Value) (base : Heap) (k : Nat) (f : Addr) (fd : FuncData) (ps : List Str) (sp : Sp) : Prop where
  cnt : ∀ vs H Q E, sp vs H Q E → vs.length = ps.length
  go : ∀ (A : Around) (out : List Env) (s : Shared) (H : Hp) (args : Args) (us : List Value) (vs : List V) (Q : VK) (E : XK), A.guards = some [] → Room k A →
    Env0 P w K mg base A out s H → BindsTo s fd args (ps.zip us) → Vals vs us → sp vs H Q E → codeAny (model P w) A (.call (.ref f) args) (CR CX0 out P w H s Q E) s

theorem FnG.of {k : Nat} {f : Addr} {fd : FuncData} {ps : List Str} {sp : Sp} (F : FnOk P w K mg base CX0 k f fd ps sp) : FnG P w K mg base k f fd ps sp :=
  ⟨F.len, fun A out s H args us vs Q E _ room => F.run A out s H args us vs Q E room⟩

theorem fnG {x qual : Str} {st : Stmt} {f : Addr} {fd : FuncData} {N ps : List Str} {k : Nat} {sp : Sp} (F : Fun K x qual st f fd) (S : FnScope N ps (defScope st)) (cnt : ∀ vs H Q E, sp vs H Q E → vs.length = ps.length)
    (body : ∀ (cdv : Value) (A : Around) (out : List Env) (s : Shared) (H : Hp) (vs : List V) (Q : VK) (E : XK), A.guards = some [] → Room k (A.deeper (envOfC qual (defScope st) s.heap.objs.size f cdv)) → sp vs H Q E →
      ∃ t, PSs (cxOf CX0 P w K mg base N qual (defScope st) f cdv A out s H E).nox (defBody st) t ∧ t { nx := fun _ H' => Q .non H', rt := Q } (start N vs) H) :
    FnG P w K mg base (k + 1) f fd ps sp := by
  obtain ⟨oc, od, kV, doc, pm, an, cdv, ct, osl, rfl, look, code⟩ := F.ex
  refine ⟨cnt, ?_⟩
  intro A out s H args us vs Q E noG room env bnd rel prom
  have many := cnt _ _ _ _ prom
  have inK : K.In s.heap := env.mod.kin.keeps fun b o q => (env.bs b o q).1
  have free : s.heap.NoLimit := env.mod.nolimit.keeps fun b o q => (env.bs b o q).1
  have kinds : ∀ y ∈ ps.zip us, (defScope st).names.lookup y.1 = some .local ∨ ((defScope st).names.lookup y.1 = some .cell ∧ ((cellsFrom (s.heap.objs.size + 1) (defScope st).names []).lookup y.1).isSome = true) := by
    rintro ⟨n, v⟩ my
    cases S.par n (List.of_mem_zip my).1 with
    | inl q => exact .inl q
    | inr q => exact .inr ⟨q, PySem.W.cellsFrom_some _ _ _ (.inl q)⟩
  refine codeAny_call_function room.depth (inK _ _ look) rfl S.co S.gen rfl (PySem.W.codeRec_of inK code) (bnd _ _ _ _ ?_)
  refine wpAny_newFunctionEnv_cells S.kind kinds fun env' he s1 inC => ?_
  subst he
  refine ⟨free.keeps inC.toInCall.keep, codeAny_func ?_⟩
  obtain ⟨t, ht, start0⟩ := body cdv A out s H vs Q E noG (room.deeper _) prom
  have J := inv_start (E := E) (CX := CX0) S room.hd env many rel inC
  refine wpAny_mono (ht.nox.run [] s1 (start N vs) H _ J start0) (fun fl s' res => ?_) (fun _ _ q => q)
  cases fl with
  | ret u =>
    obtain ⟨v, σ', H', J', rv, q⟩ := res
    exact ⟨v, H', J'.os, J'.bare, J'.base, J'.hok, rv, q⟩
  | next =>
    obtain ⟨σ', H', J', q⟩ := res
    exact ⟨.non, H', J'.os, J'.bare, J'.base, J'.hok, rfl, q⟩
  | brk => exact (res.choose_spec.choose_spec.2 : False).elim
  | cont => exact (res.choose_spec.choose_spec.2 : False).elim
end
end GG

namespace GG
open PySem PySem.Spec PyProof.Rows L2
section
variable {P : Program} {w : World} {K : PySem.W.Frag} {mg mb : Str → Option Value} {k : Nat} {fa a : Addr} {fd : FuncData} {x : Str} {sp : Sp} {s1 : Shared} {vs : List Value} {ns : List Int}

/-- what is tracked at the law's start: the script, unless the module owns it -/
noncomputable def startH (K : PySem.W.Frag) (a : Addr) (vs : List Value) (ns : List Int) : Hp := fun b =>
  if b = a ∧ K.lookup a = none then some (.frz { cls := .type "list", data := .seq vs.toArray } (.lst (ns.map V.int))) else none
theorem startH_some {b : Addr} {u : HO} (e : startH K a vs ns b = some u) : b = a ∧ K.lookup a = none ∧ u = .frz { cls := .type "list", data := .seq vs.toArray } (.lst (ns.map V.int)) := by
  unfold startH at e
  split at e
  · rename_i q
    exact ⟨q.1, q.2, (Option.some.inj e).symm⟩
  · cases e
theorem startH_none {b : Addr} (n : b ≠ a) : startH K a vs ns b = none := if_neg fun q => n q.1

theorem lawG (KX : K.In s1.heap) (hns : s1.heap.Ns mainGlobals mg) (hb : s1.heap.Ns builtinsNs mb) (hbb : ∀ x : Str, x ≠ "__name__" → mb x = bootBuiltins x) (hlim : s1.heap.NoLimit) (hg : s1.gens = #[])
    (ha : s1.heap.get? a = some { cls := .type "list", data := .seq vs.toArray }) (hi : IntsAre vs ns) (hl : ns.length ≤ sizeLine) (hr : Room k callerA)
    (F : ∀ base : Heap, K.In base → base.Ns mainGlobals mg → FnG P w K mg base k fa fd [x] sp) (hbind : ∀ (s : Shared) (u : Value), BindsTo s fd ⟨[u], []⟩ [(x, u)])
    (hsp : ∀ H : Hp, Only H → SqL K H a (ns.map V.int) → sp [.ref a] H (fun v _ => v = .bl true) fun _ _ _ => False) :
    codeAny (model P w) callerA (.call (.ref fa) ⟨[.ref a], []⟩) (fun r s' => r = .ok (.ret (.bool true)) ∧ OldK s1.heap s'.heap ∧ s'.os = s1.os ∧ AllBare s'.gens) s1 := by
  have rv := vals_ints hi
  let H : Hp := startH K a vs ns
  have only : Only H := fun b => by
    cases e : H b with
    | none => exact .inl rfl
    | some u =>
      obtain ⟨_, _, q⟩ := startH_some e
      exact .inr ⟨_, _, by rw [q]⟩
  have held : HOk P w H s1.heap := fun b u e => by
    obtain ⟨q1, _, q2⟩ := startH_some e
    subst q1 q2
    exact ⟨ha, by rw [List.length_map]; exact hl, vs, _, rv, ha⟩
  have dictFree : ∀ {b : Addr} {o : Obj} {es : Array DictEntry} {ep : Nat}, s1.heap.get? b = some o → o.data = .dict es ep → H b = none := fun {b o es ep} e d => startH_none fun z => by
    subst z
    cases e.symm.trans ha
    cases d
  have stays : ∀ {b : Addr} {m : Str → Option Value}, s1.heap.Ns b m → (hidT s1.heap H).Ns b m := fun {b m} ⟨o, es, ep, e, d, r⟩ => ⟨o, es, ep, hidT_get e (dictFree e d), d, r⟩
  have KB : K.In (hidT s1.heap H) := fun b o e => hidT_get (KX b o e) (by
    cases q : H b with
    | none => rfl
    | some u =>
      obtain ⟨q1, q2, _⟩ := startH_some q
      subst q1
      cases e.symm.trans q2)
  have M : L2.Mod K mg (hidT s1.heap H) := ⟨KB, stays hns, ⟨mb, stays hb, hbb⟩, hlim.elim fun mc q => ⟨mc, stays q.1, q.2⟩⟩
  have env : Env0 P w K mg (hidT s1.heap H) callerA [] s1 H := ⟨rfl, M, fun b o e => of_hidT e, Nat.le_of_eq (hidT_size _ _), trivial, (fun b z => absurd (show b ∈ ([] : List Addr) from z) List.not_mem_nil), held, .of_eq hg⟩
  have script : SqL K H a (ns.map V.int) := by
    cases q : K.lookup a with
    | none => exact .inl (.inr ⟨_, if_pos ⟨rfl, q⟩⟩)
    | some o =>
      cases (KX a o q).symm.trans ha
      exact .inr ⟨_, vs.toArray, _, q, rfl, rfl, rfl, by rw [List.size_toArray, hi.length]; exact hl, by simpa using rv⟩
  refine codeAny_mono ((F _ KB (stays hns)).go callerA [] s1 H ⟨[.ref a], []⟩ [.ref a] [.ref a] _ _ rfl hr env (hbind s1 (.ref a)) (.cons rfl .nil) (hsp H only script)) fun r s' res => ?_
  cases r with
  | error e => exact (show False from res).elim
  | ok fl =>
    cases fl with
    | next => exact (show False from res).elim
    | brk => exact (show False from res).elim
    | cont => exact (show False from res).elim
    | ret u =>
      obtain ⟨v, H', os, bare, un, ok', rr, q⟩ := res
      obtain rfl : v = .bl true := q
      cases (show u = Value.bool true from rr)
      refine ⟨rfl, OldK.of_keep fun b o e => ?_, os, bare⟩
      cases z : H b with
      | none => exact un.keep b o e z (fun m => absurd (show b ∈ ([] : List Addr) from m) List.not_mem_nil) (fun m => absurd (show b ∈ ([] : List Addr) from m) List.not_mem_nil)
      | some t =>
        obtain ⟨q1, _, q2⟩ := startH_some z
        subst q2
        have z2 := un.frzs b _ _ z
        have e1 := (held b _ z).1
        rw [e] at e1
        cases e1
        exact (ok' b _ z2).1
end
theorem walkG {l : PySem.W.OpenLaw} {n k : Nat} {q : Program} {loose : List Str} {XP : (Str → Option Value) → Heap → Prop} {YP : World → Heap → Prop} {d : DefRec} {K : Params → PySem.W.Frag} {sp : World → Sp} {x : Str}
    (hn : l.most = some n) (small : n ≤ sizeLine) (dflt : d.params.defaults = []) (room : Room k callerA) (inY : ∀ (w : World) (h : Heap), YP w h → (K w.params).In h)
    (F : ∀ (w : World) (mg : Str → Option Value) (fa : Addr) (h : Heap), (K w.params).In h → h.Ns mainGlobals mg → mg d.name = some (.ref fa) →
      ∃ fd : FuncData, (∀ (s : Shared) (u : Value), BindsTo s fd ⟨[u], []⟩ [(x, u)]) ∧ ∀ base : Heap, (K w.params).In base → base.Ns mainGlobals mg → FnG l.prog w (K w.params) mg base k fa fd [x] (sp w))
    (start : ∀ (w : World) (H : Hp) (a : Addr) (ns : List Int), ns.length ≤ n → (∀ z ∈ ns, Builtin.Int.intBits z ≤ 1048576) → Only H → SqL (K w.params) H a (ns.map V.int) → sp w [.ref a] H (fun v _ => v = .bl true) fun _ _ _ => False) :
    PySem.W.WalkO q loose XP YP l.row.toRowW d [] (fun f vs => PySem.call f vs) := by
  refine Att.attach_callB hn dflt ?_
  intro w s0 s1 mg mb fa o pm cd doc a vs ns G Y _ _ _ named obj hi len bits gens
  obtain ⟨fd, bound, fns⟩ := F w mg fa _ (inY w _ Y) G.T.g named
  exact lawG (inY w _ Y) G.T.g G.T.b G.T.builtins G.T.nolimit gens obj hi (Nat.le_trans len small) room fns bound fun H o' q' => start w H a ns len bits o' q'
end GG

namespace GG
open PySem PySem.Spec PyProof.Rows L2

/-! ### data and their repr -/
/-- where nothing guarded is under way, v is the datum d in each state that H describes -/
def Dt (X : Cx) (H : Hp) (v : V) (d : PyData) : Prop := ∀ (pins : List (Addr × Obj)) (σ : L2.St) (s : Shared) (u : Value), Inv X pins σ H s → RelV v u → ∃ as, Reads s.heap u d as ∧ sysModules ∉ as
def DtAll (X : Cx) (H : Hp) (vs : List V) (ds : List PyData) : Prop := ∀ (pins : List (Addr × Obj)) (σ : L2.St) (s : Shared) (us : List Value), Inv X pins σ H s → Vals vs us → ∃ as, ReadsAll s.heap us ds as ∧ sysModules ∉ as
section
variable {X : Cx} {H : Hp}
theorem Dt.non : Dt X H .non .none := fun _ _ _ _ _ r => by
  cases r
  exact ⟨_, .none, List.not_mem_nil⟩
theorem Dt.bl (b : Bool) : Dt X H (.bl b) (.bool b) := fun _ _ _ _ _ r => by
  cases r
  exact ⟨_, .bool b, List.not_mem_nil⟩
theorem Dt.int (i : Int) : Dt X H (.int i) (.int i) := fun _ _ _ _ _ r => by
  obtain ⟨t, rfl⟩ := r
  exact ⟨_, .int i t, List.not_mem_nil⟩
theorem Dt.str (x : Str) : Dt X H (.str x) (.str x) := fun _ _ _ _ _ r => by
  obtain ⟨t, rfl⟩ := r
  exact ⟨_, .str x t, List.not_mem_nil⟩
theorem DtAll.nil : DtAll X H [] [] := fun _ _ _ _ _ r => by
  cases r
  exact ⟨_, .nil, List.not_mem_nil⟩
theorem DtAll.cons {v : V} {vs : List V} {d : PyData} {ds : List PyData} (h : Dt X H v d) (t : DtAll X H vs ds) : DtAll X H (v :: vs) (d :: ds) := fun p σ s us I r => by
  cases r with
  | cons r1 r2 =>
    obtain ⟨as, q1, n1⟩ := h p σ s _ I r1
    obtain ⟨bs, q2, n2⟩ := t p σ s _ I r2
    exact ⟨_, .cons q1 q2, fun m => (List.mem_append.mp m).elim n1 n2⟩
theorem Dt.lst {a : Addr} {xs : List V} {ds : List PyData} (e : H a = some (.lst xs)) (ne : a ≠ sysModules) (t : DtAll X H xs ds) : Dt X H (.ref a) (.list ds) := fun p σ s u I r => by
  cases r
  obtain ⟨_, its, n, rv, ho⟩ := (show ObjOk X.prog X.w H s.heap a (.lst xs) from I.hok a _ e)
  obtain ⟨as, q, nm⟩ := t p σ s its I rv
  exact ⟨_, .list ho rfl rfl (by rw [List.toList_toArray]; exact q), fun m => (List.mem_cons.mp m).elim (fun z => ne z.symm) nm⟩
theorem Dt.tup {a : Addr} {xs : List V} {ds : List PyData} (e : H a = some (.tup xs)) (t : DtAll X H xs ds) : Dt X H (.ref a) (.tuple ds) := fun p σ s u I r => by
  cases r
  obtain ⟨_, its, rv, o, ho, hc, n, hd⟩ := (show ObjOk X.prog X.w H s.heap a (.tup xs) from I.hok a _ e)
  obtain ⟨as, q, nm⟩ := t p σ s its I rv
  exact ⟨_, .tuple ho hc hd (by rw [List.toList_toArray]; exact q), nm⟩
theorem Dt.dict1 {a : Addr} {k : Str} {v : V} {d : PyData} (e : H a = some (.dK [(.inr k, v)])) (t : Dt X H v d) : Dt X H (.ref a) (.dict [(.str k, d)]) := fun p σ s u I r => by
  cases r
  obtain ⟨_, ne, vs, kv, o, es, ep, ho, hx, hd, _, hp, _⟩ := (show ObjOk X.prog X.w H s.heap a (.dK [(.inr k, v)]) from I.hok a _ e)
  have na : a ≠ sysModules := by
    intro z
    rw [z] at ne
    simp at ne
  obtain ⟨⟨kq, vq⟩, rfl, ek, rv⟩ : ∃ b : Key × Value, vs = [b] ∧ Sum.inr k = b.1 ∧ RelV v b.2 := by
    cases kv with
    | cons k1 k2 =>
      cases k2
      exact ⟨_, rfl, k1.1, k1.2⟩
  simp only at ek rv
  subst ek
  obtain ⟨as, q, nm⟩ := t p σ s vq I rv
  generalize hl : es.toList = l at hp
  cases hp with
  | cons h1 h2 h3 =>
    cases h3
    rename_i en
    simp only at h1 h2
    have hk : ∃ tk, en.key = Value.str k tk := by
      rcases keyIs_shape (show keyIs (Sum.inr k) en.key = true from h1) with ⟨i, tk, z, _⟩ | ⟨y, tk, z, z2⟩
      · cases z
      · cases z
        exact ⟨tk, z2⟩
    obtain ⟨tk, hk⟩ := hk
    have r1 : ReadsAll s.heap (es.toList.map (·.key)) [PyData.str k] ([] ++ []) := by
      rw [hl, List.map_cons, List.map_nil, hk]
      exact .cons (.str k tk) .nil
    have r2 : ReadsAll s.heap (es.toList.map (·.val)) [d] (as ++ []) := by
      rw [hl, List.map_cons, List.map_nil, h2]
      exact .cons q .nil
    refine ⟨_, Reads.dict (kvs := [(.str k, d)]) ho hx.1 hd r1 r2, fun m => ?_⟩
    rcases List.mem_append.mp m with m | m
    · rcases List.mem_cons.mp m with m | m
      · exact na m.symm
      · exact absurd m (by simp)
    · rw [List.append_nil] at m
      exact nm m

/-! sizes -/
structure Sh (X : Cx) (H : Hp) (v : V) (n : Nat) (d : PyData) : Prop where
  dt : Dt X H v d
  sh : d.showable = true
  dp : d.depth ≤ 8
  ln : d.shown.length ≤ n
theorem Sh.mono {v : V} {n m : Nat} {d : PyData} (h : Sh X H v n d) (k : n ≤ m) : Sh X H v m d := ⟨h.dt, h.sh, h.dp, Nat.le_trans h.ln k⟩
theorem list_len (ds : List PyData) (n : Nat) (h : ∀ d ∈ ds, d.shown.length ≤ n) : (PyData.list ds).shown.length ≤ (n + 2) * ds.length + 4 := by
  rw [PyData.shown_list, strLen_append, strLen_append]
  have e1 : (("[" : Str)).length = 1 := rfl
  have e2 : (("]" : Str)).length = 1 := rfl
  have e3 : piled (PyData.shownAll ds) ≤ (n + 2) * ds.length := by
    clear e1 e2
    induction ds with
    | nil => simp [PyData.shownAll, piled]
    | cons d ds ih =>
      rw [PyData.shownAll_cons, piled_cons, List.length_cons, Nat.mul_add]
      have h1 := h d List.mem_cons_self
      have h2 := ih fun x hx => h x (List.mem_cons_of_mem _ hx)
      omega
  by_cases z : PyData.shownAll ds = []
  · rw [z]
    have e4 : (Str.join ", " []).length = 0 := rfl
    omega
  · have := join_length_add _ z
    omega
theorem tuple_len (ds : List PyData) (n : Nat) (h : ∀ d ∈ ds, d.shown.length ≤ n) : (PyData.tuple ds).shown.length ≤ (n + 2) * ds.length + 4 := by
  rw [PyData.shown_tuple, strLen_append, strLen_append]
  have e1 : (("(" : Str)).length = 1 := rfl
  have e2 : (((if ds.length == 1 then ",)" else ")" : String) : Str)).length ≤ 2 := by split <;> decide +kernel
  have e3 : piled (PyData.shownAll ds) ≤ (n + 2) * ds.length := by
    clear e1 e2
    induction ds with
    | nil => simp [PyData.shownAll, piled]
    | cons d ds ih =>
      rw [PyData.shownAll_cons, piled_cons, List.length_cons, Nat.mul_add]
      have h1 := h d List.mem_cons_self
      have h2 := ih fun x hx => h x (List.mem_cons_of_mem _ hx)
      omega
  by_cases z : PyData.shownAll ds = []
  · rw [z]
    have e4 : (Str.join ", " []).length = 0 := rfl
    omega
  · have := join_length_add _ z
    omega
theorem call_repr (hg : X.A.guards = some []) (hu : X.A.units + 80 < cLine) : CallR X (.builtin "repr") (fun xs H Q => ∃ a d, xs = [.ref a] ∧ Dt X H (.ref a) d ∧ d.showable = true ∧ d.depth ≤ 60 ∧ d.shown.length ≤ sizeLine ∧ Q (.str d.shown) H) := by
  intro pins s σ H xs us Q I r h
  obtain ⟨a, d, rfl, dt, hs, hd, hz, q⟩ := h
  cases r with
  | cons r1 r2 =>
    cases r2
    obtain rfl : _ = Value.ref a := r1
    obtain ⟨as, rd, nm⟩ := dt pins σ s _ I rfl
    exact repr_of_reads' (h₀ := s.heap) rd hs (fun _ => nm) hg (by omega) (fun _ _ e => e) (fun h' u tk k => ⟨.str d.shown, H, I.kept k, ⟨u, rfl⟩, q⟩) hz
end
end GG

namespace GG
open PySem PySem.Spec PyProof.Rows L2

/-! ### exceptions of the program's own classes as values -/
/-- what is known of an own error class -/
structure ExT (K : PySem.W.Frag) (C : Addr) : Prop where
  ox : OexC K C
  ga : PySem.W.findIn K (.ref C) "__getattribute__" = some (some (.builtin "BaseException.__getattribute__"))
  gg : PySem.W.findIn K (.ref C) "__getattr__" = some none
  hd : PySem.W.hasDictIn K C = true
  cl : PySem.W.findIn K (.ref C) "__class__" = some (some (.builtin "object.__class__"))
  mo : PySem.W.mroIn K C (.type "object") = some true
  oc : PySem.W.specialIn K (.builtin "object.__class__") "__get__" = some (some (.builtin "getset_descriptor.__get__"))
  ot : PySem.W.takesIn K (.builtin "object.__class__") = some true
/-- an error of the class C with these fields -/
def ExAt (H : Hp) (a C : Addr) (fs : List (Str × V)) : Prop := (fs = [] ∧ H a = some (exo a C none)) ∨ ∃ dx, H a = some (exo a C (some dx)) ∧ H dx = some (exd dx fs)
theorem ExT.some {K : PySem.W.Frag} {C : Addr} (T : ExT K C) : (PySem.W.clsIn K C).isSome = true := by
  obtain ⟨nm, q, N, bs, bm, sn, sub, ab, col, dd, k0, k1, k2, k3, k5, hC, hbm⟩ := T.ox.cls
  unfold PySem.W.clsIn
  rw [hC] <;> rfl
section
variable {X : Cx} {pins : List (Addr × Obj)} {σ : L2.St} {H : Hp} {s : Shared} {a C : Addr} {fs : List (Str × V)}
theorem ExAt.inst (I : Inv X pins σ H s) (e : ExAt H a C fs) : ∃ (ox : Obj) (od : Option Obj), PySem.W.InstAt s.heap a ox C od ∧
    ∀ (f : Str) (v : V), fs.lookup f = some v → ∃ (o : Obj) (u : Value), od = some o ∧ PySem.W.lookIn f o = some (some u) ∧ RelV v u := by
  rcases e with ⟨rfl, e⟩ | ⟨dx, e, ed⟩
  · obtain ⟨t, h⟩ := exo_at I.hok e
    exact ⟨_, none, ⟨h, rfl, rfl, trivial⟩, fun f v q => by cases q⟩
  · obtain ⟨t, h⟩ := exo_at I.hok e
    obtain ⟨mA, hns, rel⟩ := exd_at I.hok ed
    obtain ⟨od, ho, hl⟩ := lookIn_ns hns
    refine ⟨_, some od, ⟨h, rfl, rfl, ho⟩, fun f v q => ?_⟩
    obtain ⟨u, hu, ru⟩ := RelO.some_of (v := v) (o := mA f) (by rw [← q]; exact rel f)
    exact ⟨od, u, rfl, by rw [hl, hu], ru⟩
/-- isinstance(e, c) -/
def rIsX (K : PySem.W.Frag) : List V → Hp → VK → Prop := fun xs H Q => ∃ (a C : Addr) (fs : List (Str × V)) (c : V) (u : Value) (b : Bool), xs = [.ref a, c] ∧ ExT K C ∧ ExAt H a C fs ∧ ClsV c u ∧ PySem.W.kitOne K (.ref C) u = some b ∧ Q (.bl b) H
theorem call_isx : CallR X (.builtin "isinstance") (rIsX X.K) := by
  intro pins s σ H xs us Q I r h
  obtain ⟨a, C, fs, c, u, b, rfl, T, e, cv, k, q⟩ := h
  obtain ⟨u1, u2, rfl, r1, r2⟩ := vals2 r
  cases (show u1 = Value.ref a from r1)
  obtain rfl := cv.eq r2
  obtain ⟨ox, od, J, _⟩ := e.inst I
  exact PySem.W.kia_one (PySem.W.kitx_exc T.some T.ga T.gg T.ox.exC T.cl T.oc T.ot T.mo) I.kIn J k (fun z => nomatch z) fun tk => ⟨.bl b, H, I.tok tk, rfl, q⟩
/-- e.f -/
def tXfd (K : PySem.W.Frag) (f : Str) (te : TE) : TE := fun σ H Q => te σ H fun x H1 => ∃ (a C : Addr) (fs : List (Str × V)) (v : V), x = .ref a ∧ ExT K C ∧ ExAt H1 a C fs ∧ PySem.W.findIn K (.ref C) f = some none ∧ fs.lookup f = some v ∧ Q v H1
theorem pe_xfd {e : Expr} {te : TE} {pos : Pos} {f : Str} (he : PE X e te) (hb : attributeBase e f X.env (eval e X.env) = eval e X.env := by rfl) : PE X (.Attribute e f pos) (tXfd X.K f te) := by
  refine ⟨fun pins s σ H Q I h => ?_⟩
  refine attr_of hb (thn (he.run pins s σ H _ I h) fun u s1 hh => ?_)
  obtain ⟨x, H1, I1, rx, a, C, fs, v, ex, T, ea, no, l, q⟩ := hh
  subst ex
  obtain rfl : u = Value.ref a := rx
  obtain ⟨ox, od, J, look⟩ := ea.inst I1
  obtain ⟨o, u, rfl, lk, ru⟩ := look f v l
  exact HandSPX.exc_get I1.kIn J T.ga T.gg T.ox.exC (PySem.W.findObj_own T.hd no rfl lk) (handed_of ru) ⟨v, H1, I1.tok _, ru, q⟩
/-- C(e, ..) as a value, C's own __init__ keeping sp -/
def tVal (C : Addr) (sp : Sp) (ta : TA) : TE := fun σ H Q => ta σ H fun vs H1 => vs.length ≤ 1000 ∧ ∀ a, H1 a = none → sp (.ref a :: vs) (upd H1 a (exo a C none)) (fun v H2 => v = .non ∧ Q (.ref a) H2) (fun _ _ _ => False)
theorem pe_val {x : Str} {C fI : Addr} {k : Nat} {fd : FuncData} {ps : List Str} {sp : Sp} {e : Expr} {es : List Expr} {ta : TA} {p pos : Pos} (T : OexC X.K C) (iC : PySem.W.findIn X.K (.ref C) "__init__" = some (some (.ref fI))) (tI : PySem.W.typeIn X.K (.ref fI) = some (.type "function"))
    (F1 : FnOk X.prog X.w X.K X.mg X.base CX0 k fI fd ps sp) (hr : Room (k + 1) X.A) (hb : Binds X.K fd ps []) (hm : X.mg x = some (.ref C)) (ha : PA X (e :: es) ta) (hg : Gl X x := by rfl)
    (hdb : (x == ("__debug__" : Str)) = false := by decide) (he : starEach (e :: es) X.env = (false, eval e X.env) :: starEach es X.env := by rfl) (hpl : (backTo pos (starEach es X.env)).any (·.1) = false := by rfl) :
    PE X (.Call (.Name x p) (e :: es) [] pos) (tVal C sp ta) := by
  refine ⟨fun pins s σ H Q I h => ?_⟩
  obtain ⟨nm, q, N, bs, bm, sn, sub, ab, col, dd, k0, k1, k2, k3, k5, hC, tail⟩ := T.cls
  refine wpAny_Call_Name_kw (ld_glob I hg hm ?_ hdb)
  refine PySem.W.callWith_K (h₀ := X.base) I.ok.mod.kin T.kC (thn (ha.run pos pins s σ H _ I h) fun us s1 got => ?_) he hpl
  obtain ⟨vs, H1, I1, r1, small, q1⟩ := got
  refine ⟨I1.kIn, ?_⟩
  show wpAny _ _ (call (.ref C) us) _ _ _
  obtain ⟨hp, g, dr, tk, os⟩ := s1
  have big : hp.objs.size ≤ hp.objs.size + 1 := Nat.le_succ _
  have want := q1 (hp.objs.size + 1) (I1.hok.fresh big)
  have grow : ∀ b o, hp.get? b = some o → ((hp.push (PySem.W.kdv_tup us)).push (PySem.HandSPX.excO C hp.objs.size)).get? b = some o := fun b o z => Heap.get?_push_of_some _ (Heap.get?_push_of_some _ z)
  have new : ((hp.push (PySem.W.kdv_tup us)).push (PySem.HandSPX.excO C hp.objs.size)).get? (hp.objs.size + 1) = some (PySem.HandSPX.excO C hp.objs.size) := by heap_get
  have J : Inv X pins σ (upd H1 (hp.objs.size + 1) (exo (hp.objs.size + 1) C none)) ⟨(hp.push (PySem.W.kdv_tup us)).push (PySem.HandSPX.excO C hp.objs.size), g, dr, tk, os⟩ :=
    I1.laid (t' := tk) (a := hp.objs.size + 1) (h' := (hp.push (PySem.W.kdv_tup us)).push (PySem.HandSPX.excO C hp.objs.size)) grow big (exo_ok new)
  have r2 : Vals (V.ref (hp.objs.size + 1) :: vs) (Value.ref (hp.objs.size + 1) :: us ++ []) := by
    rw [List.append_nil]
    exact .cons rfl r1
  have cnt : (Value.ref (hp.objs.size + 1) :: us ++ []).length = ps.length := by
    rw [← r2.length]
    exact F1.len _ _ _ _ want
  have fits : us.length ≤ sizeLine := by
    rw [← Paired.length r1, sizeLine_eq]
    omega
  refine wpAny_call (PySem.HandSPX.call_own F.excBase_ValueError (fun Y => PySem.HandSPX.refsVE_contains Y bm tail) (I1.kIn _ _ hC) (PySem.W.looks_findIn I1.kIn iC) (fun self => PySem.W.bind_fn I1.kIn self tI) fits
    (codeAny_mono (F1.run _ X.stack _ _ ⟨Value.ref (hp.objs.size + 1) :: us, []⟩ (Value.ref (hp.objs.size + 1) :: us ++ []) _ _ (fun _ _ _ => False) (hr.make C us []) (J.env0.make C us []) (hb _ (Value.ref (hp.objs.size + 1) :: us) J.kIn cnt) r2 want) fun r s' res => ?_))
  cases r with
  | error er => exact (show False from res).elim
  | ok fl =>
    cases fl with
    | ret u =>
      obtain ⟨v, H2, J2, rv, rfl, q2⟩ := J.after res
      exact ⟨rv, .ref (hp.objs.size + 1), H2, J2, rfl, q2⟩
    | next => exact False.elim res
    | brk => exact False.elim res
    | cont => exact False.elim res
/-- C() as a value, no own __init__ -/
theorem pe_val0 {C : Addr} {x : Str} {p pos : Pos} (q : PySem.W.excIn X.K C [.type "ValueError", .type "Exception", .type "BaseException", .type "object"] "ValueError.__new__" = true) (gC : X.mg x = some (.ref C)) (kC : PySem.W.keepIn X.K (.ref C) = true) (hg : Gl X x := by rfl) (hdb : (x == ("__debug__" : Str)) = false := by decide) :
    PE X (.Call (.Name x p) [] [] pos) (fun σ H Q => ∀ a, H a = none → Q (.ref a) (upd H a (exo a C none))) := by
  refine ⟨fun pins s σ H Q I h => ?_⟩
  refine wpAny_Call_Name_kw (ld_glob I hg gC ?_ hdb)
  refine PySem.W.callWith_K0 I.kIn kC ?_
  obtain ⟨bm, N, nm, qn, bs, hdct, sn, sub, ab, col, dd, k0, k1, k2, k3, k5, mN, hC, hN, hni, T⟩ := exc_obj I.kIn q
  refine wpAny_call_exc_subT F.excBase_ValueError T hC hN hni (fun h' a made => ?_) (by show 0 ≤ sizeLine; exact Nat.zero_le _)
  have free : H a = none := I.hok.gone made.new
  obtain ⟨t, ht, _, _⟩ := made.there
  exact ⟨.ref a, upd H a (exo a C none), I.laidN made.keeps made.new free (exo_ok ht), rfl, h a free⟩
end
end GG

namespace GG
open PySem PySem.Spec PyProof.Rows L2
/-! ### the text by places -/
def topS (i : Nat) : Stmt := PySem.Challenge.pw_allbids_k02_whole_texts_of_ratios.main.body.getD i (.Pass ⟨0, 0, 0, 0⟩)
abbrev sPen : Stmt := topS 26
abbrev sDraw : Stmt := topS 27
abbrev sPick : Stmt := topS 28

/-! ### a pen -/
def penD (l : Addr) (at' dg c fo : Int) : List (Key × V) := [(.inr "cells", .ref l), (.inr "at", .int at'), (.inr "digits", .int dg), (.inr "count", .int c), (.inr "fold", .int fo)]
section
variable (l : Addr) (a d c f x : Int)
theorem penD_cells : valV (penD l a d c f) (.inr "cells") = some (.ref l) := by kernel_rfl
theorem penD_at : valV (penD l a d c f) (.inr "at") = some (.int a) := by kernel_rfl
theorem penD_digits : valV (penD l a d c f) (.inr "digits") = some (.int d) := by kernel_rfl
theorem penD_count : valV (penD l a d c f) (.inr "count") = some (.int c) := by kernel_rfl
theorem penD_fold : valV (penD l a d c f) (.inr "fold") = some (.int f) := by kernel_rfl
theorem penP_at : putK (penD l a d c f) (.inr "at") (.int x) = penD l x d c f := by kernel_rfl
theorem penP_digits : putK (penD l a d c f) (.inr "digits") (.int x) = penD l a x c f := by kernel_rfl
theorem penP_count : putK (penD l a d c f) (.inr "count") (.int x) = penD l a d x f := by kernel_rfl
theorem penP_fold : putK (penD l a d c f) (.inr "fold") (.int x) = penD l a d c x := by kernel_rfl
end
/-- a pen at p, that was asked c times -/
structure PenIs (H : Hp) (p l : Addr) (ns : List Int) (at' dg c fo : Int) : Prop where
  obj : H p = some (.dK (penD l at' dg c fo))
  cel : H l = some (.lst (ns.map V.int))
  len : ns.length ≤ 63
  a0 : 0 ≤ at'
  d0 : 0 ≤ dg
  c0 : 0 ≤ c
  f0 : 0 ≤ fo
  f1 : fo < 2147483587
def PenAt (H : Hp) (p l : Addr) (c : Int) : Prop := ∃ ns at' dg fo, PenIs H p l ns at' dg c fo
/-- all but p stays -/
def Keep (p : Addr) (H H' : Hp) : Prop := ∀ b o, b ≠ p → H b = some o → H' b = some o
theorem Keep.refl {p : Addr} {H : Hp} : Keep p H H := fun _ _ _ e => e
theorem Keep.trans {p : Addr} {H H1 H2 : Hp} (a : Keep p H H1) (b : Keep p H1 H2) : Keep p H H2 := fun c o n e => b c o n (a c o n e)
theorem Keep.upd {p : Addr} {H H1 : Hp} {o : HO} (a : Keep p H H1) : Keep p H (upd H1 p o) := fun c u n e => by
  rw [upd_ne n]
  exact a c u n e
theorem Keep.new {p q : Addr} {H H1 : Hp} {o : HO} (a : Keep p H H1) (n : H1 q = none) : Keep p H (L2.upd H1 q o) := fun c u nc e => by
  have z := a c u nc e
  rw [upd_ne (ne_of_none z n)]
  exact z
theorem PenIs.put {H : Hp} {p l : Addr} {ns : List Int} {a d c f a' d' c' f' : Int} (P : PenIs H p l ns a d c f) (h1 : 0 ≤ a') (h2 : 0 ≤ d') (h3 : 0 ≤ c') (h4 : 0 ≤ f') (h5 : f' < 2147483587) : PenIs (upd H p (.dK (penD l a' d' c' f'))) p l ns a' d' c' f' :=
  ⟨upd_same, by rw [upd_ne (ne_of P.cel P.obj (by intro z; cases z))]; exact P.cel, P.len, h1, h2, h3, h4, h5⟩
structure PTxt (K : PySem.W.Frag) (mg : Str → Option Value) : Prop where
  int : mg "int" = none
  list : mg "list" = none
  len : mg "len" = none
theorem bInt : bootBuiltins "int" = some (.type "int") := by decide +kernel
theorem bList : bootBuiltins "list" = some (.type "list") := by decide +kernel
theorem small5 {l : Addr} {a d c f : Int} : (penD l a d c f).length < sizeLine := by
  rw [sizeLine_eq]
  show 5 < 16777216
  decide
section
variable {H : Hp} {p l : Addr} {ns : List Int} {a d c f : Int} (I : PenIs H p l ns a d c f)
include I
theorem PenIs.gCells : DGet H p (.str "cells") (some (.ref l)) := penD_cells l a d c f ▸ DGet.k (k := Sum.inr "cells") I.obj
theorem PenIs.gAt : DGet H p (.str "at") (some (.int a)) := penD_at l a d c f ▸ DGet.k (k := Sum.inr "at") I.obj
theorem PenIs.gDigits : DGet H p (.str "digits") (some (.int d)) := penD_digits l a d c f ▸ DGet.k (k := Sum.inr "digits") I.obj
theorem PenIs.gCount : DGet H p (.str "count") (some (.int c)) := penD_count l a d c f ▸ DGet.k (k := Sum.inr "count") I.obj
theorem PenIs.gFold : DGet H p (.str "fold") (some (.int f)) := penD_fold l a d c f ▸ DGet.k (k := Sum.inr "fold") I.obj
theorem PenIs.pAt (x : Int) : DPut H p (.str "at") (.int x) (upd H p (.dK (penD l x d c f))) := penP_at l a d c f x ▸ DPut.k (k := Sum.inr "at") I.obj small5
theorem PenIs.pDigits (x : Int) : DPut H p (.str "digits") (.int x) (upd H p (.dK (penD l a x c f))) := penP_digits l a d c f x ▸ DPut.k (k := Sum.inr "digits") I.obj small5
theorem PenIs.pCount (x : Int) : DPut H p (.str "count") (.int x) (upd H p (.dK (penD l a d x f))) := penP_count l a d c f x ▸ DPut.k (k := Sum.inr "count") I.obj small5
theorem PenIs.pFold (x : Int) : DPut H p (.str "fold") (.int x) (upd H p (.dK (penD l a d c x))) := penP_fold l a d c f x ▸ DPut.k (k := Sum.inr "fold") I.obj small5
end
/-- many is a number of cases -/
def spDraw : Sp := fun vs H Q _ => ∃ (p l : Addr) (c many : Int), vs = [.ref p, .int many] ∧ PenAt H p l c ∧ 0 < many ∧ many < 1000000 ∧ c < 1000000000 ∧
  ∀ (r : Int) (H' : Hp), 0 ≤ r → r < many → PenAt H' p l (c + 1) → Keep p H H' → Q (.int r) H'
section
variable {P : Program} {w : World} {K : PySem.W.Frag} {mg : Str → Option Value} {base : Heap}
theorem scDraw : FnScope ["_law_pen_here", "_law_many", "_law_cell", "_law_digit", "_law_mixed"] ["_law_pen_here", "_law_many"] (defScope sDraw) := ⟨rfl, rfl, rfl, by decide +kernel, rfl, by decide +kernel, by decide +kernel⟩
theorem ok_draw {f : Addr} {fd : FuncData} (F : Fun K "_law_draw" "_law_draw" sDraw f fd) (T : PTxt K mg) : FnOk P w K mg base CX0 1 f fd ["_law_pen_here", "_law_many"] spDraw := by
  refine F.ok scDraw (fun vs H Q E h => ?_) (fun cdv A outer s H vs Q E hr h => ?_)
  · obtain ⟨p, l, c, many, rfl, _⟩ := h
    rfl
  · obtain ⟨p, l, c, many, rfl, ⟨ns, a, d, fo, I0⟩, m0, m1, c1, k⟩ := h
    have hu := hu_of hr
    refine ⟨_, pss_cons (ps_dput hu (pv 0) pe_str (pe_op op_add (pe_dget hu (pv 0) pe_str (fun _ _ => rfl)) pe_int) rfl)
      (Evl.pss_cut (ps_if (PW.pt (pw_and (pt_cmpR op_eq (pe_dget hu (pv 0) pe_str (fun _ _ => rfl)) pe_int (nomark _)) (pw_and1 (pt_cmpR op_lt (pe_dget hu (pv 0) pe_str (fun _ _ => rfl)) (pe_callB call_len_seq (by rfl) T.len PySem.boot_len (pa_cons (pe_dget hu (pv 0) pe_str (fun _ _ => rfl)) pa_nil)) (nomark _)))))
        (pss_cons (ps_set (i := 2) scDraw.nd rfl (.inl rfl) (pe_ix ix_list (pe_dget hu (pv 0) pe_str (fun _ _ => rfl)) (pe_dget hu (pv 0) pe_str (fun _ _ => rfl)) (fun _ _ => rfl)))
          (pss_cons (ps_dput hu (pv 0) pe_str (pe_op op_add (pe_dget hu (pv 0) pe_str (fun _ _ => rfl)) pe_int) rfl)
          (pss_one (ps_if (pt_cmpR op_ge (pv 2) (pe_op op_pow pe_int pe_int) (nomark _))
            (pss_one (ps_dput hu (pv 0) pe_str (pe_op op_sub (pv 2) (pe_op op_pow pe_int pe_int)) rfl))
            (pss_one (ps_dput hu (pv 0) pe_str (pe_op op_mod (pe_callTy call_int1 (by rfl) T.int bInt (pa_cons (pe_op op_add (pe_op op_mul (pe_dget hu (pv 0) pe_str (fun _ _ => rfl)) pe_int) (pv 2)) pa_nil)) pe_int) rfl))))))
        pss_nil)
      (pss_cons (ps_if (pt_cmpR op_gt (pe_dget hu (pv 0) pe_str (fun _ _ => rfl)) pe_int (nomark _))
        (pss_cons (ps_set (i := 3) scDraw.nd rfl (.inl rfl) (pe_op op_mod (pe_callTy call_int1 (by rfl) T.int bInt (pa_cons (pe_dget hu (pv 0) pe_str (fun _ _ => rfl)) pa_nil)) (pv 1)))
          (pss_cons (ps_dput hu (pv 0) pe_str (pe_op op_fdivW (pe_dget hu (pv 0) pe_str (fun _ _ => rfl)) (pv 1)) rfl)
          (pss_one (ps_ret (pv 3)))))
        pss_nil)
      (pss_cons (ps_set (i := 4) scDraw.nd rfl (.inl rfl) (pe_op op_add (pe_op op_add (pe_dget hu (pv 0) pe_str (fun _ _ => rfl)) (pe_op op_mul (pe_dget hu (pv 0) pe_str (fun _ _ => rfl)) pe_int)) pe_int))
      (pss_one (ps_ret (pe_op op_mod (pe_op op_fdiv (pe_callTy call_int1 (by rfl) T.int bInt (pa_cons (pe_op op_mod (pe_op op_pow (pv 4) pe_int) pe_int) pa_nil)) pe_int) (pv 1))))))), ?_⟩
    refine ⟨_, rfl, p, _, rfl, I0.gCount, _, _, rfl, rfl, _, rfl, p, _, rfl, I0.pCount _, ?_⟩
    have I1 := I0.put (a' := a) (d' := d) (c' := c + 1) (f' := fo) I0.a0 I0.d0 (by have := I0.c0; omega) I0.f0 I0.f1
    have K1 : Keep p H (upd H p (.dK (penD l a d (c + 1) fo))) := Keep.refl.upd
    have dc := I1.c0
    refine ⟨fun σ' H' => ∃ (a' d' f' : Int) (v : Option V), σ' = [some (.ref p), some (.int many), v, none, none] ∧ PenIs H' p l ns a' d' (c + 1) f' ∧ Keep p H H', ?_, ?_⟩
    · refine ⟨_, rfl, p, _, rfl, I1.gDigits, rfl, _, rfl, ?_⟩
      refine ite2 (fun _ => ?_) (fun _ => ?_)
      · refine ⟨_, rfl, p, _, rfl, I1.gAt, _, rfl, p, _, rfl, I1.gCells, l, _, rfl, .inl (SqL.of I1.cel), _, _, rfl, rfl, _, rfl, ?_⟩
        refine ite2 (fun e => ?_) (fun _ => ?_)
        · rw [List.length_map] at e
          have ha : a < (ns.length : Int) := of_decide_eq_true e
          have ha0 := I1.a0
          obtain ⟨n, rfl⟩ : ∃ n : Nat, a = (n : Int) := ⟨a.toNat, (Int.toNat_of_nonneg ha0).symm⟩
          have hn : n < ns.length := by omega
          refine ⟨_, rfl, p, _, rfl, I1.gCells, _, rfl, p, _, rfl, I1.gAt, l, _, _, V.int ns[n], rfl, rfl, SqL.of I1.cel, atI_nat (by simp [hn]), ?_⟩
          refine ⟨_, rfl, p, _, rfl, I1.gAt, _, _, rfl, rfl, _, rfl, p, _, rfl, I1.pAt _, ?_⟩
          have I2 := I1.put (a' := (n : Int) + 1) (d' := d) (c' := c + 1) (f' := fo) (by omega) I1.d0 I1.c0 I1.f0 I1.f1
          have K2 := K1.upd (o := .dK (penD l ((n : Int) + 1) d (c + 1) fo))
          refine ⟨_, rfl, _, _, rfl, rfl, ⟨by decide, by decide, by decide⟩, _, _, rfl, rfl, _, rfl, ?_⟩
          refine ite2 (fun e => ?_) (fun _ => ?_)
          · have hb := of_decide_eq_true e
            refine ⟨_, rfl, _, _, rfl, rfl, ⟨by decide, by decide, by decide⟩, _, _, rfl, rfl, _, rfl, p, _, rfl, I2.pDigits _, ?_⟩
            exact ⟨_, _, _, _, rfl, I2.put (by omega) (by omega) I2.c0 I2.f0 I2.f1, K2.upd⟩
          · refine ⟨_, rfl, p, _, rfl, I2.gFold, _, _, rfl, rfl, .inl ⟨by have := I2.f0; omega, by have := I2.f1; omega⟩, _, rfl, _, _, rfl, rfl, .inl ⟨_, rfl, ?_⟩⟩
            refine ⟨_, _, rfl, rfl, (show (0 : Int) < 2147483587 by decide), _, rfl, p, _, rfl, I2.pFold _, ?_⟩
            exact ⟨_, _, _, _, rfl, I2.put I2.a0 I2.d0 I2.c0 (Int.emod_nonneg _ (by decide)) (Int.emod_lt_of_pos _ (by decide)), K2.upd⟩
        · exact ⟨_, _, _, _, rfl, I1, K1⟩
      · exact ⟨_, _, _, _, rfl, I1, K1⟩
    · rintro σ' H' ⟨a', d', f', v, rfl, I2, K2⟩
      refine ⟨_, rfl, p, _, rfl, I2.gDigits, _, _, rfl, rfl, _, rfl, ?_⟩
      refine ite2 (fun e => ?_) (fun _ => ?_)
      · refine ⟨_, rfl, p, _, rfl, I2.gDigits, .inl ⟨_, rfl, _, rfl, _, _, rfl, rfl, m0, ?_⟩⟩
        refine ⟨_, rfl, p, _, rfl, I2.gDigits, _, rfl, _, _, rfl, rfl, wide_div (b := 20) m0 (by omega) (by decide) (by decide), _, rfl, p, _, rfl, I2.pDigits _, ?_⟩
        refine ⟨_, rfl, k _ _ (Int.emod_nonneg _ (by omega)) (Int.emod_lt_of_pos _ m0) ⟨ns, _, _, _, I2.put I2.a0 (Int.ediv_nonneg I2.d0 (by omega)) I2.c0 I2.f0 I2.f1⟩ K2.upd⟩
      · have f0 := I2.f0
        have f1 := I2.f1
        refine ⟨_, rfl, p, _, rfl, I2.gFold, _, rfl, p, _, rfl, I2.gCount, _, _, rfl, rfl, .inl ⟨by omega, by omega⟩, _, _, rfl, rfl, _, _, rfl, rfl, ?_⟩
        refine ⟨_, rfl, _, _, rfl, rfl, ⟨by decide, by decide, by omega⟩, _, _, rfl, rfl, (show (0 : Int) < 2305843009213693951 by decide), .inl ⟨_, rfl, _, _, rfl, rfl, ⟨by decide, by decide⟩, _, rfl, _, _, rfl, rfl, m0, ?_⟩⟩
        exact k _ _ (Int.emod_nonneg _ (by omega)) (Int.emod_lt_of_pos _ m0) ⟨ns, _, _, _, I2⟩ K2
end
end GG


namespace GG
open PySem PySem.Spec PyProof.Rows L2
/-- a def of the text, where its name leads to -/
structure DefIs (K : PySem.W.Frag) (mg : Str → Option Value) (x : Str) (st : Stmt) : Prop where
  ex : ∃ f fd, Fun K x x st f fd ∧ mg x = some (.ref f)
/-- what a name of the module keeps -/
structure Kn (P : Program) (w : World) (K : PySem.W.Frag) (mg : Str → Option Value) (base : Heap) (x : Str) (k : Nat) (ps : List Str) (sp : Sp) : Prop where
  ex : ∃ f fd, mg x = some (.ref f) ∧ PySem.W.keepIn K (.ref f) = true ∧ Binds K fd ps [] ∧ FnOk P w K mg base CX0 k f fd ps sp
theorem Kn.of {P : Program} {w : World} {K : PySem.W.Frag} {mg : Str → Option Value} {base : Heap} {x : Str} {st : Stmt} {k : Nat} {ps : List Str} {sp : Sp} (D : DefIs K mg x st)
    (hb : ∀ (kV doc pm : Value) (an : Option Addr) (cdv ct : Value) (us : List Value), us.length = ps.length → bindArgs (PySem.W.fnOf x x (defArgs st) (defBody st) (defScope st) .none kV doc pm an cdv ct) ⟨us, []⟩ = pure (ps.zip us))
    (ok : ∀ f fd, Fun K x x st f fd → FnOk P w K mg base CX0 k f fd ps sp) : Kn P w K mg base x k ps sp := by
  obtain ⟨f, fd, F, m⟩ := D.ex
  exact ⟨f, fd, m, F.kp, F.binds hb, ok f fd F⟩
theorem pe_kn {X : Cx} {x : Str} {k : Nat} {ps : List Str} {sp : Sp} {e : Expr} {es : List Expr} {t : TA} {p pos : Pos} (F : Kn X.prog X.w X.K X.mg X.base x k ps sp) (hr : Room k X.A) (ha : PA X (e :: es) t) (hg : Gl X x := by rfl)
    (hdb : (x == ("__debug__" : Str)) = false := by decide) (he : starEach (e :: es) X.env = (false, eval e X.env) :: starEach es X.env := by rfl) (hpl : (backTo pos (starEach es X.env)).any (·.1) = false := by rfl) :
    PE X (.Call (.Name x p) (e :: es) [] pos) (tCall sp [] (fun _ _ _ => False) t) := by
  obtain ⟨f, fd, hm, hk, hb, G⟩ := F.ex
  exact pe_call G hr hg hm hk hb .nil (fun _ _ _ _ _ _ _ z => z.elim) ha hdb he hpl
abbrev sFar : Stmt := topS 33
theorem SqL.keep {K : PySem.W.Frag} {H H' : Hp} {p a : Addr} {kvs : List (Key × V)} {xs : List V} (k : Keep p H H') (hp : H p = some (.dK kvs)) (s : SqL K H a xs) : SqL K H' a xs := by
  rcases s with s | s
  · have n : a ≠ p := by
      rcases s with s | ⟨o, s⟩
      · exact ne_of s hp (by intro z; cases z)
      · exact ne_of s hp (by intro z; cases z)
    rcases s with s | ⟨o, s⟩
    · exact .inl (.inl (k a _ n s))
    · exact .inl (.inr ⟨o, k a _ n s⟩)
  · exact .inr s
def spPen (K : PySem.W.Frag) : Sp := fun vs H Q _ => ∃ (a : Addr) (ns : List Int), vs = [.ref a] ∧ SqL K H a (ns.map V.int) ∧ ns.length ≤ 63 ∧ ∀ (p l : Addr) (H' : Hp), PenAt H' p l 0 → H p = none → H l = none → Same H H' → Q (.ref p) H'
def spPick (K : PySem.W.Frag) : Sp := fun vs H Q _ => ∃ (p l a : Addr) (c : Int) (xs : List V), vs = [.ref p, .ref a] ∧ PenAt H p l c ∧ SqL K H a xs ∧ 0 < xs.length ∧ xs.length < 1000000 ∧ c < 1000000000 ∧
  ∀ (x : V) (H' : Hp), x ∈ xs → PenAt H' p l (c + 1) → Keep p H H' → Q x H'
def spFar : Sp := fun vs H Q _ => ∃ (p l : Addr) (c : Int), vs = [.ref p] ∧ PenAt H p l c ∧ c < 100000000 ∧
  ∀ (r c' : Int) (H' : Hp), c ≤ c' → c' ≤ c + 10 → -1000000000000000000 < r → r < 1000000000000000000 → PenAt H' p l c' → Keep p H H' → Q (.int r) H'
section
variable {P : Program} {w : World} {K : PySem.W.Frag} {mg : Str → Option Value} {base : Heap}
theorem kn_draw (D : DefIs K mg "_law_draw" sDraw) (T : PTxt K mg) : Kn P w K mg base "_law_draw" 1 ["_law_pen_here", "_law_many"] spDraw :=
  .of D (fun _ _ _ _ _ _ us hl => match us, hl with | [_, _], _ => rfl) fun _ _ F => ok_draw F T
theorem scPen : FnScope ["_law_script", "_law_fold", "_law_cell"] ["_law_script"] (defScope sPen) := ⟨rfl, rfl, rfl, by decide +kernel, rfl, by decide +kernel, by decide +kernel⟩
theorem kn_pen (D : DefIs K mg "_law_pen" sPen) (T : PTxt K mg) : Kn P w K mg base "_law_pen" 1 ["_law_script"] (spPen K) := by
  refine .of D (fun _ _ _ _ _ _ us hl => match us, hl with | [_], _ => rfl) fun _ _ F => ?_
  refine F.ok scPen (fun vs H Q E h => ?_) (fun cdv A outer s H vs Q E hr h => ?_)
  · obtain ⟨a, ns, rfl, _⟩ := h
    rfl
  · obtain ⟨a, ns, rfl, S, hl, k⟩ := h
    refine ⟨_, pss_cons (ps_set (i := 1) scPen.nd rfl (.inl rfl) pe_int)
      (pss_cons (ps_for PassesOwn.never rfl (pi_list (pv 0)) (pg_name (i := 2) scPen.nd rfl (.inl rfl))
        (pss_one (ps_set (i := 1) scPen.nd rfl (.inl rfl) (pe_op op_mod (pe_callTy call_int1 (by rfl) T.int bInt (pa_cons (pe_op op_add (pe_op op_mul (pv 1) pe_int) (pv 2)) pa_nil)) pe_int))))
      (pss_one (ps_ret (pe_disp (pps_cons pe_str (pe_callTy call_list_of (by rfl) T.list bList (pa_cons (pv 0) pa_nil)) (pps_cons pe_str pe_int (pps_cons pe_str pe_int (pps_cons pe_str pe_int (pps_cons pe_str (pv 1) pps_nil))))) rfl rfl (by intro z; cases z) (by decide))))), ?_⟩
    refine ⟨_, rfl, a, rfl, ⟨_, S⟩, for_list (K := K) (a := a) (xs := ns.map V.int) (fun i σ H' => H = H' ∧ ∃ (f : Int) (v : Option V), σ = [some (.ref a), some (.int f), v] ∧ 0 ≤ f ∧ f < 1000000007) ⟨rfl, _, _, rfl, by decide, by decide⟩ (fun i σ H' _ z => z.1 ▸ S) ?_ ?_⟩
    · rintro i x σ H' hi ⟨rfl, f, v, rfl, f0, f1⟩
      rw [List.getElem?_map] at hi
      obtain ⟨n, _, rfl⟩ := Option.map_eq_some_iff.mp hi
      refine ⟨_, rfl, _, _, rfl, rfl, .inl ⟨by omega, by omega⟩, _, rfl, _, _, rfl, rfl, .inl ⟨_, rfl, _, _, rfl, rfl, (show (0 : Int) < 1000000007 by decide), ?_⟩⟩
      exact ⟨rfl, _, _, rfl, Int.emod_nonneg _ (by decide), Int.emod_lt_of_pos _ (by decide)⟩
    · rintro σ H' ⟨rfl, f, v, rfl, f0, f1⟩
      intro p hp
      have ap : ∀ o, SqL K (upd H p o) a (ns.map V.int) := fun o => by
        rcases S with (s | ⟨u, s⟩) | s
        · exact .inl (.inl (by rw [upd_ne (ne_of_none s hp)]; exact s))
        · exact .inl (.inr ⟨u, by rw [upd_ne (ne_of_none s hp)]; exact s⟩)
        · exact .inr s
      refine ⟨_, rfl, a, _, rfl, .inl (ap _), fun l hl' => ?_⟩
      have npl : p ≠ l := fun z => by
        rw [← z, upd_same] at hl'
        cases hl'
      have nl : H l = none := by
        rw [upd_ne npl.symm] at hl'
        exact hl'
      refine ⟨_, rfl, ⟨by rw [upd_ne npl, upd_same], [(.inr "cells", .ref l), (.inr "at", .int 0), (.inr "digits", .int 0), (.inr "count", .int 0), (.inr "fold", .int f)], rfl, (by show 5 ≤ 15; decide), ?_⟩⟩
      have e : mergeK [] [((.inr "cells" : Key), V.ref l), (.inr "at", .int 0), (.inr "digits", .int 0), (.inr "count", .int 0), (.inr "fold", .int f)] = penD l 0 0 0 f := by kernel_rfl
      rw [e]
      refine k p l _ ⟨ns, 0, 0, f, upd_same, by rw [upd_ne npl.symm, upd_same], hl, by decide, by decide, by decide, f0, by omega⟩ hp nl fun b o z => ?_
      rw [upd_ne (ne_of_none z hp), upd_ne (ne_of_none z nl), upd_ne (ne_of_none z hp)]
      exact z
theorem scPick : FnScope ["_law_pen_here", "_law_some"] ["_law_pen_here", "_law_some"] (defScope sPick) := ⟨rfl, rfl, rfl, by decide +kernel, rfl, by decide +kernel, by decide +kernel⟩
theorem kn_pick (D : DefIs K mg "_law_pick" sPick) (T : PTxt K mg) (B : Kn P w K mg base "_law_draw" 1 ["_law_pen_here", "_law_many"] spDraw) : Kn P w K mg base "_law_pick" 2 ["_law_pen_here", "_law_some"] (spPick K) := by
  refine .of D (fun _ _ _ _ _ _ us hl => match us, hl with | [_, _], _ => rfl) fun _ _ F => ?_
  refine F.ok scPick (fun vs H Q E h => ?_) (fun cdv A outer s H vs Q E hr h => ?_)
  · obtain ⟨p, l, a, c, xs, rfl, _⟩ := h
    rfl
  · obtain ⟨p, l, a, c, xs, rfl, PA', S, l0, l1, c1, k⟩ := h
    refine ⟨_, pss_one (ps_ret (pe_ix ix_list (pv 1) (pe_kn B hr (pa_cons (pv 0) (pa_cons (pe_callB call_len_seq (by rfl) T.len PySem.boot_len (pa_cons (pv 1) pa_nil)) pa_nil))) (fun _ _ => rfl))), ?_⟩
    refine ⟨_, rfl, _, rfl, _, rfl, a, _, rfl, .inl S, p, l, c, _, rfl, PA', by omega, by omega, c1, fun r H' r0 r1 P1 K1 => ?_⟩
    obtain ⟨n, rfl⟩ : ∃ n : Nat, r = (n : Int) := ⟨r.toNat, (Int.toNat_of_nonneg r0).symm⟩
    have hn : n < xs.length := by omega
    obtain ⟨ns, a', d', f', I0⟩ := PA'
    exact ⟨a, xs, _, xs[n], rfl, rfl, SqL.keep K1 I0.obj S, atI_nat (by simp [hn]), k _ _ (List.getElem_mem hn) P1 K1⟩
theorem PenAt.new {H : Hp} {p k l : Addr} {c : Int} {o : HO} (h : PenAt H p k c) (n : H l = none) : PenAt (upd H l o) p k c := by
  obtain ⟨ns, a, d, f, I⟩ := h
  exact ⟨ns, a, d, f, by rw [upd_ne (ne_of_none I.obj n)]; exact I.obj, by rw [upd_ne (ne_of_none I.cel n)]; exact I.cel, I.len, I.a0, I.d0, I.c0, I.f0, I.f1⟩
theorem scFar : FnScope ["_law_pen_here", "_law_found", "_law_k"] ["_law_pen_here"] (defScope sFar) := ⟨rfl, rfl, rfl, by decide +kernel, rfl, by decide +kernel, by decide +kernel⟩
theorem kn_far (D : DefIs K mg "_law_far" sFar) (rg : mg "range" = none) (B1 : Kn P w K mg base "_law_draw" 1 ["_law_pen_here", "_law_many"] spDraw) (B2 : Kn P w K mg base "_law_pick" 2 ["_law_pen_here", "_law_some"] (spPick K)) : Kn P w K mg base "_law_far" 3 ["_law_pen_here"] spFar := by
  refine .of D (fun _ _ _ _ _ _ us hl => match us, hl with | [_], _ => rfl) fun _ _ F => ?_
  refine F.ok scFar (fun vs H Q E h => ?_) (fun cdv A outer s H vs Q E hr h => ?_)
  · obtain ⟨p, l0, c, rfl, _⟩ := h
    rfl
  · obtain ⟨p, l0, c, rfl, PA', c1, k⟩ := h
    have hr1 : Room 1 _ := hr.mono (by decide)
    refine ⟨_, pss_cons (ps_set (i := 1) scFar.nd rfl (.inl rfl) pe_int)
      (pss_cons (ps_for PassesOwn.never rfl (pi_range1 rfl rg (pa_cons (pe_kn B2 hr (pa_cons (pv 0) (pa_cons (pe_lst (pa_cons pe_int (pa_cons pe_int (pa_cons pe_int (pa_cons pe_int (pa_cons pe_int pa_nil)))))) pa_nil))) pa_nil)) (pg_name (i := 2) scFar.nd rfl (.inl rfl))
        (pss_one (ps_set (i := 1) scFar.nd rfl (.inl rfl) (pe_op op_add (pe_op op_mul (pv 1) pe_int) (pe_kn B1 hr1 (pa_cons (pv 0) (pa_cons pe_int pa_nil)))))))
      (pss_one (ps_ret (pe_ifExp (pt_cmpR op_gt (pe_kn B1 hr1 (pa_cons (pv 0) (pa_cons pe_int pa_nil))) pe_int (nomark _)) (pv 1) (pe_un un_neg (pv 1)))))), ?_⟩
    refine ⟨_, rfl, (by rw [sizeLine_eq]; show 5 ≤ 16777216; decide), fun l hl => ?_⟩
    have K0 : Keep p H (upd H l (.lst [.int 0, .int 1, .int 1, .int 2, .int 6])) := Keep.refl.new hl
    refine ⟨p, l0, l, c, _, rfl, PA'.new hl, .inl (.inl upd_same), by show 0 < 5; decide, by show 5 < 1000000; decide, by omega, fun x H1 hx P1 K1 => ?_⟩
    obtain ⟨j, rfl, j0, j6⟩ : ∃ j : Nat, x = V.int (j : Int) ∧ 0 ≤ j ∧ j ≤ 6 := by
      simp only [List.mem_cons, List.not_mem_nil, or_false] at hx
      rcases hx with rfl | rfl | rfl | rfl | rfl
      · exact ⟨0, rfl, by decide, by decide⟩
      · exact ⟨1, rfl, by decide, by decide⟩
      · exact ⟨1, rfl, by decide, by decide⟩
      · exact ⟨2, rfl, by decide, by decide⟩
      · exact ⟨6, rfl, by decide, by decide⟩
    have K2 := K0.trans K1
    refine ⟨(j : Int), rfl, by omega, by omega, for_range (n := j) (fun i σ H' => ∃ (f : Int) (v : Option V), σ = [some (.ref p), some (.int f), v] ∧ PenAt H' p l0 (c + 1 + i) ∧ Keep p H H' ∧ 0 ≤ f ∧ f < 1000 ^ i ∧ i ≤ j) ⟨0, none, rfl, by simpa using P1, K2, by decide, by decide, by omega⟩ ?_ ?_⟩
    · rintro i σ H' hi ⟨f, v, rfl, P2, K3, f0, f1, ij⟩
      have b1 : (1000 : Int) ^ i ≤ 1000 ^ 5 := by
        have : (1000 : Nat) ^ i ≤ 1000 ^ 5 := Nat.pow_le_pow_right (by decide) (by omega)
        exact_mod_cast this
      refine ⟨_, rfl, _, _, rfl, rfl, .inl ⟨by omega, by omega⟩, _, rfl, p, l0, _, 1000, rfl, P2, by decide, by decide, by omega, fun r H2 r0 r1 P3 K4 => ?_⟩
      refine ⟨_, _, rfl, rfl, _, _, rfl, ?_, K3.trans K4, by omega, by rw [Int.pow_succ]; omega, by omega⟩
      have e : c + 1 + ((i + 1 : Nat) : Int) = c + 1 + (i : Int) + 1 := by omega
      rw [e]
      exact P3
    · rintro σ H' ⟨f, v, rfl, P2, K3, f0, f1, _⟩
      have b1 : (1000 : Int) ^ j ≤ 1000 ^ 6 := by
        have : (1000 : Nat) ^ j ≤ 1000 ^ 6 := Nat.pow_le_pow_right (by decide) (by omega)
        exact_mod_cast this
      refine ⟨_, rfl, p, l0, _, 3, rfl, P2, by decide, by decide, by omega, fun r H2 r0 r1 P3 K4 => ?_⟩
      refine ⟨_, _, rfl, rfl, _, rfl, ?_⟩
      refine ite2 (fun _ => ?_) (fun _ => ?_)
      · exact ⟨_, rfl, k _ _ _ (by omega) (by omega) (by omega) (by omega) P3 (K3.trans K4)⟩
      · exact ⟨_, rfl, _, rfl, k _ _ _ (by omega) (by omega) (by omega) (by omega) P3 (K3.trans K4)⟩
end
end GG


namespace GG
open PySem PySem.Spec PyProof.Rows L2
/-! ### data in the heap, by their shape -/
mutual
inductive Da (H : Hp) : V → PyData → Prop
  | non : Da H .non .none
  | bl (b : Bool) : Da H (.bl b) (.bool b)
  | int (i : Int) : Da H (.int i) (.int i)
  | str (x : Str) : Da H (.str x) (.str x)
  | lst {a : Addr} {xs : List V} {ds : List PyData} : H a = some (.lst xs) → a ≠ sysModules → DaAll H xs ds → Da H (.ref a) (.list ds)
  | tup {a : Addr} {xs : List V} {ds : List PyData} : H a = some (.tup xs) → DaAll H xs ds → Da H (.ref a) (.tuple ds)
  | dic {a : Addr} {k : Str} {v : V} {d : PyData} : H a = some (.dK [(.inr k, v)]) → Da H v d → Da H (.ref a) (.dict [(.str k, d)])
inductive DaAll (H : Hp) : List V → List PyData → Prop
  | nil : DaAll H [] []
  | cons {v : V} {vs : List V} {d : PyData} {ds : List PyData} : Da H v d → DaAll H vs ds → DaAll H (v :: vs) (d :: ds)
end
mutual
theorem Da.dt {X : Cx} {H : Hp} : ∀ {v : V} {d : PyData}, Da H v d → Dt X H v d
  | _, _, .non => .non
  | _, _, .bl b => .bl b
  | _, _, .int i => .int i
  | _, _, .str x => .str x
  | _, _, .lst e n t => .lst e n t.dt
  | _, _, .tup e t => .tup e t.dt
  | _, _, .dic e t => .dict1 e t.dt
theorem DaAll.dt {X : Cx} {H : Hp} : ∀ {vs : List V} {ds : List PyData}, DaAll H vs ds → DtAll X H vs ds
  | _, _, .nil => .nil
  | _, _, .cons h t => .cons h.dt t.dt
end
/-- what is no pen stays -/
def Stay (H H' : Hp) : Prop := ∀ b o, H b = some o → (∀ l a d c f, o ≠ .dK (penD l a d c f)) → H' b = some o
theorem Stay.refl {H : Hp} : Stay H H := fun _ _ e _ => e
theorem Stay.trans {H H1 H2 : Hp} (a : Stay H H1) (b : Stay H1 H2) : Stay H H2 := fun c o e n => b c o (a c o e n) n
theorem Same.stay {H H' : Hp} (k : Same H H') : Stay H H' := fun b o e _ => k b o e
theorem Keep.stay {p l0 : Addr} {c : Int} {H H' : Hp} (k : Keep p H H') (P : PenAt H p l0 c) : Stay H H' := fun b o e n => k b o (fun z => by
  obtain ⟨ns, a, d, f, I⟩ := P
  rw [z, I.obj] at e
  exact n _ _ _ _ _ (Option.some.inj e).symm) e
theorem Stay.new {H H1 : Hp} {q : Addr} {o : HO} (a : Stay H H1) (n : H1 q = none) : Stay H (upd H1 q o) := fun c u e ne => by
  have z := a c u e ne
  rw [upd_ne (ne_of_none z n)]
  exact z
mutual
theorem Da.stay {H H' : Hp} (k : Stay H H') : ∀ {v : V} {d : PyData}, Da H v d → Da H' v d
  | _, _, .non => .non
  | _, _, .bl b => .bl b
  | _, _, .int i => .int i
  | _, _, .str x => .str x
  | _, _, .lst e n t => .lst (k _ _ e (fun _ _ _ _ _ z => by cases z)) n (t.stay k)
  | _, _, .tup e t => .tup (k _ _ e (fun _ _ _ _ _ z => by cases z)) (t.stay k)
  | _, _, .dic e t => .dic (k _ _ e (fun _ _ _ _ _ z => by
      have z1 := HO.dK.inj z
      have z2 := congrArg List.length z1
      simp [penD] at z2)) (t.stay k)
theorem DaAll.stay {H H' : Hp} (k : Stay H H') : ∀ {vs : List V} {ds : List PyData}, DaAll H vs ds → DaAll H' vs ds
  | _, _, .nil => .nil
  | _, _, .cons h t => .cons (h.stay k) (t.stay k)
end
/-- a list display whose address is known not to be that of sys.modules -/
def tLstM (t : TA) : TE := fun σ H Q => t σ H fun xs H1 => xs.length ≤ sizeLine ∧ ∀ p, H1 p = none → p ≠ sysModules → Q (.ref p) (upd H1 p (.lst xs))
theorem pe_lstM {X : Cx} {es : List Expr} {t : TA} {pos : Pos} (h : PA X es t) : PE X (.List es pos) (tLstM t) := by
  refine ⟨fun pins s σ H Q I hq => ?_⟩
  refine wpAny_List_spliced (thn (h.run pos pins s σ H _ I hq) fun us s1 got => ?_)
  obtain ⟨xs, H1, I1, rel, small, q⟩ := got
  have fresh : H1 s1.heap.objs.size = none := I1.hok.fresh (Nat.le_refl _)
  refine ⟨by rw [← rel.length]; exact small, .ref s1.heap.objs.size, upd H1 s1.heap.objs.size (.lst xs), I1.laid (t' := s1.toks) (fun b u e => Heap.get?_push_of_some _ e) (Nat.le_refl _) ⟨small, us, 0, rel, Heap.get?_push_size _ rfl⟩, rfl, q _ fresh (Nat.ne_of_gt I1.big)⟩
/-- xs[lo:hi], likewise -/
def rSlM (K : PySem.W.Frag) : V → Option Int → Option Int → Hp → VK → Prop := fun x lo hi H Q => ∃ a xs, x = .ref a ∧ SqL K H a xs ∧ ∀ p, H p = none → p ≠ sysModules → Q (.ref p) (upd H p (.lst (cutV xs lo hi)))
theorem sl_listM {X : Cx} : SlR X (rSlM X.K) := by
  intro pins s σ H x v vl vu lo hi sl Q I rx hs pl pu h
  obtain ⟨a, xs, rfl, sq, q⟩ := h
  cases rx
  obtain ⟨its, r, ht, small⟩ := I.list sq
  have same := r.length
  refine ⟨"list", _, slot_list_getitem.lookup, ht.isList.typeIs, wpAny_getItem_list_slice ht.isList hs pl pu .none (by simp) ?_ (by rw [List.size_toArray] <;> omega)⟩
  rw [slicePick_cut, ← same]
  exact ⟨.ref s.heap.objs.size, _, I.laid (t' := s.toks) (o := .lst (cutV xs lo hi)) (fun b ob q => Heap.get?_push_of_some _ q) (Nat.le_refl _) ⟨Nat.le_trans (cutV_length xs lo hi) small, _, 0, (r.drop (HT.sIx xs.length 0 lo)).take (HT.sIx xs.length xs.length hi - HT.sIx xs.length 0 lo), Heap.get?_push_size _ rfl⟩, rfl, q _ (I.hok.fresh (Nat.le_refl _)) (Nat.ne_of_gt I.big)⟩
/-- for i, x in enumerate(a list) -/
theorem for_enumL {K : PySem.W.Frag} {a : Addr} {xs : List V} {g : TG} {tb : TS} {D : Ends} {σ : L2.St} {H : Hp} (Pv : Nat → L2.St → Hp → Prop) (h0 : Pv 0 σ H) (hq : ∀ i σ H, Pv i σ H → SqL K H a xs)
    (hs : ∀ (i : Nat) (x : V) (T : Addr) (σ : L2.St) (H : Hp), xs[i]? = some x → Pv i σ H → H T = none → g (.ref T) σ (upd H T (.tup [.int (i : Nat), x])) fun σ2 H2 => tb { D with nx := Pv (i + 1), ct := Pv (i + 1), bk := D.nx } σ2 H2) (hd : ∀ σ H, Pv xs.length σ H → D.nx σ H) :
    ∃ W : Nat → Nat → L2.St → Hp → Prop, (∃ m, W 0 m σ H) ∧ ∀ i m σ H, W i m σ H →
      ((Ite K a).stop i H ∧ D.nx σ H) ∨ ((Ite K a).go i H ∧ ∃ N : L2.St → Hp → Prop, (∀ σ' H', N σ' H' → ∃ m', m' < m ∧ W (i + 1) m' σ' H') ∧ ∀ v H', (Ite K a).yld i H v H' → g v σ H' fun σ2 H2 => tb { D with nx := N, ct := N, bk := D.nx } σ2 H2) := by
  refine ⟨fun i m σ H => m = xs.length - i ∧ i ≤ xs.length ∧ Pv i σ H, ⟨_, rfl, Nat.zero_le _, h0⟩, ?_⟩
  rintro i m σ H ⟨rfl, le, now⟩
  have sq := hq i σ H now
  by_cases lt : i < xs.length
  · refine .inr ⟨⟨xs, xs[i], sq, List.getElem?_eq_getElem lt⟩, Pv (i + 1), fun σ' H' z => ⟨xs.length - (i + 1), by omega, rfl, lt, z⟩, ?_⟩
    rintro v H' ⟨T, x, rfl, free, rfl, all⟩
    exact hs i x T σ H (all xs sq) now free
  · obtain rfl : i = xs.length := by omega
    exact .inl ⟨⟨xs, sq, Nat.le_refl _⟩, hd σ H now⟩
end GG


namespace GG
open PySem PySem.Spec PyProof.Rows L2
/-! ### what a ratio is, by its datum -/
def isW : PyData → Bool
  | .int _ => true
  | _ => false
def isB : PyData → Bool
  | .bool _ => true
  | _ => false
def lw (t b : Int) : Int × Int := (t / ((Nat.gcd t.natAbs b.natAbs : Nat) : Int), b / ((Nat.gcd t.natAbs b.natAbs : Nat) : Int))
def isR : PyData → Bool
  | .int _ => true
  | .tuple [.int _, .int b] => decide (0 < b)
  | .list [.int _, .int b] => decide (0 < b)
  | _ => false
def ratOf : PyData → Int × Int
  | .int i => (i, 1)
  | .tuple [.int a, .int b] => lw a b
  | .list [.int a, .int b] => lw a b
  | _ => (0, 1)
def smallR : PyData → Prop
  | .int i => i.natAbs < 2 ^ 120
  | .tuple [.int a, .int b] => a.natAbs < 2 ^ 120 ∧ b.natAbs < 2 ^ 120
  | .list [.int a, .int b] => a.natAbs < 2 ^ 120 ∧ b.natAbs < 2 ^ 120
  | _ => True
def tyD : PyData → String
  | .none => "NoneType"
  | .bool _ => "bool"
  | .int _ => "int"
  | .str _ => "str"
  | .list _ => "list"
  | .tuple _ => "tuple"
  | .dict _ => "dict"
def isSeq : PyData → Bool
  | .list _ => true
  | .tuple _ => true
  | _ => false
theorem Da.ty {K : PySem.W.Frag} {H : Hp} {v : V} {d : PyData} (h : Da H v d) : TyX K H v (.type (tyD d)) := by
  cases h with
  | non => exact .base .non
  | bl b => exact .base (.bl b)
  | int i => exact .base (.int i)
  | str x => exact .base (.str x)
  | lst e _ _ => exact .base (.lst e)
  | tup e _ => exact .base (.tup e)
  | dic e _ => exact .base (.dK e)
theorem kit_int {K : PySem.W.Frag} (d : PyData) : PySem.W.kitOne K (.type (tyD d)) (.type "int") = some (isW d || (isB d)) := by
  cases d <;> exact kit_ty (by kernel_rfl)
theorem kit_bool {K : PySem.W.Frag} (d : PyData) : PySem.W.kitOne K (.type (tyD d)) (.type "bool") = some (isB d) := by
  cases d <;> exact kit_ty (by kernel_rfl)
theorem kit_seq {K : PySem.W.Frag} (d : PyData) : PySem.W.kitAny K (.type (tyD d)) [.type "tuple", .type "list"] = some (isSeq d) := by
  cases d
  case list => exact kitAny_cons (b := false) (kit_ty (by kernel_rfl)) (fun _ => kitAny_cons (b := true) (kit_ty (by kernel_rfl)) (fun z => by cases z) (fun _ => rfl)) (fun z => by cases z)
  case tuple => exact kitAny_cons (b := true) (kit_ty (by kernel_rfl)) (fun z => by cases z) (fun _ => rfl)
  all_goals exact kitAny_cons (b := false) (kit_ty (by kernel_rfl)) (fun _ => kitAny_cons (b := false) (kit_ty (by kernel_rfl)) (fun _ => kitAny_nil) (fun z => by cases z)) (fun z => by cases z)
theorem ix_any {X : Cx} : IxR X (fun x y H Q => rIxL X.K x y H Q ∨ rIxT X.K x y H Q) := by
  intro value slice pins s σ H x y v u Q I rx ry h hs
  rcases h with h | h
  · exact ix_list value slice pins s σ H x y v u Q I rx ry h hs
  · exact ix_tup value slice pins s σ H x y v u Q I rx ry h hs
theorem bBool : bootBuiltins "bool" = some (.type "bool") := by decide +kernel
theorem bTuple : bootBuiltins "tuple" = some (.type "tuple") := by decide +kernel
structure RTxt (K : PySem.W.Frag) (mg : Str → Option Value) : Prop where
  int : mg "int" = none
  bool : mg "bool" = none
  tuple : mg "tuple" = none
  list : mg "list" = none
  len : mg "len" = none
  isi : mg "isinstance" = none
  gcd : mg "gcd" = some (.builtin "math.gcd")
theorem bIsi : bootBuiltins "isinstance" = some (.builtin "isinstance") := by decide +kernel
abbrev sWhole : Stmt := topS 13
abbrev sRatio : Stmt := topS 14
abbrev sLow : Stmt := topS 15
def spWhole : Sp := fun vs H Q _ => ∃ v d, vs = [v] ∧ Da H v d ∧ Q (.bl (isW d)) H
def spRatio : Sp := fun vs H Q _ => ∃ v d, vs = [v] ∧ Da H v d ∧ ∀ H', Same H H' → Q (.bl (isR d)) H'
def spLow : Sp := fun vs H Q _ => ∃ t b : Int, vs = [.int t, .int b] ∧ 0 < b ∧ b.natAbs < 2 ^ 250 ∧ ∀ p, H p = none → Q (.ref p) (upd H p (.tup [.int (lw t b).1, .int (lw t b).2]))
section
variable {P : Program} {w : World} {K : PySem.W.Frag} {mg : Str → Option Value} {base : Heap}
theorem scWhole : FnScope ["value"] ["value"] (defScope sWhole) := ⟨rfl, rfl, rfl, by decide +kernel, rfl, by decide +kernel, by decide +kernel⟩
theorem kn_whole (D : DefIs K mg "is_whole" sWhole) (T : RTxt K mg) : Kn P w K mg base "is_whole" 1 ["value"] spWhole := by
  refine .of D (fun _ _ _ _ _ _ us hl => match us, hl with | [_], _ => rfl) fun _ _ F => ?_
  refine F.ok scWhole (fun vs H Q E h => ?_) (fun cdv A outer s H vs Q E hr h => ?_)
  · obtain ⟨v, d, rfl, _⟩ := h
    rfl
  · obtain ⟨v, d, rfl, da, k⟩ := h
    refine ⟨_, pss_one (ps_ret (pe_and (pe_callB call_isi (by rfl) T.isi bIsi (pa_cons (pv 0) (pa_cons (pe_bltn (v := .ty "int") rfl T.int bInt rfl) pa_nil)))
      (pe_one (pe_not (pe_callB call_isi (by rfl) T.isi bIsi (pa_cons (pv 0) (pa_cons (pe_bltn (v := .ty "bool") rfl T.bool bBool rfl) pa_nil))))))), ?_⟩
    refine ⟨_, rfl, v, .ty "int", _, _, _, rfl, .ty _, da.ty, kit_int d, _, rfl, ?_⟩
    refine ite2 (fun z => ?_) (fun z => ?_)
    · refine ⟨_, rfl, v, .ty "bool", _, _, _, rfl, .ty _, da.ty, kit_bool d, _, rfl, ?_⟩
      have e : (!(isB d)) = isW d := by
        cases d <;> first | rfl | (simp [isW, isB] at z)
      rw [e]
      exact k
    · have e : isW d = false := by
        cases d <;> first | rfl | (simp [isW, isB] at z)
      rw [e] at k
      exact k
theorem scRatio : FnScope ["value"] ["value"] (defScope sRatio) := ⟨rfl, rfl, rfl, by decide +kernel, rfl, by decide +kernel, by decide +kernel⟩
theorem isR_long {xs : List PyData} (h : xs.length ≠ 2) : isR (.list xs) = false ∧ isR (.tuple xs) = false := by
  match xs, h with
  | [], _ => exact ⟨rfl, rfl⟩
  | [_], _ => exact ⟨by simp [isR], by simp [isR]⟩
  | [_, _], h => exact absurd rfl h
  | _ :: _ :: _ :: _, _ => exact ⟨by simp [isR], by simp [isR]⟩
theorem DaAll.length {H : Hp} : ∀ {vs : List V} {ds : List PyData}, DaAll H vs ds → vs.length = ds.length
  | _, _, .nil => rfl
  | _, _, .cons _ t => by rw [List.length_cons, List.length_cons, t.length]
/-- a list or a tuple with these items -/
theorem Da.seq {K : PySem.W.Frag} {H : Hp} {v : V} {d : PyData} (h : Da H v d) (s : isSeq d = true) : ∃ a xs ds, v = .ref a ∧ (SqL K H a xs ∨ SqT K H a xs) ∧ DaAll H xs ds ∧ (d = .list ds ∨ d = .tuple ds) ∧ xs.length = ds.length := by
  cases h with
  | lst e n t => exact ⟨_, _, _, rfl, .inl (.inl (.inl e)), t, .inl rfl, t.length⟩
  | tup e t => exact ⟨_, _, _, rfl, .inr (.inl (.inl e)), t, .inr rfl, t.length⟩
  | _ => cases s
theorem kn_ratio (D : DefIs K mg "is_ratio" sRatio) (T : RTxt K mg) (B : Kn P w K mg base "is_whole" 1 ["value"] spWhole) : Kn P w K mg base "is_ratio" 2 ["value"] spRatio := by
  refine .of D (fun _ _ _ _ _ _ us hl => match us, hl with | [_], _ => rfl) fun _ _ F => ?_
  refine F.ok scRatio (fun vs H Q E h => ?_) (fun cdv A outer s H vs Q E hr h => ?_)
  · obtain ⟨v, d, rfl, _⟩ := h
    rfl
  · obtain ⟨v, d, rfl, da, k⟩ := h
    refine ⟨_, pss_cons (ps_if (pt_val (pe_kn B hr (pa_cons (pv 0) pa_nil))) (pss_one (ps_ret pe_bl)) pss_nil)
      (pss_cons (ps_if (PW.pt (pw_or (pt_not (pt_val (pe_callB call_isiT (by rfl) T.isi bIsi (pa_cons (pv 0) (pa_cons (pe_tup (pa_cons (pe_bltn (v := .ty "tuple") rfl T.tuple bTuple rfl) (pa_cons (pe_bltn (v := .ty "list") rfl T.list bList rfl) pa_nil))) pa_nil)))))
          (pw_or1 (pt_cmpR op_ne (pe_callB call_len_seq (by rfl) T.len PySem.boot_len (pa_cons (pv 0) pa_nil)) pe_int (nomark _))))) (pss_one (ps_ret pe_bl)) pss_nil)
      (pss_one (ps_ret (pe_and (pe_kn B hr (pa_cons (pe_ix ix_any (pv 0) pe_int (fun _ _ => rfl)) pa_nil)) (pe_and (pe_kn B hr (pa_cons (pe_ix ix_any (pv 0) pe_int (fun _ _ => rfl)) pa_nil)) (pe_one (pe_cmpR op_gt (pe_ix ix_any (pv 0) pe_int (fun _ _ => rfl)) pe_int (nomark _)))))))), ?_⟩
    refine ⟨_, rfl, v, d, rfl, da, _, rfl, ?_⟩
    refine ite2 (fun z => ?_) (fun z => ?_)
    · have e : isR d = true := by cases d <;> first | rfl | (simp [isW] at z)
      rw [e] at k
      exact k H (L2.Same.refl H)
    refine ⟨_, rfl, (by show 2 ≤ sizeLine; rw [sizeLine_eq]; decide), fun p np => ?_⟩
    have S1 := GG.Stay.new (Stay.refl (H := H)) np (o := .tup [.ty "tuple", .ty "list"])
    have da1 := da.stay S1
    have Sa : Same H (upd H p (.tup [.ty "tuple", .ty "list"])) := fun b o e => by
      rw [upd_ne (ne_of_none e np)]
      exact e
    refine ⟨v, p, _, _, _, _, rfl, upd_same, .cons (.ty _) (.cons (.ty _) .nil), da1.ty, kit_seq d, _, rfl, ?_⟩
    generalize (upd H p (.tup [.ty "tuple", .ty "list"])) = H1 at S1 da1 Sa ⊢
    cases hs : isSeq d with
    | false =>
      refine iteT ?_
      have e : isR d = false := by
        cases d with
        | int i => exact absurd (show isW (.int i) = true from rfl) z
        | list xs => cases hs
        | tuple xs => cases hs
        | _ => rfl
      rw [e] at k
      exact k H1 Sa
    | true =>
      refine iteF ?_
      obtain ⟨a, xs, ds, rfl, sq, all, hd, hl⟩ := da1.seq (K := K) hs
      refine ⟨_, rfl, a, xs, rfl, sq, rfl, _, rfl, ?_⟩
      refine ite2 (fun z2 => ?_) (fun z2 => ?_)
      · have e : isR d = false := by
          have hn : ds.length ≠ 2 := fun q => by
            rw [hl, q] at z2
            simp at z2
          rcases hd with rfl | rfl
          · exact (isR_long hn).1
          · exact (isR_long hn).2
        rw [e] at k
        exact k H1 Sa
      · have h2 : ds.length = 2 := by
          have q : xs.length = 2 := by
            by_cases q : (xs.length : Int) = 2
            · omega
            · exfalso
              apply z2
              simp [q]
          omega
        obtain ⟨d0, d1, rfl⟩ : ∃ d0 d1, ds = [d0, d1] := by
          match ds, h2 with
          | [d0, d1], _ => exact ⟨_, _, rfl⟩
        cases all with
        | @cons x0 xs' _ _ a0 all' =>
          cases all' with
          | @cons x1 xs'' _ _ a1 all'' =>
            cases all''
            have ix : ∀ (n : Nat) (x : V), [x0, x1][n]? = some x → ∀ (Q' : V → Hp → Prop), Q' x H1 → (rIxL K (.ref a) (.int (n : Int)) H1 Q' ∨ rIxT K (.ref a) (.int (n : Int)) H1 Q') := fun n x hx Q' q => by
              rcases sq with sq | sq
              · exact .inl ⟨a, _, _, x, rfl, rfl, sq, atI_nat hx, q⟩
              · exact .inr ⟨a, _, _, x, rfl, rfl, sq, atI_nat hx, q⟩
            refine ⟨_, rfl, ix 0 x0 rfl _ ⟨x0, d0, rfl, a0, _, rfl, ?_⟩⟩
            cases h0 : isW d0 with
            | false =>
              refine iteF ?_
              have e : isR d = false := by rcases hd with rfl | rfl <;> (cases d0 <;> first | rfl | (simp [isW] at h0))
              rw [e] at k
              exact k H1 Sa
            | true =>
              refine iteT ?_
              refine ⟨_, rfl, ix 1 x1 rfl _ ⟨x1, d1, rfl, a1, _, rfl, ?_⟩⟩
              cases h1 : isW d1 with
              | false =>
                refine iteF ?_
                have e : isR d = false := by rcases hd with rfl | rfl <;> (cases d0 <;> first | rfl | (cases d1 <;> first | rfl | (simp [isW] at h1)))
                rw [e] at k
                exact k H1 Sa
              | true =>
                refine iteT ?_
                cases d0 with
                | int i0 =>
                  cases d1 with
                  | int i1 =>
                    cases a1
                    refine ⟨_, rfl, ix 1 (.int i1) rfl _ ⟨_, _, rfl, rfl, ?_⟩⟩
                    have e : isR d = decide (0 < i1) := by rcases hd with rfl | rfl <;> rfl
                    rw [e] at k
                    exact k H1 Sa
                  | _ => cases h1
                | _ => cases h0
theorem scLow : FnScope ["top", "bottom", "shared"] ["top", "bottom"] (defScope sLow) := ⟨rfl, rfl, rfl, by decide +kernel, rfl, by decide +kernel, by decide +kernel⟩
theorem kn_low (D : DefIs K mg "lowest" sLow) (T : RTxt K mg) : Kn P w K mg base "lowest" 1 ["top", "bottom"] spLow := by
  refine .of D (fun _ _ _ _ _ _ us hl => match us, hl with | [_, _], _ => rfl) fun _ _ F => ?_
  refine F.ok scLow (fun vs H Q E h => ?_) (fun cdv A outer s H vs Q E hr h => ?_)
  · obtain ⟨t, b, rfl, _⟩ := h
    rfl
  · obtain ⟨t, b, rfl, b0, b1, k⟩ := h
    refine ⟨_, pss_cons (ps_set (i := 2) scLow.nd rfl (.inl rfl) (pe_callBfun cr_gcd (by rfl) T.gcd (pa_cons (pv 0) (pa_cons (pv 1) pa_nil))))
      (pss_one (ps_ret (pe_tup (pa_cons (pe_op op_fdivW (pv 0) (pv 2)) (pa_cons (pe_op op_fdivW (pv 1) (pv 2)) pa_nil))))), ?_⟩
    have g0 : 0 < Nat.gcd t.natAbs b.natAbs := Nat.gcd_pos_of_pos_right _ (by omega)
    have g1 : Nat.gcd t.natAbs b.natAbs ≤ b.natAbs := Nat.le_of_dvd (by omega) (Nat.gcd_dvd_right _ _)
    have dv : CDivW t ((Nat.gcd t.natAbs b.natAbs : Nat) : Int) := wide_div (b := 250) (by omega) (by rw [Int.natAbs_natCast]; exact Nat.lt_of_le_of_lt g1 b1) (by decide) (by decide)
    have dv2 : CDivW b ((Nat.gcd t.natAbs b.natAbs : Nat) : Int) := wide_div (b := 250) (by omega) (by rw [Int.natAbs_natCast]; exact Nat.lt_of_le_of_lt g1 b1) (by decide) (by decide)
    refine ⟨_, rfl, _, rfl, t, b, rfl, _, rfl, _, rfl, _, _, rfl, rfl, dv, _, rfl, _, rfl, _, _, rfl, rfl, dv2, (by show 2 ≤ sizeLine; rw [sizeLine_eq]; decide), fun p np => ?_⟩
    exact k p np
end
end GG


namespace GG
open PySem PySem.Spec PyProof.Rows L2
theorem Same.new {H H1 : Hp} {q : Addr} {o : HO} (a : Same H H1) (n : H1 q = none) : Same H (upd H1 q o) := fun c u e => by
  have z := a c u e
  rw [upd_ne (ne_of_none z n)]
  exact z
/-! ### defs that may raise -/
structure KnX (P : Program) (w : World) (K : PySem.W.Frag) (mg : Str → Option Value) (base : Heap) (x : Str) (k : Nat) (ps : List Str) (sp : Sp) : Prop where
  ex : ∃ f fd, mg x = some (.ref f) ∧ PySem.W.keepIn K (.ref f) = true ∧ Binds K fd ps [] ∧ FnOk P w K mg base (L2.CX P w) k f fd ps sp
theorem KnX.of {P : Program} {w : World} {K : PySem.W.Frag} {mg : Str → Option Value} {base : Heap} {x : Str} {st : Stmt} {k : Nat} {ps : List Str} {sp : Sp} (D : DefIs K mg x st)
    (hb : ∀ (kV doc pm : Value) (an : Option Addr) (cdv ct : Value) (us : List Value), us.length = ps.length → bindArgs (PySem.W.fnOf x x (defArgs st) (defBody st) (defScope st) .none kV doc pm an cdv ct) ⟨us, []⟩ = pure (ps.zip us))
    (ok : ∀ f fd, Fun K x x st f fd → FnOk P w K mg base (L2.CX P w) k f fd ps sp) : KnX P w K mg base x k ps sp := by
  obtain ⟨f, fd, F, m⟩ := D.ex
  exact ⟨f, fd, m, F.kp, F.binds hb, ok f fd F⟩
theorem pe_knX {X : Cx} {W : WX} {E : XK} {x : Str} {k : Nat} {ps : List Str} {sp : Sp} {e : Expr} {es : List Expr} {t : TA} {p pos : Pos} (F : KnX X.prog X.w X.K X.mg X.base x k ps sp) (hr : Room k X.A) (tk : Takes X W) (hW : ∀ cls d σ H, E cls d H → W cls d σ H) (ha : PA X (e :: es) t) (hg : Gl X x := by rfl)
    (hdb : (x == ("__debug__" : Str)) = false := by decide) (he : starEach (e :: es) X.env = (false, eval e X.env) :: starEach es X.env := by rfl) (hpl : (backTo pos (starEach es X.env)).any (·.1) = false := by rfl) :
    PE X (.Call (.Name x p) (e :: es) [] pos) (tCall sp [] E t) := by
  obtain ⟨f, fd, hm, hk, hb, G⟩ := F.ex
  exact pe_call G hr hg hm hk hb .nil (passes_call tk hW) ha hdb he hpl
abbrev sBN : Stmt := inClass (topS 5) 0
abbrev sTold : Stmt := topS 16
/-- BadNumber's __init__ -/
def spBN (C : Addr) : Sp := fun vs H Q _ => ∃ (a : Addr) (y1 y2 : V), vs = [.ref a, y1, y2] ∧ H a = some (exo a C none) ∧ ∀ (dx : Addr) (H' : Hp), H dx = none → dx ≠ a → H' a = some (exo a C (some dx)) → H' dx = some (exd dx [("number", y2), ("what", y1)]) → Keep a H H' → Q .non H'
structure BNTxt (P : Program) (w : World) (K : PySem.W.Frag) (mg : Str → Option Value) (base : Heap) (C : Addr) : Prop where
  m : mg "BadNumber" = some (.ref C)
  t : ExT K C
  ini : ∃ fI fd, PySem.W.findIn K (.ref C) "__init__" = some (some (.ref fI)) ∧ PySem.W.typeIn K (.ref fI) = some (.type "function") ∧ Binds K fd ["self", "what", "number"] [] ∧ FnOk P w K mg base CX0 1 fI fd ["self", "what", "number"] (spBN C)
section
variable {P : Program} {w : World} {K : PySem.W.Frag} {mg : Str → Option Value} {base : Heap}
theorem scBN : FnScope ["self", "what", "number"] ["self", "what", "number"] (defScope sBN) := ⟨rfl, rfl, rfl, by decide +kernel, rfl, by decide +kernel, by decide +kernel⟩
theorem bn_of {C fI : Addr} {fd : FuncData} (m : mg "BadNumber" = some (.ref C)) (t : ExT K C) (n1 : PySem.W.findIn K (.ref C) "what" = some none) (n2 : PySem.W.findIn K (.ref C) "number" = some none)
    (i : PySem.W.findIn K (.ref C) "__init__" = some (some (.ref fI))) (ti : PySem.W.typeIn K (.ref fI) = some (.type "function")) (U : Fun K "__init__" "BadNumber.__init__" sBN fI fd) : BNTxt P w K mg base C := by
  refine ⟨m, t, fI, fd, i, ti, U.binds fun _ _ _ _ _ _ us hl => match us, hl with | [_, _, _], _ => rfl, ?_⟩
  refine U.ok scBN (fun vs H Q E h => ?_) (fun cdv A outer s H vs Q E hr h => ?_)
  · obtain ⟨a, y1, y2, rfl, _⟩ := h
    rfl
  · obtain ⟨a, y1, y2, rfl, he, k⟩ := h
    refine ⟨_, pss_cons (ps_ost (pv 0) (pv 1)) (pss_one (ps_ost (pv 0) (pv 2))), ?_⟩
    refine ⟨_, rfl, _, rfl, a, C, rfl, t.ox, n1, .inl ⟨he, fun dx hdx ne => ?_⟩⟩
    refine ⟨_, rfl, _, rfl, a, C, rfl, t.ox, n2, .inr ⟨dx, [("what", y1)], upd_same, by rw [upd_ne ne, upd_same], (by show 1 ≤ 900; decide), ?_⟩⟩
    refine k dx _ hdx ne (by rw [upd_ne ne.symm, upd_same]) upd_same fun b o nb e => ?_
    rw [upd_ne (ne_of_none e hdx), upd_ne nb, upd_ne (ne_of_none e hdx)]
    exact e
/-- raise BadNumber(a, b): what is left behind the arguments -/
theorem raiseBN {C : Addr} {y1 y2 : V} {H1 : Hp} {R : Value → Option Addr → Hp → Prop} (k : ∀ (d : Addr) (H' : Hp), H' d = some (.xd [("number", y2), ("what", y1)]) → Same H1 H' → R (.ref C) (some d) H') :
    [y1, y2].length ≤ 1000 ∧ ∀ a, H1 a = none → spBN C (.ref a :: ([y1, y2] ++ [])) (upd H1 a (exo a C none))
      (fun v H2 => v = .non ∧ ∃ (d : Addr) (fs : List (Str × V)), H2 a = some (exo a C (some d)) ∧ H2 d = some (exd d fs) ∧ H1 d = none ∧ R (.ref C) (some d) (upd (del H2 a) d (.xd fs))) (fun _ _ _ => False) := by
  refine ⟨(by show 2 ≤ 1000; decide), fun a na => ⟨a, y1, y2, rfl, upd_same, fun dx H2 hdx ne e1 e2 kp => ⟨rfl, dx, _, e1, e2, ?_, ?_⟩⟩⟩
  · rw [upd_ne ne] at hdx
    exact hdx
  · refine k dx _ upd_same fun b o z => ?_
    have nd : H1 dx = none := by
      rw [upd_ne ne] at hdx
      exact hdx
    rw [upd_ne (ne_of_none z nd), del_ne (ne_of_none z na)]
    exact kp b o (ne_of_none z na) (by rw [upd_ne (ne_of_none z na)]; exact z)
theorem ps_raiseBN {X : Cx} {C : Addr} {W : WX} {e1 e2 : Expr} {ta : TA} {p pos pos2 : Pos} (hc : X.calm = true) (T : BNTxt X.prog X.w X.K X.mg X.base C) (hr : Room 2 X.A) (tk : Takes X W) (ha : PA X [e1, e2] ta) (hg : Gl X "BadNumber" := by rfl)
    (he : starEach (e1 :: [e2]) X.env = (false, eval e1 X.env) :: starEach [e2] X.env := by rfl) (hpl : (backTo pos (starEach [e2] X.env)).any (·.1) = false := by rfl) :
    PS X (.Raise (some (.Call (.Name "BadNumber" p) [e1, e2] [] pos)) none pos2) (fun _ σ H => tMkO C (spBN C) [] ta σ H fun cls d H' => W cls d σ H') := by
  obtain ⟨fI, fd, i, ti, hb, G⟩ := T.ini
  exact ps_raise hc tk (pmk_oex (CX := CX0) T.t.ox i ti G hr hb .nil (fun _ _ _ _ _ _ _ z => z.elim) hg T.m ha (by decide) he hpl)
def spTold (C : Addr) : Sp := fun vs H Q E => ∃ v wv d, vs = [v, wv] ∧ Da H v d ∧ smallR d ∧ (isR d = true → ∀ p H', H' p = some (.tup [.int (ratOf d).1, .int (ratOf d).2]) → Same H H' → Q (.ref p) H') ∧
  (isR d = false → ∀ dd H', H' dd = some (.xd [("number", v), ("what", wv)]) → Same H H' → E (.ref C) (some dd) H')
theorem scTold : FnScope ["value", "what"] ["value", "what"] (defScope sTold) := ⟨rfl, rfl, rfl, by decide +kernel, rfl, by decide +kernel, by decide +kernel⟩
/-- a datum that is a ratio -/
theorem isR_cases {d : PyData} (h : isR d = true) : (∃ i, d = .int i) ∨ ∃ i b, (d = .tuple [.int i, .int b] ∨ d = .list [.int i, .int b]) ∧ 0 < b := by
  unfold isR at h
  split at h
  · exact .inl ⟨_, rfl⟩
  · exact .inr ⟨_, _, .inl rfl, of_decide_eq_true h⟩
  · exact .inr ⟨_, _, .inr rfl, of_decide_eq_true h⟩
  · cases h
theorem kn_told {C : Addr} (D : DefIs K mg "told" sTold) (T : RTxt K mg) (N : BNTxt P w K mg base C) (B : Kn P w K mg base "is_ratio" 2 ["value"] spRatio) (L : Kn P w K mg base "lowest" 1 ["top", "bottom"] spLow) : KnX P w K mg base "told" 3 ["value", "what"] (spTold C) := by
  refine .of D (fun _ _ _ _ _ _ us hl => match us, hl with | [_, _], _ => rfl) fun _ _ F => ?_
  refine F.okX scTold (fun vs H Q E h => ?_) (fun cdv A outer s H vs Q E hr h => ?_)
  · obtain ⟨v, wv, d, rfl, _⟩ := h
    rfl
  · obtain ⟨v, wv, d, rfl, da, sm, kQ, kE⟩ := h
    have hr1 : Room 1 _ := hr.mono (by decide)
    refine ⟨_, pss_cons (ps_if (pt_not (pt_val (pe_kn B hr (pa_cons (pv 0) pa_nil)))) (pss_one (ps_raiseBN rfl N hr (takes_of rfl rfl rfl rfl) (pa_cons (pv 1) (pa_cons (pv 0) pa_nil)))) pss_nil)
      (pss_cons (ps_if (pt_val (pe_callB call_isi (by rfl) T.isi bIsi (pa_cons (pv 0) (pa_cons (pe_bltn (v := .ty "int") rfl T.int bInt rfl) pa_nil)))) (pss_one (ps_ret (pe_tup (pa_cons (pv 0) (pa_cons pe_int pa_nil))))) pss_nil)
      (pss_one (ps_ret (pe_kn L hr1 (pa_cons (pe_ix ix_any (pv 0) pe_int (fun _ _ => rfl)) (pa_cons (pe_ix ix_any (pv 0) pe_int (fun _ _ => rfl)) pa_nil)))))), ?_⟩
    refine ⟨_, rfl, v, d, rfl, da, fun H1 S1 => ⟨_, rfl, ?_⟩⟩
    have da1 := da.stay (Same.stay S1)
    cases hR : isR d with
    | false =>
      refine iteT ?_
      exact ⟨_, rfl, _, rfl, raiseBN fun dd H' e S' => kE hR dd H' e (L2.Same.trans S1 S')⟩
    | true =>
      refine iteF ?_
      refine ⟨_, rfl, v, .ty "int", _, _, _, rfl, .ty _, da1.ty, kit_int d, _, rfl, ?_⟩
      rcases isR_cases hR with ⟨i, rfl⟩ | ⟨i, b, hd, b0⟩
      · refine iteT ?_
        cases da1
        refine ⟨_, rfl, (by show 2 ≤ sizeLine; rw [sizeLine_eq]; decide), fun p np => ?_⟩
        exact kQ hR p _ upd_same (GG.Same.new S1 np)
      · have e1 : (isW d || isB d) = false := by rcases hd with rfl | rfl <;> rfl
        have e2 : isSeq d = true := by rcases hd with rfl | rfl <;> rfl
        rw [e1]
        refine iteF ?_
        obtain ⟨a, xs, ds, rfl, sq, all, hd2, hl⟩ := da1.seq (K := K) e2
        have e3 : ds = [.int i, .int b] := by
          rcases hd with rfl | rfl <;> rcases hd2 with z | z <;> cases z <;> rfl
        have e4 : ratOf d = lw i b := by rcases hd with rfl | rfl <;> rfl
        have sb : b.natAbs < 2 ^ 120 := by rcases hd with rfl | rfl <;> exact sm.2
        rw [e4] at kQ
        subst e3
        cases all with
        | @cons x0 xs' _ _ a0 all' =>
          cases all' with
          | @cons x1 xs'' _ _ a1 all'' =>
            cases all''
            cases a0
            cases a1
            have ix : ∀ (n : Nat) (x : V), [V.int i, V.int b][n]? = some x → ∀ (Q' : V → Hp → Prop), Q' x H1 → (rIxL K (.ref a) (.int (n : Int)) H1 Q' ∨ rIxT K (.ref a) (.int (n : Int)) H1 Q') := fun n x hx Q' q => by
              rcases sq with sq | sq
              · exact .inl ⟨a, _, _, x, rfl, rfl, sq, atI_nat hx, q⟩
              · exact .inr ⟨a, _, _, x, rfl, rfl, sq, atI_nat hx, q⟩
            refine ⟨_, rfl, ix 0 _ rfl _ ⟨_, rfl, ix 1 _ rfl _ ⟨i, b, rfl, b0, Nat.lt_of_lt_of_le sb (Nat.pow_le_pow_right (by decide) (by decide)), fun p np => ?_⟩⟩⟩
            exact kQ hR p _ upd_same (GG.Same.new S1 np)
end
end GG


namespace GG
open PySem PySem.Spec PyProof.Rows L2
/-! ### sums, differences, products, less -/
theorem lw_exact (t b : Int) : (lw t b).1 * ((Nat.gcd t.natAbs b.natAbs : Nat) : Int) = t ∧ (lw t b).2 * ((Nat.gcd t.natAbs b.natAbs : Nat) : Int) = b :=
  ⟨Int.ediv_mul_cancel (Int.ofNat_dvd_left.mpr (Nat.gcd_dvd_left _ _)), Int.ediv_mul_cancel (Int.ofNat_dvd_left.mpr (Nat.gcd_dvd_right _ _))⟩
theorem lw_small {t b : Int} (h : 0 < b) : (lw t b).1.natAbs ≤ t.natAbs ∧ (lw t b).2.natAbs ≤ b.natAbs ∧ 0 < (lw t b).2 := by
  have g0 : 0 < Nat.gcd t.natAbs b.natAbs := Nat.gcd_pos_of_pos_right _ (by omega)
  obtain ⟨e1, e2⟩ := lw_exact t b
  refine ⟨?_, ?_, ?_⟩
  · have z := congrArg Int.natAbs e1
    rw [Int.natAbs_mul, Int.natAbs_natCast] at z
    rw [← z]
    exact Nat.le_mul_of_pos_right _ g0
  · have z := congrArg Int.natAbs e2
    rw [Int.natAbs_mul, Int.natAbs_natCast] at z
    rw [← z]
    exact Nat.le_mul_of_pos_right _ g0
  · by_cases p : 0 < (lw t b).2
    · exact p
    · exfalso
      have : (lw t b).2 * ((Nat.gcd t.natAbs b.natAbs : Nat) : Int) ≤ 0 := Int.mul_nonpos_of_nonpos_of_nonneg (by omega) (by omega)
      omega
theorem ratOf_small {d : PyData} (h : isR d = true) (s : smallR d) : (ratOf d).1.natAbs < 2 ^ 120 ∧ (ratOf d).2.natAbs < 2 ^ 120 ∧ 0 < (ratOf d).2 := by
  rcases isR_cases h with ⟨i, rfl⟩ | ⟨i, b, rfl | rfl, b0⟩
  · exact ⟨s, (by decide +kernel : (1 : Nat) < 2 ^ 120), (by decide : (0 : Int) < 1)⟩
  · obtain ⟨x, y, z⟩ := lw_small (t := i) b0
    exact ⟨Nat.lt_of_le_of_lt x s.1, Nat.lt_of_le_of_lt y s.2, z⟩
  · obtain ⟨x, y, z⟩ := lw_small (t := i) b0
    exact ⟨Nat.lt_of_le_of_lt x s.1, Nat.lt_of_le_of_lt y s.2, z⟩
/-- an operation on two ratios; ok: what it leaves -/
def spBin (C : Addr) (ok : Int × Int → Int × Int → Hp → VK → Prop) : Sp := fun vs H Q E => ∃ v1 v2 d1 d2, vs = [v1, v2] ∧ Da H v1 d1 ∧ Da H v2 d2 ∧ smallR d1 ∧ smallR d2 ∧
  (isR d1 = true → isR d2 = true → ok (ratOf d1) (ratOf d2) H Q) ∧
  (isR d1 = false → ∀ dd H', H' dd = some (.xd [("number", v1), ("what", .str "ratio")]) → Same H H' → E (.ref C) (some dd) H') ∧
  (isR d1 = true → isR d2 = false → ∀ dd H', H' dd = some (.xd [("number", v2), ("what", .str "ratio")]) → Same H H' → E (.ref C) (some dd) H')
def okTup (f : Int × Int → Int × Int → Int × Int) : Int × Int → Int × Int → Hp → VK → Prop := fun a b H Q => ∀ p H', H' p = some (.tup [.int (f a b).1, .int (f a b).2]) → Same H H' → Q (.ref p) H'
def rPlus (a b : Int × Int) : Int × Int := lw (a.1 * b.2 + b.1 * a.2) (a.2 * b.2)
def rMinus (a b : Int × Int) : Int × Int := lw (a.1 * b.2 - b.1 * a.2) (a.2 * b.2)
def rTimes (a b : Int × Int) : Int × Int := lw (a.1 * b.1) (a.2 * b.2)
def rLess (a b : Int × Int) : Bool := decide (a.1 * b.2 < b.1 * a.2)
def okLess : Int × Int → Int × Int → Hp → VK → Prop := fun a b H Q => ∀ H', Same H H' → Q (.bl (rLess a b)) H'
theorem mulW {i j : Int} (a : i.natAbs < 2 ^ 120) (b : j.natAbs < 2 ^ 120) : CMulW i j := wide_mul a b (by decide) (by decide) (by decide)
section
variable {P : Program} {w : World} {K : PySem.W.Frag} {mg : Str → Option Value} {base : Heap}

end
end GG


namespace GG
open PySem PySem.Spec PyProof.Rows L2
/-! ### the law's own reckoning -/
theorem bAbs : bootBuiltins "abs" = some (.builtin "abs") := by decide +kernel
abbrev sGcd : Stmt := topS 29
abbrev sQ : Stmt := topS 30
def spGcd : Sp := fun vs H Q _ => ∃ a b : Int, vs = [.int a, .int b] ∧ a.natAbs < 2 ^ 250 ∧ b.natAbs < 2 ^ 250 ∧ Q (.int ((Nat.gcd a.natAbs b.natAbs : Nat) : Int)) H
def spQ : Sp := fun vs H Q _ => ∃ t b : Int, vs = [.int t, .int b] ∧ 0 < b ∧ t.natAbs < 2 ^ 250 ∧ b.natAbs < 2 ^ 250 ∧ ∀ p, H p = none → Q (.ref p) (upd H p (.tup [.int (lw t b).1, .int (lw t b).2]))
def smallP (a : Int × Int) : Prop := a.1.natAbs < 2 ^ 120 ∧ a.2.natAbs < 2 ^ 120 ∧ 0 < a.2
def spLaw2 (ok : Int × Int → Int × Int → Hp → VK → Prop) : Sp := fun vs H Q _ => ∃ (p1 p2 : Addr) (a b : Int × Int), vs = [.ref p1, .ref p2] ∧ H p1 = some (.tup [.int a.1, .int a.2]) ∧ H p2 = some (.tup [.int b.1, .int b.2]) ∧ smallP a ∧ smallP b ∧ ok a b H Q
/-- one lap of Euclid halves the product -/
theorem lap_half {x y : Nat} (h : y < x) : 2 * (y * (x % y)) ≤ x * y := by
  by_cases y0 : y = 0
  · subst y0
    simp
  · have e := Nat.div_add_mod x y
    have q1 : 1 ≤ x / y := Nat.div_pos (Nat.le_of_lt h) (by omega)
    have m : x % y < y := Nat.mod_lt _ (by omega)
    have le : y ≤ y * (x / y) := Nat.le_mul_of_pos_right _ q1
    have two : 2 * (x % y) ≤ x := by omega
    calc 2 * (y * (x % y)) = y * (2 * (x % y)) := by rw [Nat.mul_left_comm]
      _ ≤ y * x := Nat.mul_le_mul_left _ two
      _ = x * y := Nat.mul_comm _ _
section
variable {P : Program} {w : World} {K : PySem.W.Frag} {mg : Str → Option Value} {base : Heap}
theorem scGcd : FnScope ["_law_one", "_law_two", "_law_lap"] ["_law_one", "_law_two"] (defScope sGcd) := ⟨rfl, rfl, rfl, by decide +kernel, rfl, by decide +kernel, by decide +kernel⟩
theorem abs_nat (i : Int) : (if i < 0 then -i else i) = ((i.natAbs : Nat) : Int) := by
  split <;> omega
theorem kn_gcd (D : DefIs K mg "_law_gcd" sGcd) (za : mg "abs" = none) (zr : mg "range" = none) (zi : mg "int" = none) : Kn P w K mg base "_law_gcd" 1 ["_law_one", "_law_two"] spGcd := by
  refine .of D (fun _ _ _ _ _ _ us hl => match us, hl with | [_, _], _ => rfl) fun _ _ F => ?_
  refine F.ok scGcd (fun vs H Q E h => ?_) (fun cdv A outer s H vs Q E hr h => ?_)
  · obtain ⟨a, b, rfl, _⟩ := h
    rfl
  · obtain ⟨a, b, rfl, sa, sb, k⟩ := h
    refine ⟨_, pss_cons (ps_par (i := 0) (j := 1) rfl scGcd.nd rfl rfl (by decide) rfl rfl (pa_cons (pe_callB call_abs (by rfl) za bAbs (pa_cons (pv 0) pa_nil)) (pa_cons (pe_callB call_abs (by rfl) za bAbs (pa_cons (pv 1) pa_nil)) pa_nil)) rfl)
      (pss_cons (ps_for PassesOwn.never rfl (pi_range1 rfl zr (pa_cons pe_int pa_nil)) (pg_name (i := 2) scGcd.nd rfl (.inl rfl))
        (pss_cons (ps_if (pt_cmpR op_eq (pv 1) pe_int (nomark _)) (pss_one ps_break) pss_nil)
        (pss_one (ps_par (i := 0) (j := 1) rfl scGcd.nd rfl rfl (by decide) rfl rfl (pa_cons (pv 1) (pa_cons (pe_op op_mod (pe_callTy call_int1 (by rfl) zi bInt (pa_cons (pv 0) pa_nil)) (pv 1)) pa_nil)) rfl))))
      (pss_one (ps_ret (pv 0)))), ?_⟩
    refine ⟨_, rfl, a, rfl, _, rfl, b, rfl, _, _, rfl, ?_⟩
    rw [abs_nat, abs_nat]
    have fin : ∀ (x y : Nat) (v : Option V) (H' : Hp), H = H' → Nat.gcd x y = Nat.gcd a.natAbs b.natAbs → y = 0 → ∃ u, [some (V.int (x : Int)), some (V.int (y : Int)), v][0]? = some (some u) ∧ Q u H' := fun x y v H' e g z => by
      subst e z
      rw [Nat.gcd_zero_right] at g
      rw [← g] at k
      exact ⟨_, rfl, k⟩
    refine ⟨2000, rfl, by decide, by decide, for_range (n := 2000) (fun i σ H' => H = H' ∧ ∃ (x y : Nat) (v : Option V), σ = [some (.int (x : Int)), some (.int (y : Int)), v] ∧ Nat.gcd x y = Nat.gcd a.natAbs b.natAbs ∧ (i = 0 → x = a.natAbs ∧ y = b.natAbs) ∧ (0 < i → y < x ∧ x * y * 2 ^ (i - 1) ≤ a.natAbs * b.natAbs))
      ⟨rfl, a.natAbs, b.natAbs, none, rfl, rfl, fun _ => ⟨rfl, rfl⟩, fun z => absurd z (Nat.lt_irrefl _)⟩ ?_ ?_⟩
    · rintro i σ H' hi ⟨eh, x, y, v, rfl, g, h0, h1⟩
      refine ⟨_, rfl, rfl, _, rfl, ?_⟩
      refine ite2 (fun e => ?_) (fun e => ?_)
      · have z : y = 0 := by
          have := V.int.inj (of_decide_eq_true e)
          omega
        exact fin x y _ H' eh g z
      · have y0 : y ≠ 0 := fun z => e (by rw [z]; rfl)
        refine ⟨_, rfl, _, rfl, .inl ⟨_, rfl, _, rfl, _, _, rfl, rfl, (by omega), _, _, rfl, ?_⟩⟩
        refine ⟨eh, y, x % y, _, rfl, ?_, fun z => absurd z (by omega), fun _ => ⟨Nat.mod_lt _ (by omega), ?_⟩⟩
        · rw [← g, Nat.gcd_comm x y, Nat.gcd_rec y x, Nat.gcd_comm]
        · by_cases i0 : i = 0
          · obtain ⟨rfl, rfl⟩ := h0 i0
            subst i0
            have := Nat.mod_le a.natAbs b.natAbs
            simp only [Nat.zero_add, Nat.sub_self, Nat.pow_zero, Nat.mul_one]
            rw [Nat.mul_comm]
            exact Nat.mul_le_mul_right _ this
          · obtain ⟨lt, le⟩ := h1 (by omega)
            have hf := lap_half lt
            have e2 : 2 ^ (i + 1 - 1) = 2 * 2 ^ (i - 1) := by
              obtain ⟨j, rfl⟩ : ∃ j, i = j + 1 := ⟨i - 1, by omega⟩
              simp only [Nat.add_sub_cancel]
              rw [Nat.pow_succ, Nat.mul_comm]
            rw [e2]
            calc y * (x % y) * (2 * 2 ^ (i - 1)) = (2 * (y * (x % y))) * 2 ^ (i - 1) := by
                  rw [← Nat.mul_assoc, Nat.mul_comm (y * (x % y)) 2]
              _ ≤ x * y * 2 ^ (i - 1) := Nat.mul_le_mul_right _ hf
              _ ≤ _ := le
    · rintro σ H' ⟨eh, x, y, v, rfl, g, _, h1⟩
      obtain ⟨lt, le⟩ := h1 (by decide)
      refine fin x y v H' eh g ?_
      by_cases z : y = 0
      · exact z
      · exfalso
        have p : 1 ≤ x * y := Nat.mul_pos (by omega) (by omega)
        have q1 : 2 ^ (2000 - 1) ≤ x * y * 2 ^ (2000 - 1) := Nat.le_mul_of_pos_left _ p
        have q2 : a.natAbs * b.natAbs < 2 ^ 250 * 2 ^ 250 := Nat.mul_lt_mul'' sa sb
        rw [← Nat.pow_add] at q2
        have q3 : 2 ^ (250 + 250) ≤ 2 ^ (2000 - 1) := Nat.pow_le_pow_right (by decide) (by decide)
        exact absurd (Nat.lt_of_le_of_lt (Nat.le_trans q1 le) (Nat.lt_of_lt_of_le q2 q3)) (Nat.lt_irrefl _)
theorem scQ : FnScope ["_law_top", "_law_bottom", "_law_by"] ["_law_top", "_law_bottom"] (defScope sQ) := ⟨rfl, rfl, rfl, by decide +kernel, rfl, by decide +kernel, by decide +kernel⟩
theorem kn_q (D : DefIs K mg "_law_q" sQ) (B : Kn P w K mg base "_law_gcd" 1 ["_law_one", "_law_two"] spGcd) : Kn P w K mg base "_law_q" 2 ["_law_top", "_law_bottom"] spQ := by
  refine .of D (fun _ _ _ _ _ _ us hl => match us, hl with | [_, _], _ => rfl) fun _ _ F => ?_
  refine F.ok scQ (fun vs H Q E h => ?_) (fun cdv A outer s H vs Q E hr h => ?_)
  · obtain ⟨t, b, rfl, _⟩ := h
    rfl
  · obtain ⟨t, b, rfl, b0, t1, b1, k⟩ := h
    refine ⟨_, pss_cons (ps_set (i := 2) scQ.nd rfl (.inl rfl) (pe_kn B hr (pa_cons (pv 0) (pa_cons (pv 1) pa_nil))))
      (pss_one (ps_ret (pe_tup (pa_cons (pe_op op_fdivW (pv 0) (pv 2)) (pa_cons (pe_op op_fdivW (pv 1) (pv 2)) pa_nil))))), ?_⟩
    have g0 : 0 < Nat.gcd t.natAbs b.natAbs := Nat.gcd_pos_of_pos_right _ (by omega)
    have g1 : Nat.gcd t.natAbs b.natAbs ≤ b.natAbs := Nat.le_of_dvd (by omega) (Nat.gcd_dvd_right _ _)
    have dv : ∀ z : Int, CDivW z ((Nat.gcd t.natAbs b.natAbs : Nat) : Int) := fun z => wide_div (b := 250) (by omega) (by rw [Int.natAbs_natCast]; exact Nat.lt_of_le_of_lt g1 b1) (by decide) (by decide)
    refine ⟨_, rfl, _, rfl, t, b, rfl, t1, b1, _, rfl, _, rfl, _, _, rfl, rfl, dv t, _, rfl, _, rfl, _, _, rfl, rfl, dv b, (by show 2 ≤ sizeLine; rw [sizeLine_eq]; decide), fun p np => ?_⟩
    exact k p np
end
end GG


namespace GG
open PySem PySem.Spec PyProof.Rows L2
section
variable {P : Program} {w : World} {K : PySem.W.Frag} {mg : Str → Option Value} {base : Heap}
theorem small250 {x : Int} (h : x.natAbs < 2 ^ 120) : x.natAbs < 2 ^ 250 := Nat.lt_of_lt_of_le h (Nat.pow_le_pow_right (by decide) (by decide))
theorem prod240 {x y : Int} (a : x.natAbs < 2 ^ 120) (b : y.natAbs < 2 ^ 120) : (x * y).natAbs < 2 ^ 240 := wide_lt a b
theorem sum250 {x y : Int} (a : x.natAbs < 2 ^ 240) (b : y.natAbs < 2 ^ 240) : (x + y).natAbs < 2 ^ 250 ∧ (x - y).natAbs < 2 ^ 250 := by
  have e : (2 : Nat) ^ 250 = 1024 * 2 ^ 240 := by rw [show 250 = 10 + 240 from rfl, Nat.pow_add]
  rw [e]
  generalize (2 : Nat) ^ 240 = z at a b
  omega

end
end GG


namespace GG
open PySem PySem.Spec PyProof.Rows L2
abbrev sPassed : Stmt := topS 31
abbrev sSome : Stmt := topS 34
def copr (t b : Int) : Prop := Nat.gcd t.natAbs b.natAbs = 1
theorem lw_copr {t b : Int} (h : 0 < b) : copr (lw t b).1 (lw t b).2 := by
  have g0 : 0 < Nat.gcd t.natAbs b.natAbs := Nat.gcd_pos_of_pos_right _ (by omega)
  obtain ⟨e1, e2⟩ := lw_exact t b
  have z1 := congrArg Int.natAbs e1
  have z2 := congrArg Int.natAbs e2
  rw [Int.natAbs_mul, Int.natAbs_natCast] at z1 z2
  unfold copr
  have z3 : Nat.gcd ((lw t b).1.natAbs * Nat.gcd t.natAbs b.natAbs) ((lw t b).2.natAbs * Nat.gcd t.natAbs b.natAbs) = Nat.gcd t.natAbs b.natAbs := by rw [z1, z2]
  rw [Nat.gcd_mul_right] at z3
  exact Nat.eq_of_mul_eq_mul_right g0 (by rw [z3, Nat.one_mul])
theorem lw_mul {t b : Int} {k : Int} (k0 : 0 < k) (h : copr t b) : lw (t * k) (b * k) = (t, b) := by
  have g : ((Nat.gcd (t * k).natAbs (b * k).natAbs : Nat) : Int) = k := by
    rw [Int.natAbs_mul, Int.natAbs_mul, Nat.gcd_mul_right, h, Nat.one_mul]
    omega
  unfold lw
  rw [g, Int.mul_ediv_cancel _ (by omega), Int.mul_ediv_cancel _ (by omega)]
def spIs : Sp := fun vs H Q _ => ∃ a b : Bool, vs = [.bl a, .bl b] ∧ Q (.bl (decide (a = b))) H
def mid (a : Int × Int) : Prop := a.1.natAbs < 2 ^ 100 ∧ a.2.natAbs < 2 ^ 100 ∧ 0 < a.2 ∧ copr a.1 a.2
def spSome : Sp := fun vs H Q _ => ∃ (p l : Addr) (c : Int), vs = [.ref p] ∧ PenAt H p l c ∧ c < 10000000 ∧
  ∀ (r : Addr) (a : Int × Int) (c' : Int) (H' : Hp), c ≤ c' → c' ≤ c + 20 → mid a → H' r = some (.tup [.int a.1, .int a.2]) → H r = none → PenAt H' p l c' → Keep p H H' → Q (.ref r) H'
def spPassed : Sp := fun vs H Q _ => ∃ (p l r : Addr) (c : Int) (a : Int × Int), vs = [.ref p, .ref r] ∧ PenAt H p l c ∧ c < 10000000 ∧ H r = some (.tup [.int a.1, .int a.2]) ∧ mid a ∧
  ∀ (v : V) (d : PyData) (c' : Int) (H' : Hp), c ≤ c' → c' ≤ c + 3 → PenAt H' p l c' → Keep p H H' → Da H' v d → isR d = true → ratOf d = a → smallR d → Q v H'
section
variable {P : Program} {w : World} {K : PySem.W.Frag} {mg : Str → Option Value} {base : Heap}
theorem scSome : FnScope ["_law_pen_here"] ["_law_pen_here"] (defScope sSome) := ⟨rfl, rfl, rfl, by decide +kernel, rfl, by decide +kernel, by decide +kernel⟩
theorem kn_some (D : DefIs K mg "_law_some_ratio" sSome) (za : mg "abs" = none) (B : Kn P w K mg base "_law_far" 3 ["_law_pen_here"] spFar) (B2 : Kn P w K mg base "_law_q" 2 ["_law_top", "_law_bottom"] spQ) : Kn P w K mg base "_law_some_ratio" 4 ["_law_pen_here"] spSome := by
  refine .of D (fun _ _ _ _ _ _ us hl => match us, hl with | [_], _ => rfl) fun _ _ F => ?_
  refine F.ok scSome (fun vs H Q E h => ?_) (fun cdv A outer s H vs Q E hr h => ?_)
  · obtain ⟨p, l, c, rfl, _⟩ := h
    rfl
  · obtain ⟨p, l, c, rfl, P0, c0, k⟩ := h
    have hr2 : Room 2 _ := hr.mono (by decide)
    refine ⟨_, pss_one (ps_ret (pe_kn B2 hr2 (pa_cons (pe_kn B hr (pa_cons (pv 0) pa_nil)) (pa_cons (pe_op op_add pe_int (pe_callB call_abs (by rfl) za bAbs (pa_cons (pe_kn B hr (pa_cons (pv 0) pa_nil)) pa_nil))) pa_nil)))), ?_⟩
    refine ⟨_, rfl, p, l, c, rfl, P0, by omega, fun t c1 H1 x1 x2 x3 x4 P1 K1 => ?_⟩
    refine ⟨_, rfl, p, l, c1, rfl, P1, by omega, fun b c2 H2 y1 y2 y3 y4 P2 K2 => ⟨_, rfl, _, _, rfl, rfl, ?_⟩⟩
    rw [abs_nat]
    have n60 : (1000000000000000001 : Nat) < 2 ^ 100 := by decide +kernel
    have b0 : (0 : Int) < 1 + ((b.natAbs : Nat) : Int) := by omega
    have st : t.natAbs < 2 ^ 100 := by omega
    have sb : (1 + ((b.natAbs : Nat) : Int)).natAbs < 2 ^ 100 := by omega
    have up : (2 : Nat) ^ 100 ≤ 2 ^ 250 := Nat.pow_le_pow_right (by decide) (by decide)
    refine ⟨_, _, rfl, b0, Nat.lt_of_lt_of_le st up, Nat.lt_of_lt_of_le sb up, fun r nr => ?_⟩
    obtain ⟨l1, l2, l3⟩ := lw_small (t := t) b0
    have K12 := K1.trans K2
    have free : H r = none := by
      cases e : H r with
      | none => rfl
      | some o =>
        exfalso
        by_cases rp : r = p
        · obtain ⟨_, _, _, _, I⟩ := P2
          rw [rp, I.obj] at nr
          cases nr
        · rw [K12 r o rp e] at nr
          cases nr
    exact k r _ c2 _ (by omega) (by omega) ⟨Nat.lt_of_le_of_lt l1 st, Nat.lt_of_le_of_lt l2 sb, l3, lw_copr b0⟩ upd_same free (P2.new nr) (K12.new nr)
theorem scPassed : FnScope ["_law_pen_here", "_law_ratio", "_law_by"] ["_law_pen_here", "_law_ratio"] (defScope sPassed) := ⟨rfl, rfl, rfl, by decide +kernel, rfl, by decide +kernel, by decide +kernel⟩
theorem kn_passed (D : DefIs K mg "_law_passed" sPassed) (B1 : Kn P w K mg base "_law_draw" 1 ["_law_pen_here", "_law_many"] spDraw) (B2 : Kn P w K mg base "_law_pick" 2 ["_law_pen_here", "_law_some"] (spPick K)) : Kn P w K mg base "_law_passed" 3 ["_law_pen_here", "_law_ratio"] spPassed := by
  refine .of D (fun _ _ _ _ _ _ us hl => match us, hl with | [_, _], _ => rfl) fun _ _ F => ?_
  refine F.ok scPassed (fun vs H Q E h => ?_) (fun cdv A outer s H vs Q E hr h => ?_)
  · obtain ⟨p, l, r, c, a, rfl, _⟩ := h
    rfl
  · obtain ⟨p, l, r, c, a, rfl, P0, c0, er, m, k⟩ := h
    have hr1 : Room 1 _ := hr.mono (by decide)
    refine ⟨_, Evl.pss_cut (ps_if (PW.pt (pw_and (pt_cmpR op_eq (pe_ix ix_tup (pv 1) pe_int (fun _ _ => rfl)) pe_int (nomark _)) (pw_and1 (pt_cmpR op_eq (pe_kn B1 hr1 (pa_cons (pv 0) (pa_cons pe_int pa_nil))) pe_int (nomark _)))))
        (pss_one (ps_ret (pe_ix ix_tup (pv 1) pe_int (fun _ _ => rfl)))) pss_nil)
      (pss_cons (ps_set (i := 2) scPassed.nd rfl (.inl rfl) (pe_kn B2 hr (pa_cons (pv 0) (pa_cons (pe_lst (pa_cons pe_int (pa_cons pe_int (pa_cons pe_int (pa_cons pe_int pa_nil))))) pa_nil))))
      (pss_one (ps_ret (pe_kn B2 hr (pa_cons (pv 0) (pa_cons (pe_lst (pa_cons (pe_tup (pa_cons (pe_op op_mul (pe_ix ix_tup (pv 1) pe_int (fun _ _ => rfl)) (pv 2)) (pa_cons (pe_op op_mul (pe_ix ix_tup (pv 1) pe_int (fun _ _ => rfl)) (pv 2)) pa_nil)))
        (pa_cons (pe_lstM (pa_cons (pe_op op_mul (pe_ix ix_tup (pv 1) pe_int (fun _ _ => rfl)) (pv 2)) (pa_cons (pe_op op_mul (pe_ix ix_tup (pv 1) pe_int (fun _ _ => rfl)) (pv 2)) pa_nil))) pa_nil))) pa_nil)))))), ?_⟩
    have rp : r ≠ p := by
      obtain ⟨_, _, _, _, I⟩ := P0
      exact ne_of er I.obj (by intro z; cases z)
    obtain ⟨m1, m2, m3, m4⟩ := m
    have last : ∀ (n : Int) (c3 : Int) (H3 : Hp), 0 < n → n ≤ 5 → c ≤ c3 → c3 ≤ c + 2 → PenAt H3 p l c3 → Keep p H H3 → ∀ (t : Addr), H3 t = none → ∀ (u : Addr), (upd H3 t (.tup [.int (a.1 * n), .int (a.2 * n)])) u = none → u ≠ sysModules → ∀ (L : Addr), (upd (upd H3 t (.tup [.int (a.1 * n), .int (a.2 * n)])) u (.lst [.int (a.1 * n), .int (a.2 * n)])) L = none →
        ∀ (x : V) (H' : Hp), x ∈ [V.ref t, .ref u] → PenAt H' p l (c3 + 1) → Keep p (upd (upd (upd H3 t (.tup [.int (a.1 * n), .int (a.2 * n)])) u (.lst [.int (a.1 * n), .int (a.2 * n)])) L (.lst [.ref t, .ref u])) H' → Q x H' := by
      intro n c3 H3 n0 n5 x1 x2 P3 K3 t nt u nu mu L nL x H' hx P4 K4
      have K5 := ((K3.new nt).new nu).new nL (o := .lst [.ref t, .ref u])
      have K6 := K5.trans K4
      have tu : t ≠ u := fun z => by
        rw [← z, upd_same] at nu
        cases nu
      have tL : t ≠ L := fun z => by
        rw [← z, upd_ne tu, upd_same] at nL
        cases nL
      have uL : u ≠ L := fun z => by
        rw [← z, upd_same] at nL
        cases nL
      have tp : t ≠ p := fun z => by
        obtain ⟨_, _, _, _, I⟩ := P3
        rw [z, I.obj] at nt
        cases nt
      have up : u ≠ p := fun z => by
        obtain ⟨_, _, _, _, I⟩ := P3.new nt (o := .tup [.int (a.1 * n), .int (a.2 * n)])
        rw [z, I.obj] at nu
        cases nu
      have et : H' t = some (.tup [.int (a.1 * n), .int (a.2 * n)]) := K4 t _ tp (by rw [upd_ne tL, upd_ne tu, upd_same])
      have eu : H' u = some (.lst [.int (a.1 * n), .int (a.2 * n)]) := K4 u _ up (by rw [upd_ne uL, upd_same])
      have b0 : 0 < a.2 * n := Int.mul_pos m3 n0
      have sm : ∀ z : Int, z.natAbs < 2 ^ 100 → (z * n).natAbs < 2 ^ 120 := fun z hz => by
        have := wide_lt (j := n) (b := 20) hz (by omega)
        exact this
      have el := lw_mul n0 m4
      simp only [List.mem_cons, List.not_mem_nil, or_false] at hx
      rcases hx with rfl | rfl
      · exact k _ (.tuple [.int (a.1 * n), .int (a.2 * n)]) _ _ (by omega) (by omega) P4 K6 (.tup et (.cons (.int _) (.cons (.int _) .nil))) (decide_eq_true b0) el ⟨sm _ m1, sm _ m2⟩
      · exact k _ (.list [.int (a.1 * n), .int (a.2 * n)]) _ _ (by omega) (by omega) P4 K6 (.lst eu mu (.cons (.int _) (.cons (.int _) .nil))) (decide_eq_true b0) el ⟨sm _ m1, sm _ m2⟩
    refine ⟨fun σ' H' => σ' = [some (.ref p), some (.ref r), none] ∧ ∃ c1, c ≤ c1 ∧ c1 ≤ c + 1 ∧ PenAt H' p l c1 ∧ Keep p H H', ?_, ?_⟩
    · refine ⟨_, rfl, r, _, _, _, rfl, rfl, .inl (.inl er), atI_nat (j := 1) rfl, rfl, _, rfl, ?_⟩
      refine ite2 (fun e => ?_) (fun _ => ?_)
      · have e1 : a.2 = 1 := V.int.inj (of_decide_eq_true e)
        refine ⟨_, rfl, p, l, c, 2, rfl, P0, by decide, by decide, by omega, fun r0 H1 _ _ P1 K1 => ⟨rfl, _, rfl, ?_⟩⟩
        refine ite2 (fun _ => ?_) (fun _ => ?_)
        · exact ⟨_, rfl, r, _, _, _, rfl, rfl, .inl (.inl (K1 r _ rp er)), atI_nat (j := 0) rfl, k (.int a.1) (.int a.1) _ _ (by omega) (by omega) P1 K1 (.int _) rfl (Prod.ext rfl e1.symm) (Nat.lt_of_lt_of_le m1 (Nat.pow_le_pow_right (by decide) (by decide)))⟩
        · exact ⟨rfl, c + 1, by omega, by omega, P1, K1⟩
      · exact ⟨rfl, c, by omega, by omega, P0, Keep.refl⟩
    · rintro σ' H1 ⟨rfl, c1, x1, x2, P1, K1⟩
      refine ⟨_, rfl, (by show 4 ≤ sizeLine; rw [sizeLine_eq]; decide), fun L nL => ?_⟩
      refine ⟨p, l, L, c1, _, rfl, P1.new nL, .inl (.inl upd_same), (by show 0 < 4; decide), (by show 4 < 1000000; decide), by omega, fun x H3 hx P3 K3 => ?_⟩
      have K03 : Keep p H H3 := (K1.new nL).trans K3
      have er3 := K03 r _ rp er
      obtain ⟨n, rfl, n0, n5⟩ : ∃ n : Int, x = .int n ∧ 0 < n ∧ n ≤ 5 := by
        simp only [List.mem_cons, List.not_mem_nil, or_false] at hx
        rcases hx with rfl | rfl | rfl | rfl
        · exact ⟨1, rfl, by decide, by decide⟩
        · exact ⟨1, rfl, by decide, by decide⟩
        · exact ⟨2, rfl, by decide, by decide⟩
        · exact ⟨5, rfl, by decide, by decide⟩
      refine ⟨_, rfl, _, rfl, r, _, _, _, rfl, rfl, .inl (.inl er3), atI_nat (j := 0) rfl, _, rfl, _, _, rfl, rfl, .inr ⟨by omega, by omega⟩, _, rfl, r, _, _, _, rfl, rfl, .inl (.inl er3), atI_nat (j := 1) rfl, _, rfl, _, _, rfl, rfl, .inr ⟨by omega, by omega⟩, (by show 2 ≤ sizeLine; rw [sizeLine_eq]; decide), fun t nt => ?_⟩
      have er4 : (upd H3 t (.tup [.int (a.1 * n), .int (a.2 * n)])) r = some (.tup [.int a.1, .int a.2]) := by
        rw [upd_ne (ne_of_none er3 nt)]
        exact er3
      refine ⟨_, rfl, r, _, _, _, rfl, rfl, .inl (.inl er4), atI_nat (j := 0) rfl, _, rfl, _, _, rfl, rfl, .inr ⟨by omega, by omega⟩, _, rfl, r, _, _, _, rfl, rfl, .inl (.inl er4), atI_nat (j := 1) rfl, _, rfl, _, _, rfl, rfl, .inr ⟨by omega, by omega⟩, (by show 2 ≤ sizeLine; rw [sizeLine_eq]; decide), fun u nu mu => ?_⟩
      refine ⟨(by show 2 ≤ sizeLine; rw [sizeLine_eq]; decide), fun L2' nL2 => ?_⟩
      refine ⟨p, l, L2', c1 + 1, _, rfl, ((P3.new nt).new nu).new nL2, .inl (.inl upd_same), (by show 0 < 2; decide), (by show 2 < 1000000; decide), by omega, fun x H' hx P4 K4 => ?_⟩
      exact last n _ H3 n0 n5 (by omega) (by omega) P3 K03 t nt u nu mu L2' nL2 x H' hx P4 K4
end
end GG


namespace GG
open PySem PySem.Spec PyProof.Rows L2
abbrev sAny : Stmt := topS 32
/-- what is no ratio -/
def oddD : List PyData := [.none, .bool true, .str "1", .tuple [.int 1, .int 0], .tuple [.int 1, .int (-2)], .tuple [.int 1, .bool true], .list [.int 1], .tuple [.int 1, .int 2, .int 3], .dict [(.str "a", .int 1)], .tuple [.str "1", .int 2], .tuple [.none, .int 1], .tuple [.bool true, .int 2], .list [.int 2, .bool false], .tuple [], .tuple [.tuple [.int 1, .int 2], .int 3]]
theorem odd_ok : ∀ d ∈ oddD, isR d = false ∧ smallR d ∧ d.showable = true ∧ d.depth ≤ 8 := by
  intro d hd
  simp only [oddD, List.mem_cons, List.not_mem_nil, or_false] at hd
  rcases hd with rfl | rfl | rfl | rfl | rfl | rfl | rfl | rfl | rfl | rfl | rfl | rfl | rfl | rfl | rfl <;> refine ⟨?_, ?_, ?_, ?_⟩ <;> first | rfl | trivial | (simp [PyData.showable, PyData.showableAll, PyData.showableKv, PyData.depth, PyData.depthAll, PyData.depthKv, smallR] <;> done) | (decide +kernel)
theorem odd_len : ∀ d ∈ oddD, d.shown.length ≤ 400 := by
  intro d hd
  simp only [oddD, List.mem_cons, List.not_mem_nil, or_false] at hd
  rcases hd with rfl | rfl | rfl | rfl | rfl | rfl | rfl | rfl | rfl | rfl | rfl | rfl | rfl | rfl | rfl <;> decide +kernel
theorem DaAll.snoc {H : Hp} {v : V} {d : PyData} (h : Da H v d) : ∀ {vs : List V} {ds : List PyData}, DaAll H vs ds → DaAll H (vs ++ [v]) (ds ++ [d])
  | _, _, .nil => .cons h .nil
  | _, _, .cons a t => .cons a (DaAll.snoc h t)
theorem DaAll.mem {H : Hp} {v : V} : ∀ {vs : List V} {ds : List PyData}, DaAll H vs ds → v ∈ vs → ∃ d, d ∈ ds ∧ Da H v d
  | _, _, .nil, h => absurd h List.not_mem_nil
  | _, _, .cons a t, h => by
    rcases List.mem_cons.mp h with rfl | h
    · exact ⟨_, List.mem_cons_self, a⟩
    · obtain ⟨d, m, q⟩ := DaAll.mem t h
      exact ⟨d, List.mem_cons_of_mem _ m, q⟩
theorem upd_upd {H : Hp} {q : Addr} {o u : HO} : upd (upd H q o) q u = upd H q u := by
  funext b
  by_cases hb : b = q
  · rw [hb, upd_same, upd_same]
  · rw [upd_ne hb, upd_ne hb, upd_ne hb]
def spAny : Sp := fun vs H Q _ => ∃ (p l : Addr) (c : Int), vs = [.ref p] ∧ PenAt H p l c ∧ c < 10000000 ∧ ∀ (v : V) (d : PyData) (H' : Hp), PenAt H' p l (c + 1) → Keep p H H' → Da H' v d → d ∈ oddD → Q v H'
section
variable {P : Program} {w : World} {K : PySem.W.Frag} {mg : Str → Option Value} {base : Heap}
theorem scAny : FnScope ["_law_pen_here", "_law_some"] ["_law_pen_here"] (defScope sAny) := ⟨rfl, rfl, rfl, by decide +kernel, rfl, by decide +kernel, by decide +kernel⟩
theorem kn_any (D : DefIs K mg "_law_any" sAny) (B : Kn P w K mg base "_law_pick" 2 ["_law_pen_here", "_law_some"] (spPick K)) : Kn P w K mg base "_law_any" 3 ["_law_pen_here"] spAny := by
  refine .of D (fun _ _ _ _ _ _ us hl => match us, hl with | [_], _ => rfl) fun _ _ F => ?_
  refine F.ok scAny (fun vs H Q E h => ?_) (fun cdv A outer s H vs Q E hr h => ?_)
  · obtain ⟨p, l, c, rfl, _⟩ := h
    rfl
  · obtain ⟨p, l, c, rfl, P0, c0, k⟩ := h
    refine ⟨_, pss_cons (ps_set (i := 1) scAny.nd rfl (.inl rfl) (pe_lst (pa_cons pe_non (pa_cons pe_bl (pa_cons pe_str (pa_cons (pe_tup (pa_cons pe_int (pa_cons pe_int pa_nil))) (pa_cons (pe_tup (pa_cons pe_int (pa_cons (pe_un un_neg pe_int) pa_nil))) (pa_cons (pe_tup (pa_cons pe_int (pa_cons pe_bl pa_nil))) (pa_cons (pe_lstM (pa_cons pe_int pa_nil)) (pa_cons (pe_tup (pa_cons pe_int (pa_cons pe_int (pa_cons pe_int pa_nil)))) (pa_cons (pe_disp (pps_cons pe_str pe_int pps_nil) rfl rfl (by intro z; cases z) (by decide)) (pa_cons (pe_tup (pa_cons pe_str (pa_cons pe_int pa_nil))) (pa_cons (pe_tup (pa_cons pe_non (pa_cons pe_int pa_nil))) pa_nil)))))))))))))
      (pss_one (ps_ret (pe_kn B hr (pa_cons (pv 0) (pa_cons (pe_op op_cat (pv 1) (pe_lst (pa_cons (pe_tup (pa_cons pe_bl (pa_cons pe_int pa_nil))) (pa_cons (pe_lstM (pa_cons pe_int (pa_cons pe_bl pa_nil))) (pa_cons (pe_tup pa_nil) (pa_cons (pe_tup (pa_cons (pe_tup (pa_cons pe_int (pa_cons pe_int pa_nil))) (pa_cons pe_int pa_nil))) pa_nil)))))) pa_nil))))), ?_⟩
    have K0 : Keep p H H := Keep.refl
    have AL : DaAll H [] [] := .nil
    replace AL := AL.snoc (v := .non) (d := .none) .non
    replace AL := AL.snoc (v := .bl true) (d := .bool true) (.bl _)
    replace AL := AL.snoc (v := .str "1") (d := .str "1") (.str _)
    refine ⟨(by show 2 ≤ sizeLine; rw [sizeLine_eq]; decide), fun t0 nt0 => ?_⟩
    replace P0 := P0.new nt0 (o := (.tup [.int 1, .int 0]))
    replace K0 := K0.new nt0 (o := (.tup [.int 1, .int 0]))
    have st := Stay.new (Stay.refl (H := H)) nt0 (o := (.tup [.int 1, .int 0]))
    replace AL := AL.stay st
    have et0 : (upd H t0 (.tup [.int 1, .int 0])) t0 = some (.tup [.int 1, .int 0]) := upd_same
    clear st
    generalize (upd H t0 (.tup [.int 1, .int 0])) = Ht0 at P0 K0 AL et0 ⊢
    have at0 : Da Ht0 (.ref t0) (.tuple [.int 1, .int 0]) := .tup et0 (.cons (.int _) (.cons (.int _) .nil))
    replace AL := AL.snoc (v := .ref t0) (d := .tuple [.int 1, .int 0]) at0
    refine ⟨_, rfl, (by show 2 ≤ sizeLine; rw [sizeLine_eq]; decide), fun t1 nt1 => ?_⟩
    replace P0 := P0.new nt1 (o := (.tup [.int 1, .int (-2)]))
    replace K0 := K0.new nt1 (o := (.tup [.int 1, .int (-2)]))
    have st := Stay.new (Stay.refl (H := Ht0)) nt1 (o := (.tup [.int 1, .int (-2)]))
    replace AL := AL.stay st
    have et1 : (upd Ht0 t1 (.tup [.int 1, .int (-2)])) t1 = some (.tup [.int 1, .int (-2)]) := upd_same
    clear st
    generalize (upd Ht0 t1 (.tup [.int 1, .int (-2)])) = Ht1 at P0 K0 AL et1 ⊢
    have at1 : Da Ht1 (.ref t1) (.tuple [.int 1, .int (-2)]) := .tup et1 (.cons (.int _) (.cons (.int _) .nil))
    replace AL := AL.snoc (v := .ref t1) (d := .tuple [.int 1, .int (-2)]) at1
    refine ⟨(by show 2 ≤ sizeLine; rw [sizeLine_eq]; decide), fun t2 nt2 => ?_⟩
    replace P0 := P0.new nt2 (o := (.tup [.int 1, .bl true]))
    replace K0 := K0.new nt2 (o := (.tup [.int 1, .bl true]))
    have st := Stay.new (Stay.refl (H := Ht1)) nt2 (o := (.tup [.int 1, .bl true]))
    replace AL := AL.stay st
    have et2 : (upd Ht1 t2 (.tup [.int 1, .bl true])) t2 = some (.tup [.int 1, .bl true]) := upd_same
    clear st
    generalize (upd Ht1 t2 (.tup [.int 1, .bl true])) = Ht2 at P0 K0 AL et2 ⊢
    have at2 : Da Ht2 (.ref t2) (.tuple [.int 1, .bool true]) := .tup et2 (.cons (.int _) (.cons (.bl _) .nil))
    replace AL := AL.snoc (v := .ref t2) (d := .tuple [.int 1, .bool true]) at2
    refine ⟨(by show 1 ≤ sizeLine; rw [sizeLine_eq]; decide), fun t3 nt3 mt3 => ?_⟩
    replace P0 := P0.new nt3 (o := (.lst [.int 1]))
    replace K0 := K0.new nt3 (o := (.lst [.int 1]))
    have st := Stay.new (Stay.refl (H := Ht2)) nt3 (o := (.lst [.int 1]))
    replace AL := AL.stay st
    have et3 : (upd Ht2 t3 (.lst [.int 1])) t3 = some (.lst [.int 1]) := upd_same
    clear st
    generalize (upd Ht2 t3 (.lst [.int 1])) = Ht3 at P0 K0 AL et3 ⊢
    have at3 : Da Ht3 (.ref t3) (.list [.int 1]) := .lst et3 mt3 (.cons (.int _) .nil)
    replace AL := AL.snoc (v := .ref t3) (d := .list [.int 1]) at3
    refine ⟨(by show 3 ≤ sizeLine; rw [sizeLine_eq]; decide), fun t4 nt4 => ?_⟩
    replace P0 := P0.new nt4 (o := (.tup [.int 1, .int 2, .int 3]))
    replace K0 := K0.new nt4 (o := (.tup [.int 1, .int 2, .int 3]))
    have st := Stay.new (Stay.refl (H := Ht3)) nt4 (o := (.tup [.int 1, .int 2, .int 3]))
    replace AL := AL.stay st
    have et4 : (upd Ht3 t4 (.tup [.int 1, .int 2, .int 3])) t4 = some (.tup [.int 1, .int 2, .int 3]) := upd_same
    clear st
    generalize (upd Ht3 t4 (.tup [.int 1, .int 2, .int 3])) = Ht4 at P0 K0 AL et4 ⊢
    have at4 : Da Ht4 (.ref t4) (.tuple [.int 1, .int 2, .int 3]) := .tup et4 (.cons (.int _) (.cons (.int _) (.cons (.int _) .nil)))
    replace AL := AL.snoc (v := .ref t4) (d := .tuple [.int 1, .int 2, .int 3]) at4
    intro t5 nt5
    refine ⟨upd_same, [(.inr "a", .int 1)], rfl, (by show 1 ≤ 15; decide), ?_⟩
    rw [show upd (upd Ht4 t5 (.dK [])) t5 (.dK (mergeK [] [((.inr "a" : Key), V.int 1)])) = upd Ht4 t5 (.dK [(.inr "a", .int 1)]) from by rw [show mergeK [] [((.inr "a" : Key), V.int 1)] = [(.inr "a", .int 1)] from by kernel_rfl, upd_upd]]
    replace P0 := P0.new nt5 (o := (.dK [(.inr "a", .int 1)]))
    replace K0 := K0.new nt5 (o := (.dK [(.inr "a", .int 1)]))
    have st := Stay.new (Stay.refl (H := Ht4)) nt5 (o := (.dK [(.inr "a", .int 1)]))
    replace AL := AL.stay st
    have et5 : (upd Ht4 t5 (.dK [(.inr "a", .int 1)])) t5 = some (.dK [(.inr "a", .int 1)]) := upd_same
    clear st
    generalize (upd Ht4 t5 (.dK [(.inr "a", .int 1)])) = Ht5 at P0 K0 AL et5 ⊢
    have at5 : Da Ht5 (.ref t5) (.dict [(.str "a", .int 1)]) := .dic et5 (.int 1)
    replace AL := AL.snoc (v := .ref t5) (d := .dict [(.str "a", .int 1)]) at5
    refine ⟨(by show 2 ≤ sizeLine; rw [sizeLine_eq]; decide), fun t6 nt6 => ?_⟩
    replace P0 := P0.new nt6 (o := (.tup [.str "1", .int 2]))
    replace K0 := K0.new nt6 (o := (.tup [.str "1", .int 2]))
    have st := Stay.new (Stay.refl (H := Ht5)) nt6 (o := (.tup [.str "1", .int 2]))
    replace AL := AL.stay st
    have et6 : (upd Ht5 t6 (.tup [.str "1", .int 2])) t6 = some (.tup [.str "1", .int 2]) := upd_same
    clear st
    generalize (upd Ht5 t6 (.tup [.str "1", .int 2])) = Ht6 at P0 K0 AL et6 ⊢
    have at6 : Da Ht6 (.ref t6) (.tuple [.str "1", .int 2]) := .tup et6 (.cons (.str _) (.cons (.int _) .nil))
    replace AL := AL.snoc (v := .ref t6) (d := .tuple [.str "1", .int 2]) at6
    refine ⟨(by show 2 ≤ sizeLine; rw [sizeLine_eq]; decide), fun t7 nt7 => ?_⟩
    replace P0 := P0.new nt7 (o := (.tup [.non, .int 1]))
    replace K0 := K0.new nt7 (o := (.tup [.non, .int 1]))
    have st := Stay.new (Stay.refl (H := Ht6)) nt7 (o := (.tup [.non, .int 1]))
    replace AL := AL.stay st
    have et7 : (upd Ht6 t7 (.tup [.non, .int 1])) t7 = some (.tup [.non, .int 1]) := upd_same
    clear st
    generalize (upd Ht6 t7 (.tup [.non, .int 1])) = Ht7 at P0 K0 AL et7 ⊢
    have at7 : Da Ht7 (.ref t7) (.tuple [.none, .int 1]) := .tup et7 (.cons .non (.cons (.int _) .nil))
    replace AL := AL.snoc (v := .ref t7) (d := .tuple [.none, .int 1]) at7
    refine ⟨(by show 11 ≤ sizeLine; rw [sizeLine_eq]; decide), fun L1 nL1 => ?_⟩
    replace P0 := P0.new nL1 (o := (.lst [.non, .bl true, .str "1", .ref t0, .ref t1, .ref t2, .ref t3, .ref t4, .ref t5, .ref t6, .ref t7]))
    replace K0 := K0.new nL1 (o := (.lst [.non, .bl true, .str "1", .ref t0, .ref t1, .ref t2, .ref t3, .ref t4, .ref t5, .ref t6, .ref t7]))
    have st := Stay.new (Stay.refl (H := Ht7)) nL1 (o := (.lst [.non, .bl true, .str "1", .ref t0, .ref t1, .ref t2, .ref t3, .ref t4, .ref t5, .ref t6, .ref t7]))
    replace AL := AL.stay st
    have eL1 : (upd Ht7 L1 (.lst [.non, .bl true, .str "1", .ref t0, .ref t1, .ref t2, .ref t3, .ref t4, .ref t5, .ref t6, .ref t7])) L1 = some (.lst [.non, .bl true, .str "1", .ref t0, .ref t1, .ref t2, .ref t3, .ref t4, .ref t5, .ref t6, .ref t7]) := upd_same
    clear st
    generalize (upd Ht7 L1 (.lst [.non, .bl true, .str "1", .ref t0, .ref t1, .ref t2, .ref t3, .ref t4, .ref t5, .ref t6, .ref t7])) = HL1 at P0 K0 AL eL1 ⊢
    refine ⟨_, rfl, _, rfl, (by show 2 ≤ sizeLine; rw [sizeLine_eq]; decide), fun t8 nt8 => ?_⟩
    replace P0 := P0.new nt8 (o := (.tup [.bl true, .int 2]))
    replace K0 := K0.new nt8 (o := (.tup [.bl true, .int 2]))
    have st := Stay.new (Stay.refl (H := HL1)) nt8 (o := (.tup [.bl true, .int 2]))
    replace AL := AL.stay st
    replace eL1 := st _ _ eL1 (by intro _ _ _ _ _ z; cases z)
    have et8 : (upd HL1 t8 (.tup [.bl true, .int 2])) t8 = some (.tup [.bl true, .int 2]) := upd_same
    clear st
    generalize (upd HL1 t8 (.tup [.bl true, .int 2])) = Ht8 at P0 K0 AL et8 eL1 ⊢
    have at8 : Da Ht8 (.ref t8) (.tuple [.bool true, .int 2]) := .tup et8 (.cons (.bl _) (.cons (.int _) .nil))
    replace AL := AL.snoc (v := .ref t8) (d := .tuple [.bool true, .int 2]) at8
    refine ⟨(by show 2 ≤ sizeLine; rw [sizeLine_eq]; decide), fun t9 nt9 mt9 => ?_⟩
    replace P0 := P0.new nt9 (o := (.lst [.int 2, .bl false]))
    replace K0 := K0.new nt9 (o := (.lst [.int 2, .bl false]))
    have st := Stay.new (Stay.refl (H := Ht8)) nt9 (o := (.lst [.int 2, .bl false]))
    replace AL := AL.stay st
    replace eL1 := st _ _ eL1 (by intro _ _ _ _ _ z; cases z)
    have et9 : (upd Ht8 t9 (.lst [.int 2, .bl false])) t9 = some (.lst [.int 2, .bl false]) := upd_same
    clear st
    generalize (upd Ht8 t9 (.lst [.int 2, .bl false])) = Ht9 at P0 K0 AL et9 eL1 ⊢
    have at9 : Da Ht9 (.ref t9) (.list [.int 2, .bool false]) := .lst et9 mt9 (.cons (.int _) (.cons (.bl _) .nil))
    replace AL := AL.snoc (v := .ref t9) (d := .list [.int 2, .bool false]) at9
    refine ⟨(by show 0 ≤ sizeLine; rw [sizeLine_eq]; decide), fun t10 nt10 => ?_⟩
    replace P0 := P0.new nt10 (o := (.tup []))
    replace K0 := K0.new nt10 (o := (.tup []))
    have st := Stay.new (Stay.refl (H := Ht9)) nt10 (o := (.tup []))
    replace AL := AL.stay st
    replace eL1 := st _ _ eL1 (by intro _ _ _ _ _ z; cases z)
    have et10 : (upd Ht9 t10 (.tup [])) t10 = some (.tup []) := upd_same
    clear st
    generalize (upd Ht9 t10 (.tup [])) = Ht10 at P0 K0 AL et10 eL1 ⊢
    have at10 : Da Ht10 (.ref t10) (.tuple []) := .tup et10 .nil
    replace AL := AL.snoc (v := .ref t10) (d := .tuple []) at10
    refine ⟨(by show 2 ≤ sizeLine; rw [sizeLine_eq]; decide), fun t11 nt11 => ?_⟩
    replace P0 := P0.new nt11 (o := (.tup [.int 1, .int 2]))
    replace K0 := K0.new nt11 (o := (.tup [.int 1, .int 2]))
    have st := Stay.new (Stay.refl (H := Ht10)) nt11 (o := (.tup [.int 1, .int 2]))
    replace AL := AL.stay st
    replace eL1 := st _ _ eL1 (by intro _ _ _ _ _ z; cases z)
    have et11 : (upd Ht10 t11 (.tup [.int 1, .int 2])) t11 = some (.tup [.int 1, .int 2]) := upd_same
    clear st
    generalize (upd Ht10 t11 (.tup [.int 1, .int 2])) = Ht11 at P0 K0 AL et11 eL1 ⊢
    have at11 : Da Ht11 (.ref t11) (.tuple [.int 1, .int 2]) := .tup et11 (.cons (.int _) (.cons (.int _) .nil))
    refine ⟨(by show 2 ≤ sizeLine; rw [sizeLine_eq]; decide), fun t12 nt12 => ?_⟩
    replace P0 := P0.new nt12 (o := (.tup [.ref t11, .int 3]))
    replace K0 := K0.new nt12 (o := (.tup [.ref t11, .int 3]))
    have st := Stay.new (Stay.refl (H := Ht11)) nt12 (o := (.tup [.ref t11, .int 3]))
    replace AL := AL.stay st
    replace eL1 := st _ _ eL1 (by intro _ _ _ _ _ z; cases z)
    replace at11 := at11.stay st
    have et12 : (upd Ht11 t12 (.tup [.ref t11, .int 3])) t12 = some (.tup [.ref t11, .int 3]) := upd_same
    clear st
    generalize (upd Ht11 t12 (.tup [.ref t11, .int 3])) = Ht12 at P0 K0 AL et12 eL1 at11 ⊢
    have at12 : Da Ht12 (.ref t12) (.tuple [.tuple [.int 1, .int 2], .int 3]) := .tup et12 (.cons at11 (.cons (.int _) .nil))
    replace AL := AL.snoc (v := .ref t12) (d := .tuple [.tuple [.int 1, .int 2], .int 3]) at12
    refine ⟨(by show 4 ≤ sizeLine; rw [sizeLine_eq]; decide), fun L2 nL2 => ?_⟩
    replace P0 := P0.new nL2 (o := (.lst [.ref t8, .ref t9, .ref t10, .ref t12]))
    replace K0 := K0.new nL2 (o := (.lst [.ref t8, .ref t9, .ref t10, .ref t12]))
    have st := Stay.new (Stay.refl (H := Ht12)) nL2 (o := (.lst [.ref t8, .ref t9, .ref t10, .ref t12]))
    replace AL := AL.stay st
    replace eL1 := st _ _ eL1 (by intro _ _ _ _ _ z; cases z)
    have eL2 : (upd Ht12 L2 (.lst [.ref t8, .ref t9, .ref t10, .ref t12])) L2 = some (.lst [.ref t8, .ref t9, .ref t10, .ref t12]) := upd_same
    clear st
    generalize (upd Ht12 L2 (.lst [.ref t8, .ref t9, .ref t10, .ref t12])) = HL2 at P0 K0 AL eL2 eL1 ⊢
    refine ⟨L1, L2, _, _, rfl, rfl, eL1, eL2, (by show 15 ≤ sizeLine; rw [sizeLine_eq]; decide), fun L3 nL3 => ?_⟩
    refine ⟨p, l, L3, c, [.non, .bl true, .str "1", .ref t0, .ref t1, .ref t2, .ref t3, .ref t4, .ref t5, .ref t6, .ref t7, .ref t8, .ref t9, .ref t10, .ref t12], rfl, P0.new nL3, .inl (.inl upd_same), (by show 0 < 15; decide), (by show 15 < 1000000; decide), by omega, fun x H' hx P4 K4 => ?_⟩
    have K5 := K0.new nL3 (o := .lst [.non, .bl true, .str "1", .ref t0, .ref t1, .ref t2, .ref t3, .ref t4, .ref t5, .ref t6, .ref t7, .ref t8, .ref t9, .ref t10, .ref t12])
    have AM := (AL.stay (Stay.new (Stay.refl (H := HL2)) nL3 (o := .lst [.non, .bl true, .str "1", .ref t0, .ref t1, .ref t2, .ref t3, .ref t4, .ref t5, .ref t6, .ref t7, .ref t8, .ref t9, .ref t10, .ref t12]))).stay (K4.stay (P0.new nL3))
    obtain ⟨d, md, da⟩ := AM.mem hx
    exact k x d H' P4 (K5.trans K4) da md
end
end GG


namespace GG
open PySem PySem.Spec PyProof.Rows L2
/-! ### several except clauses, each «as» one name -/
/-- what they wish of an exception, clause by clause -/
def wAsMany (K : PySem.W.Frag) (m i : Nat) (Wout : WX) (D : Ends) : List (Value × (Addr → Value → Option Addr → TS)) → WX
  | [] => Wout
  | (c, ts) :: r => fun cls d σ H => ∃ b, PySem.W.exmOne K cls c = some b ∧
      (b = true → σ.length = m → ∀ a, H a = none → ts a cls d { nx := fun σ' H' => D.nx (σ'.set i none) H', rt := fun v H' => D.rt v H', bk := fun σ' H' => D.bk (σ'.set i none) H', ct := fun σ' H' => D.ct (σ'.set i none) H' } (σ.set i (some (.ref a))) H) ∧
      (b = false → wAsMany K m i Wout D r cls d σ H)
inductive AsOk (X : Cx) (n : Str) : List ExceptHandler → List (Value × (Addr → Value → Option Addr → TS)) → Prop
  | nil : AsOk X n [] []
  | cons {x : Str} {c : Value} {ts : Addr → Value → Option Addr → TS} {b0 : Stmt} {suite : List Stmt} {np hp : Pos} {hds : List ExceptHandler} {l : List (Value × (Addr → Value → Option Addr → TS))} (hc : Names X x c)
      (su : ∀ (a : Addr) (oe : Obj) (cls : Value) (d : Option Addr) (pn : List (Addr × Obj)), Zc cls d oe → (∃ vs, oe.data = .fields vs) → PSs (X.suite a ((a, oe) :: pn)) (b0 :: suite) (ts a cls d)) (r : AsOk X n hds l) :
      AsOk X n (.ExceptHandler (some (.Name x np)) (some n) (b0 :: suite) hp :: hds) ((c, ts) :: l)
section
variable {X : Cx} {body : List Stmt} {hd0 : ExceptHandler} {hds : List ExceptHandler} {l : List (Value × (Addr → Value → Option Addr → TS))} {pos : Pos} {tb : WX → TS} {Wout : WX} {n : Str} {i : Nat}
theorem ps_try_asMany (stk : X.stack = X.env :: X.outer) (own : X.env.frame = some X.env.locals) (nd : X.N.Nodup) (at' : X.N[i]? = some n) (lcl : X.env.kindOf n = some .local) (tk : Takes X Wout)
    (bd : ∀ (W : WX) (pn : List (Addr × Obj)) (xe : Value → Shared → Prop), Takes (X.tr pn xe) W → PassesOwn (model X.prog X.w) X.A X.env xe → PSs (X.tr pn xe) body (tb W))
    (all : AsOk X n (hd0 :: hds) l) : PS X (.Try body (hd0 :: hds) [] [] pos) (fun D σ H => tb (wAsMany X.K X.N.length i Wout D l) D σ H) := by
  refine ⟨fun pins s σ H D I want => ?_⟩
  have good := I.ok
  have frm : X.A.frames = some (X.env :: X.outer) := good.frames.trans (congrArg some stk)
  refine wpAny_Try_except ?_
  let catcher : Value → Shared → Prop := fun e s₁ => wpAny (model X.prog X.w) X.A (noteFrame e X.env) (fun _ s₂ => wpAny (model X.prog X.w) X.A (setFlight e none) (fun _ s₃ => wpAny (model X.prog X.w) X.A (handleBy e X.env (hd0 :: hds)) (SP X pins D) X.xe s₃) X.xe s₂) X.xe s₁
  have caught : Takes (X.tr (X.pn ++ pins) catcher) (wAsMany X.K X.N.length i Wout D l) := by
    rintro u s' ⟨a, B, sI, pins', σ', H', cls, d, rfl, Jt, bareN, up, sky, na, os, ag, wish⟩
    have J : Inv X pins σ' H' sI := Jt.ofTry good
    have sky' : Sky B (X.env :: X.outer) a (Zc cls d) X.env.locals s'.heap := stk ▸ sky
    show wpAny (model X.prog X.w) X.A (noteFrame (.ref a) X.env) _ _ _
    refine Sky.land Zc.steady frm own sky' fun hp3 fly up3 => ?_
    have J3 : Inv X pins σ' H' { s' with heap := hp3 } := J.landed bareN fly.1 (up.trans up3) os ag
    obtain ⟨oe, vs, get, zc, dat⟩ := fly.there
    have outF : a ∉ frs (X.env :: X.outer) := fun m => by
      obtain ⟨_, o2, g2, nf⟩ := fly.2.2.1.mem m
      cases get.symm.trans g2
      exact nf _ dat
    have nL : a ≠ X.env.locals := fun z => outF (List.mem_filterMap.mpr ⟨X.env, List.mem_cons_self, own.trans (congrArg some z.symm)⟩)
    have nF : a ∉ X.fs := fun m => outF (by
      obtain ⟨e, me, q⟩ := List.mem_filterMap.mp m
      exact List.mem_filterMap.mpr ⟨e, List.mem_cons_of_mem _ me, q⟩)
    have S3 := J3.suite get dat na nL nF
    have clauses : ∀ {hs' : List ExceptHandler} {l' : List (Value × (Addr → Value → Option Addr → TS))}, AsOk X n hs' l' → wAsMany X.K X.N.length i Wout D l' cls d σ' H' → wpAny (model X.prog X.w) X.A (handleBy (.ref a) X.env hs') (SP X pins D) X.xe { s' with heap := hp3 } := by
      intro hs' l' ok
      induction ok with
      | nil =>
        intro wish
        refine wpAny_handleBy_nil ?_
        obtain ⟨_, _, _, oe', vs', Tb, _, _, get', _, dat', one, _⟩ := id fly
        unfold PySem.passOn
        refine wpAny_bind (wpAny_field get' dat' one ?_)
        rw [if_neg (fun z => by simp at z)]
        have out : wpAny (model X.prog X.w) X.A (setFlight (.ref a) X.env.frame) (fun _ s4 => wpAny (model X.prog X.w) X.A (throw (.ref a) : Sem Flow) (SP X pins D) X.xe s4) X.xe { s' with heap := hp3 } := by
          rw [own]
          exact HandSPX.setFlight_upZ fly fun hp4 fl4 up4 => wpAny_throw (tk _ _ ⟨a, B, sI, pins, σ', H', cls, d, rfl, J, bareN, (up.trans up3).trans up4, .inr (.inr (stk ▸ fl4)), na, os, ag, wish⟩)
        first
          | exact wpAny_bind (wpAny_pure (wpAny_bind out))
          | exact wpAny_bind out
      | @cons x c ts b0 suite np hp hds2 l2 hc su r ih =>
        rintro ⟨b, test, yes, no⟩
        refine wpAny_handleBy_cons (codeAny_handlers_test ?_) (by intro z; cases z)
        have LT : PySem.W.Looks (model X.prog X.w) hp3 (typeOf (.ref a)) cls := fun _ _ _ _ k q => wpAny_typeOf_ref (k _ _ get) (by rw [zc.1]; exact q)
        have LM := PySem.W.exm_one (M := model X.prog X.w) J3.kIn LT test
        have name : ∀ {Q : Value → Shared → Prop} {E : Value → Shared → Prop}, Q c { s' with heap := hp3 } → wpAny (model X.prog X.w) (X.A.mark (some (.ref a))) (eval (.Name x np) X.env) Q E { s' with heap := hp3 } := fun {Q E} q => by
          obtain ⟨g1, g2, g3 | ⟨g3, g4, g5⟩⟩ := hc
          · exact ld_glob (X := X.suite a ((a, oe) :: (X.pn ++ pins))) S3 g1 g3 q g2
          · exact ld_blt (X := X.suite a ((a, oe) :: (X.pn ++ pins))) S3 g1 g3 g4 q g5 g2
        refine name (LM.here ?_)
        cases b with
        | false =>
          show wpAny _ X.A (handleBy (.ref a) X.env hds2) _ _ _
          exact ih (no rfl)
        | true =>
          refine codeAny_handlers_suite_as ?_
          refine HandSPX.lands_againZ fly fun hp4 fly4 up4 => ?_
          have J4 : Inv X pins σ' H' { s' with heap := hp4 } := J.landed bareN fly4.1 ((up.trans up3).trans up4) os ag
          obtain ⟨oe4, vs4, get4, zc4, dat4⟩ := fly4.there
          have S4 := J4.suite get4 dat4 na nL nF
          refine store_ok (X := X.suite a ((a, oe4) :: (X.pn ++ pins))) (v := .ref a) S4 nd at' (.inl lcl) rfl (fun s5 S5 => ?_) (.inr lcl)
          refine wpAny_mono ((su a oe4 cls d (X.pn ++ pins) zc4 ⟨_, dat4⟩).run [] s5 _ H' _ S5 (yes rfl J.len a na)) (fun fl s6 res => ?_) (fun _ _ z => z.elim)
          have behind : ∀ {σ6 : L2.St} {H6 : Hp} {R : Shared → Prop}, Inv (X.suite a ((a, oe4) :: (X.pn ++ pins))) [] σ6 H6 s6 → (∀ s7, Inv X pins (σ6.set i none) H6 s7 → R s7) →
              wpAny (model X.prog X.w) X.A (do bindName X.env n .none; unbindBehindTheSuite X.env n hp) (fun _ s7 => R s7) X.xe s6 := fun S6 q => gone_ok (S6.unsuite good) nd at' lcl q
          cases fl with
          | next =>
            obtain ⟨σ6, H6, S6, q⟩ := res
            exact behind S6 fun s7 J7 => ⟨_, _, J7, q⟩
          | brk =>
            obtain ⟨σ6, H6, S6, q⟩ := res
            exact behind S6 fun s7 J7 => ⟨_, _, J7, q⟩
          | cont =>
            obtain ⟨σ6, H6, S6, q⟩ := res
            exact behind S6 fun s7 J7 => ⟨_, _, J7, q⟩
          | ret u =>
            obtain ⟨v6, σ6, H6, S6, rv, q⟩ := res
            exact behind S6 fun s7 J7 => ⟨_, _, _, J7, rv, q⟩
    exact clauses all wish
  refine wpAny_mono ((bd _ (X.pn ++ pins) catcher caught PassesOwn.looking).run [] s σ H D (I.toTry _) want) (fun fl s1 res => ?_) (fun _ _ z => z)
  cases fl with
  | next =>
    obtain ⟨σ', H', J', q⟩ := res
    exact wpAny_execs_nil ⟨σ', H', J'.ofTry good, q⟩
  | brk =>
    obtain ⟨σ', H', J', q⟩ := res
    exact ⟨σ', H', J'.ofTry good, q⟩
  | cont =>
    obtain ⟨σ', H', J', q⟩ := res
    exact ⟨σ', H', J'.ofTry good, q⟩
  | ret u =>
    obtain ⟨v, σ', H', J', rv, q⟩ := res
    exact ⟨v, σ', H', J'.ofTry good, rv, q⟩
end
end GG


namespace GG
open PySem PySem.Spec PyProof.Rows L2 LamX
/-! ### repr of any datum -/
theorem call_reprD {X : Cx} (hg : X.A.guards = some []) (hu : X.A.units + 80 < cLine) : CallR X (.builtin "repr") (fun xs H Q => ∃ v d, xs = [v] ∧ Da H v d ∧ d.showable = true ∧ d.depth ≤ 60 ∧ d.shown.length ≤ sizeLine ∧ Q (.str d.shown) H) := by
  intro pins s σ H xs us Q I r h
  obtain ⟨v, d, rfl, da, hs, hd, hz, q⟩ := h
  have refs : ∀ a, v = .ref a → wpAny (model X.prog X.w) X.A (call (.builtin "repr") us) (EP X pins σ Q) X.xe s := fun a e => by
    subst e
    exact call_repr hg hu pins s σ H [.ref a] us Q I r ⟨a, d, rfl, da.dt, hs, hd, hz, q⟩
  cases da with
  | lst _ _ _ => exact refs _ rfl
  | tup _ _ => exact refs _ rfl
  | dic _ _ => exact refs _ rfl
  | non =>
    obtain ⟨u, rfl, ru⟩ := vals1 r
    cases ru
    rw [PyData.shown_none] at q
    exact PySem.P.repr_of_none ⟨.str _, H, I.tok _, ⟨_, rfl⟩, q⟩
  | bl b =>
    obtain ⟨u, rfl, ru⟩ := vals1 r
    cases ru
    rw [PyData.shown_bool] at q
    refine PySem.P.repr_of_bool ⟨.str _, H, I.tok _, ⟨_, rfl⟩, ?_⟩
    cases b <;> exact q
  | int i =>
    obtain ⟨u, rfl, t, rfl⟩ := vals1 r
    rw [PyData.shown_int] at q
    simp only [PyData.showable, decide_eq_true_eq] at hs
    exact PySem.P.repr_of_int hs ⟨.str _, H, I.tok _, ⟨_, rfl⟩, q⟩
  | str x =>
    obtain ⟨u, rfl, t, rfl⟩ := vals1 r
    rw [PyData.shown_str] at q hz
    exact PySem.P.repr_of_str ⟨.str _, H, I.tok _, ⟨_, rfl⟩, q⟩ hz
theorem bRepr : bootBuiltins "repr" = some (.builtin "repr") := by decide +kernel
abbrev sWhy : Stmt := topS 35
/-- a datum whose repr is short -/
def Rep (d : PyData) : Prop := d.showable = true ∧ d.depth ≤ 8 ∧ d.shown.length ≤ 400
/-- what is known of the error classes that are told apart -/
structure WTxt (K : PySem.W.Frag) (mg : Str → Option Value) (CN C1 C2 C4 C5 C6 C7 : Addr) : Prop where
  m1 : mg "BadText" = some (.ref C1)
  m2 : mg "BadLine" = some (.ref C2)
  m3 : mg "BadNumber" = some (.ref CN)
  m4 : mg "BadRow" = some (.ref C4)
  m5 : mg "TooMany" = some (.ref C5)
  m6 : mg "Unlike" = some (.ref C6)
  m7 : mg "NoBuyer" = some (.ref C7)
  e1 : PySem.W.exmOne K (.ref CN) (.ref C1) = some false
  e2 : PySem.W.exmOne K (.ref CN) (.ref C2) = some false
  e3 : PySem.W.exmOne K (.ref CN) (.ref CN) = some true
  t : ExT K CN
  n1 : PySem.W.findIn K (.ref CN) "what" = some none
  n2 : PySem.W.findIn K (.ref CN) "number" = some none
  repr : mg "repr" = none
/-- _law_why of a call that raises BadNumber -/
def TWhy (CN : Addr) : (XK → Hp → VK → Prop) → Hp → VK → Prop := fun tl H Q =>
  tl (fun cls d H' => cls = .ref CN ∧ ∃ (dd : Addr) (v wv : V) (dv : PyData), d = some dd ∧ H' dd = some (.xd [("number", v), ("what", wv)]) ∧ Da H' v dv ∧ Rep dv ∧
    ∀ (p : Addr) (H'' : Hp), H'' p = some (.tup [.str "number", wv, .str dv.shown]) → Same H' H'' → Q (.ref p) H'') H (fun _ H' => Q .non H')
theorem pss_false {X : Cx} {b : List Stmt} : PSs X b (fun _ _ _ => False) := ⟨fun _ _ _ _ _ _ h => h.elim⟩
theorem scWhy : FnScope ["_law_call", "e"] ["_law_call"] (defScope sWhy) := ⟨rfl, rfl, rfl, by decide +kernel, rfl, by decide +kernel, by decide +kernel⟩
theorem XfC.of {K : PySem.W.Frag} {C : Addr} (T : ExT K C) : XfC K C := ⟨T.ga, T.gg, T.ox.exC, T.hd⟩
theorem why_gives {X : Cx} {g CN C1 C2 C4 C5 C6 C7 : Addr} {cdg : Value} {q : Str} (T : WTxt X.K X.mg CN C1 C2 C4 C5 C6 C7) (hg : X.A.guards = some []) (hu : X.A.units + 100 < cLine) :
    GivesTo X ["_law_call", "e"] "_law_why" (defScope sWhy) g cdg (defBody sWhy) "_law_call" q (TWhy CN) := by
  intro f c' s H Q tl act hc h
  refine ⟨_, pss_cons (ps_try_asMany (X := (cxOf C8.CX0 X.prog X.w X.K X.mg X.base ["_law_call", "e"] "_law_why" (defScope sWhy) g cdg X.A X.stack s H C8.E0).nox) (i := 1) (n := "e")
      (tb := fun W D σ H => ∃ Ech : XK, (∀ cls d σ' H', Ech cls d H' → W cls d σ' H') ∧ σ[0]? = some (some (.ref f)) ∧ H c' = some (CodeO c' q) ∧ tl Ech H (fun _ H1 => D.nx σ H1))
      rfl rfl scWhy.nd rfl rfl LamX.takes0 (fun W pn xe tk _ => ?_)
      (.cons ⟨rfl, by decide, .inl T.m1⟩ (fun _ _ _ _ _ _ _ => pss_false) (.cons ⟨rfl, by decide, .inl T.m2⟩ (fun _ _ _ _ _ _ _ => pss_false)
        (.cons ⟨rfl, by decide, .inl T.m3⟩ (fun a oe cls d pn hz hf => pss_one (ps_ret (pe_tup (pa_cons pe_str (pa_cons (pe_xf (XfC.of T.t) T.n1 hz hf (pv 1) rfl) (pa_cons (pe_callB (call_reprD hg (by show X.A.units + 3 + 80 < cLine; omega)) (by rfl) T.repr bRepr (pa_cons (pe_xf (XfC.of T.t) T.n2 hz hf (pv 1) rfl) pa_nil)) pa_nil))))))
        (.cons ⟨rfl, by decide, .inl T.m4⟩ (fun _ _ _ _ _ _ _ => pss_false) (.cons ⟨rfl, by decide, .inl T.m5⟩ (fun _ _ _ _ _ _ _ => pss_false) (.cons ⟨rfl, by decide, .inl T.m6⟩ (fun _ _ _ _ _ _ _ => pss_false) (.cons ⟨rfl, by decide, .inl T.m7⟩ (fun _ _ _ _ _ _ _ => pss_false) .nil))))))))
      (pss_one (ps_ret pe_non)), ?_⟩
  · refine ⟨fun pins s' σ H' D I h' => ?_⟩
    obtain ⟨Ech, hW, h1, h2, h3⟩ := h'
    exact PSs.run (pss_one (ps_expr (act W pn xe Ech _ _ tk hW))) pins s' σ H' D I ⟨h1, h2, h3⟩
  · refine ⟨_, fun cls d σ' H' e => ?_, rfl, hc, h⟩
    obtain ⟨rfl, dd, v, wv, dv, rfl, ed, da, rp, k⟩ := e
    refine ⟨false, T.e1, fun z => (nomatch z), fun _ => ⟨false, T.e2, fun z => (nomatch z), fun _ => ⟨true, T.e3, fun _ len a na => ?_, fun z => (nomatch z)⟩⟩⟩
    obtain ⟨x0, x1, rfl⟩ : ∃ x0 x1, σ' = [x0, x1] := by
      match σ', len with
      | [x0, x1], _ => exact ⟨_, _, rfl⟩
    refine ⟨_, rfl, rfl, rfl, dd, _, wv, rfl, ed, by kernel_rfl, _, rfl, rfl, rfl, dd, _, v, rfl, ed, by kernel_rfl, v, dv, rfl, da, rp.1, Nat.le_trans rp.2.1 (by decide), Nat.le_trans rp.2.2 (by rw [sizeLine_eq]; decide), (by show 3 ≤ sizeLine; rw [sizeLine_eq]; decide), fun p np => ?_⟩
    exact k p _ upd_same (Same.new (L2.Same.refl H') np)
end GG


namespace GG
open PySem PySem.Spec PyProof.Rows L2 LamX
/-! ### the end of a law that makes lambdas -/
section
variable {P : Program} {w : World} {K : PySem.W.Frag} {mg mb : Str → Option Value} {k : Nat} {fa a c T : Addr} {fd : FuncData} {x : Str} {sp : Sp} {s1 : Shared} {vs : List Value} {ns : List Int}
noncomputable def startT (K : PySem.W.Frag) (T a : Addr) (vs : List Value) (ns : List Int) : Hp := fun b => if b = T then some (.tbl #[]) else startH K a vs ns b
theorem startT_same : startT K T a vs ns T = some (.tbl #[]) := if_pos rfl
theorem startT_ne {b : Addr} (n : b ≠ T) : startT K T a vs ns b = startH K a vs ns b := if_neg n
theorem lawGT (KX : K.In s1.heap) (hns : s1.heap.Ns mainGlobals mg) (hb : s1.heap.Ns builtinsNs mb) (hbb : ∀ x : Str, x ≠ "__name__" → mb x = bootBuiltins x) (hlim : s1.heap.NoLimit) (hg : s1.gens = #[])
    (tab : s1.heap.get? T = some { cls := .none, data := .fields #[] }) (noK : K.lookup T = none) (code : PySem.W.CodeHd s1.heap c T)
    (blt : ∃ (bm : Addr) (ob : Obj), mg "__builtins__" = some (.ref bm) ∧ bm ≠ builtinsNs ∧ s1.heap.get? bm = some ob ∧ ob.cls = .type "module" ∧ ob.dict = some builtinsNs ∧ ob.data = .plain)
    (ha : s1.heap.get? a = some { cls := .type "list", data := .seq vs.toArray }) (hi : IntsAre vs ns) (hl : ns.length ≤ sizeLine) (hr : Room k callerA)
    (F : ∀ base : Heap, K.In base → base.Ns mainGlobals mg → TabB base mg c T → FnG P w K mg base k fa fd [x] sp) (hbind : ∀ (s : Shared) (u : Value), BindsTo s fd ⟨[u], []⟩ [(x, u)])
    (hsp : ∀ H : Hp, H T = some (.tbl #[]) → SqL K H a (ns.map V.int) → sp [.ref a] H (fun v _ => v = .bl true) fun _ _ _ => False) :
    codeAny (model P w) callerA (.call (.ref fa) ⟨[.ref a], []⟩) (fun r s' => r = .ok (.ret (.bool true)) ∧ OldK s1.heap s'.heap ∧ s'.os = s1.os ∧ AllBare s'.gens) s1 := by
  have rv := vals_ints hi
  have aT : a ≠ T := fun z => by
    rw [z, tab] at ha
    cases ha
  let H : Hp := startT K T a vs ns
  have what : ∀ {b : Addr} {u : HO}, H b = some u → (b = T ∧ u = .tbl #[]) ∨ (b = a ∧ K.lookup a = none ∧ u = .frz { cls := .type "list", data := .seq vs.toArray } (.lst (ns.map V.int))) := fun {b u} e => by
    by_cases z : b = T
    · subst z
      exact .inl ⟨rfl, (Option.some.inj ((show some (.tbl #[]) = H b from startT_same.symm).trans e)).symm⟩
    · exact .inr (startH_some ((startT_ne z).symm.trans e))
  have held : HOk P w H s1.heap := fun b u e => by
    rcases what e with ⟨q1, q2⟩ | ⟨q1, _, q2⟩
    · subst q1 q2
      exact tab
    · subst q1 q2
      exact ⟨ha, by rw [List.length_map]; exact hl, vs, _, rv, ha⟩
  have untracked : ∀ {b : Addr} {o : Obj}, s1.heap.get? b = some o → (∀ z n, o.data ≠ .seq z n) → o.data ≠ .fields #[] → H b = none := fun {b o} e h1 h2 => by
    cases q : H b with
    | none => rfl
    | some u =>
      exfalso
      rcases what q with ⟨q1, _⟩ | ⟨q1, _, _⟩
      · subst q1
        cases e.symm.trans tab
        exact h2 rfl
      · subst q1
        cases e.symm.trans ha
        exact h1 _ _ rfl
  have dictFree : ∀ {b : Addr} {o : Obj} {es : Array DictEntry} {ep : Nat}, s1.heap.get? b = some o → o.data = .dict es ep → H b = none := fun e d => untracked e (fun _ _ z => by rw [d] at z; cases z) (fun z => by rw [d] at z; cases z)
  have stays : ∀ {b : Addr} {m : Str → Option Value}, s1.heap.Ns b m → (hidT s1.heap H).Ns b m := fun {b m} ⟨o, es, ep, e, d, r⟩ => ⟨o, es, ep, hidT_get e (dictFree e d), d, r⟩
  have KB : K.In (hidT s1.heap H) := fun b o e => hidT_get (KX b o e) (by
    cases q : H b with
    | none => rfl
    | some u =>
      exfalso
      rcases what q with ⟨q1, _⟩ | ⟨q1, q2, _⟩
      · subst q1
        cases e.symm.trans noK
      · subst q1
        cases e.symm.trans q2)
  have M : L2.Mod K mg (hidT s1.heap H) := ⟨KB, stays hns, ⟨mb, stays hb, hbb⟩, hlim.elim fun mc q => ⟨mc, stays q.1, q.2⟩⟩
  have TB : TabB (hidT s1.heap H) mg c T := by
    refine ⟨?_, ?_, fun z => ?_⟩
    · obtain ⟨o, us, f1, f2, f3, f4, f5, f6, f7, e1, r1, r2, r3, rest⟩ := code
      refine ⟨o, us, f1, f2, f3, f4, f5, f6, f7, hidT_get e1 (untracked e1 (fun _ _ z => by rw [r2] at z; cases z) (fun z => ?_)), r1, r2, r3, rest⟩
      rw [r2] at z
      cases z
      simp at r3
    · obtain ⟨bm, ob, b1, b2, b3, b4, b5, b6⟩ := blt
      refine ⟨bm, ob, b1, b2, fun q => ?_, fun q => ?_, hidT_get b3 (untracked b3 (fun _ _ z => by rw [b6] at z; cases z) (fun z => by rw [b6] at z; cases z)), b4, b5, b6⟩
      · obtain ⟨o, es, ep, e, d, _⟩ := hns
        rw [q] at b3
        cases e.symm.trans b3
        rw [d] at b6
        cases b6
      · rw [q] at b3
        cases tab.symm.trans b3
        cases b6
    · obtain ⟨o, es, ep, e, d, _⟩ := hns
      rw [z] at e
      cases tab.symm.trans e
      cases d
  have env : Env0 P w K mg (hidT s1.heap H) callerA [] s1 H := ⟨rfl, M, fun b o e => of_hidT e, Nat.le_of_eq (hidT_size _ _), trivial, (fun b z => absurd (show b ∈ ([] : List Addr) from z) List.not_mem_nil), held, .of_eq hg⟩
  have script : SqL K H a (ns.map V.int) := by
    cases q : K.lookup a with
    | none => exact .inl (.inr ⟨_, (startT_ne aT).trans (if_pos ⟨rfl, q⟩)⟩)
    | some o =>
      cases (KX a o q).symm.trans ha
      exact .inr ⟨_, vs.toArray, _, q, rfl, rfl, rfl, by rw [List.size_toArray, hi.length]; exact hl, by simpa using rv⟩
  refine codeAny_mono ((F _ KB (stays hns) TB).go callerA [] s1 H ⟨[.ref a], []⟩ [.ref a] [.ref a] _ _ rfl hr env (hbind s1 (.ref a)) (.cons rfl .nil) (hsp H startT_same script)) fun r s' res => ?_
  cases r with
  | error e => exact (show False from res).elim
  | ok fl =>
    cases fl with
    | next => exact (show False from res).elim
    | brk => exact (show False from res).elim
    | cont => exact (show False from res).elim
    | ret u =>
      obtain ⟨v, H', os, bare, un, ok', rr, q⟩ := res
      obtain rfl : v = .bl true := q
      cases (show u = Value.bool true from rr)
      have key : ∀ b o, b ≠ T → s1.heap.get? b = some o → s'.heap.get? b = some o := fun b o n e => by
        cases z : H b with
        | none => exact un.keep b o e z (fun m => absurd (show b ∈ ([] : List Addr) from m) List.not_mem_nil) (fun m => absurd (show b ∈ ([] : List Addr) from m) List.not_mem_nil)
        | some t =>
          rcases what z with ⟨q1, _⟩ | ⟨q1, _, q2⟩
          · exact absurd q1 n
          · subst q2
            have z2 := un.frzs b _ _ z
            have e1 := (held b _ z).1
            rw [e] at e1
            cases e1
            exact (ok' b _ z2).1
      obtain ⟨more, grown⟩ : ∃ more : Array Value, s'.heap.get? T = some { cls := .none, data := .fields more } := by
        obtain ⟨more, z⟩ := un.tbls T #[] startT_same
        exact ⟨_, ok' T _ z⟩
      refine ⟨rfl, ⟨fun b o e => ?_, fun b o e => ?_⟩, os, bare⟩
      · by_cases z : b = T
        · subst z
          cases tab.symm.trans e
          exact .inr (.inl ⟨(code.tab tab).isCodeTable, rfl, #[], more, rfl, by rw [Array.empty_append]; exact grown⟩)
        · exact .inl (key b o z e)
      · by_cases z : b = T
        · subst z
          exact ⟨_, grown⟩
        · exact ⟨o, key b o z e⟩
end
theorem walkGT {l : PySem.W.OpenLaw} {n k : Nat} {q : Program} {loose : List Str} {XP : (Str → Option Value) → Heap → Prop} {YP : World → Heap → Prop} {d : DefRec} {K : Params → PySem.W.Frag} {sp : World → Addr → Sp} {x : Str}
    (hn : l.most = some n) (small : n ≤ sizeLine) (dflt : d.params.defaults = []) (room : Room k callerA) (recd : ∃ d', (recsOf q).find? (fun e => e.name == d.name) = some d') (inY : ∀ (w : World) (h : Heap), YP w h → (K w.params).In h)
    (F : ∀ (w : World) (mg : Str → Option Value) (fa : Addr) (h : Heap), (K w.params).In h → h.Ns mainGlobals mg → mg d.name = some (.ref fa) →
      ∃ (fd : FuncData) (c T : Addr), PySem.W.tabIn (K w.params) d.name = some (c, T) ∧ (K w.params).lookup T = none ∧ (∀ (s : Shared) (u : Value), BindsTo s fd ⟨[u], []⟩ [(x, u)]) ∧
        ∀ base : Heap, (K w.params).In base → base.Ns mainGlobals mg → TabB base mg c T → FnG l.prog w (K w.params) mg base k fa fd [x] (sp w T))
    (start : ∀ (w : World) (H : Hp) (a T : Addr) (ns : List Int), ns.length ≤ n → (∀ z ∈ ns, Builtin.Int.intBits z ≤ 1048576) → H T = some (.tbl #[]) → SqL (K w.params) H a (ns.map V.int) → sp w T [.ref a] H (fun v _ => v = .bl true) fun _ _ _ => False) :
    PySem.W.WalkO q loose XP YP l.row.toRowW d [] (fun f vs => PySem.call f vs) := by
  refine Att.attach_callB hn dflt ?_
  intro w s0 s1 mg mb fa o pm cd doc a vs ns G Y _ _ _ named obj hi len bits gens
  obtain ⟨fd, c, T, ti, noK, bound, fns⟩ := F w mg fa _ (inY w _ Y) G.T.g named
  obtain ⟨d', hd'⟩ := recd
  obtain ⟨code, tab⟩ := PySem.W.tab_of G.T (inY w _ Y) hd' ti
  exact lawGT (inY w _ Y) G.T.g G.T.b G.T.builtins G.T.nolimit gens tab noK code G.T.bmain obj hi (Nat.le_trans len small) room fns bound fun H tb sq => start w H a T ns len bits tb sq
end GG


namespace GG
open PySem PySem.Spec PyProof.Rows L2 LamX
section
variable {P : Program} {w : World} {K : PySem.W.Frag} {mg : Str → Option Value} {base : Heap}
/-- as fnG, its code object told -/
theorem fnGC {x qual : Str} {st : Stmt} {f : Addr} {N ps : List Str} {k : Nat} {sp : Sp} {oc kV doc pm cdv ct : Value} {an od : Option Addr} {osl : Array (Option Value)}
    (look : K.lookup f = some ⟨oc, od, .func (PySem.W.fnOf x qual (defArgs st) (defBody st) (defScope st) .none kV doc pm an cdv ct), osl⟩) (code : PySem.W.codeIn K cdv qual = true) (S : FnScope N ps (defScope st)) (cnt : ∀ vs H Q E, sp vs H Q E → vs.length = ps.length)
    (body : ∀ (A : Around) (out : List Env) (s : Shared) (H : Hp) (vs : List V) (Q : VK) (E : XK), A.guards = some [] → Room k (A.deeper (envOfC qual (defScope st) s.heap.objs.size f cdv)) → sp vs H Q E →
      ∃ t, PSs (cxOf L2.CX0 P w K mg base N qual (defScope st) f cdv A out s H E).nox (defBody st) t ∧ t { nx := fun _ H' => Q .non H', rt := Q } (L2.start N vs) H) :
    FnG P w K mg base (k + 1) f (PySem.W.fnOf x qual (defArgs st) (defBody st) (defScope st) .none kV doc pm an cdv ct) ps sp := by
  refine ⟨cnt, ?_⟩
  intro A out s H args us vs Q E noG room env bnd rel prom
  have many := cnt _ _ _ _ prom
  have inK : K.In s.heap := env.mod.kin.keeps fun b o q => (env.bs b o q).1
  have free : s.heap.NoLimit := env.mod.nolimit.keeps fun b o q => (env.bs b o q).1
  have kinds : ∀ y ∈ ps.zip us, (defScope st).names.lookup y.1 = some .local ∨ ((defScope st).names.lookup y.1 = some .cell ∧ ((cellsFrom (s.heap.objs.size + 1) (defScope st).names []).lookup y.1).isSome = true) := by
    rintro ⟨n, v⟩ my
    cases S.par n (List.of_mem_zip my).1 with
    | inl q => exact .inl q
    | inr q => exact .inr ⟨q, PySem.W.cellsFrom_some _ _ _ (.inl q)⟩
  refine codeAny_call_function room.depth (inK _ _ look) rfl S.co S.gen rfl (PySem.W.codeRec_of inK code) (bnd _ _ _ _ ?_)
  refine wpAny_newFunctionEnv_cells S.kind kinds fun env' he s1 inC => ?_
  subst he
  refine ⟨free.keeps inC.toInCall.keep, codeAny_func ?_⟩
  obtain ⟨t, ht, start0⟩ := body A out s H vs Q E noG (room.deeper _) prom
  have J := inv_start (E := E) (CX := L2.CX0) S room.hd env many rel inC
  refine wpAny_mono (ht.nox.run [] s1 (L2.start N vs) H _ J start0) (fun fl s' res => ?_) (fun _ _ q => q)
  cases fl with
  | ret u =>
    obtain ⟨v, σ', H', J', rv, q⟩ := res
    exact ⟨v, H', J'.os, J'.bare, J'.base, J'.hok, rv, q⟩
  | next =>
    obtain ⟨σ', H', J', q⟩ := res
    exact ⟨.non, H', J'.os, J'.bare, J'.base, J'.hok, rfl, q⟩
  | brk => exact (res.choose_spec.choose_spec.2 : False).elim
  | cont => exact (res.choose_spec.choose_spec.2 : False).elim
end
/-- a call of a local name that holds one of several defs of one promise, which may raise -/
theorem pe_callAX {X : Cx} {W : WX} {E : XK} {S : Addr → Prop} {sp : Sp} {k i : Nat} {x : Str} {e : Expr} {es : List Expr} {t : TA} {p pos : Pos} (all : ∀ f, S f → ∃ fd ps, FnOk X.prog X.w X.K X.mg X.base (L2.CX X.prog X.w) k f fd ps sp ∧ PySem.W.keepIn X.K (.ref f) = true ∧ Binds X.K fd ps [])
    (hr : Room k X.A) (hN : X.N[i]? = some x) (hv : Vis X.env.scope x) (tk : Takes X W) (hW : ∀ cls d σ H, E cls d H → W cls d σ H) (ha : PA X (e :: es) t) (hdb : (x == ("__debug__" : Str)) = false := by decide) (hcd : (x == ("__classdict__" : Str)) = false := by decide)
    (he : starEach (e :: es) X.env = (false, eval e X.env) :: starEach es X.env := by rfl) (hpl : (backTo pos (starEach es X.env)).any (·.1) = false := by rfl) :
    PE X (.Call (.Name x p) (e :: es) [] pos) (fun σ H Q => ∃ f, σ[i]? = some (some (.ref f)) ∧ S f ∧ t σ H fun vs H1 => sp vs H1 Q E) := by
  refine ⟨fun pins s σ H Q I h => ?_⟩
  obtain ⟨f, hs, hS, ht⟩ := h
  obtain ⟨fd, ps, F, hk, hb⟩ := all f hS
  have same : (fun vs H1 => sp (vs ++ []) H1 Q E) = fun vs H1 => sp vs H1 Q E := by
    funext vs H1
    rw [List.append_nil]
  refine (pe_callL (i := i) (f := f) (sp := sp) (dvs := []) (E := E) F hr hN hv hk hb .nil (passes_call tk hW) ha hdb hcd he hpl).run pins s σ H Q I ⟨hs, ?_⟩
  rw [same]
  exact ht
/-! ### what stays when a lambda is made, and when a pen is asked -/
mutual
theorem Da.ext {H H' : Hp} (k : ExtN H H') : ∀ {v : V} {d : PyData}, Da H v d → Da H' v d
  | _, _, .non => .non
  | _, _, .bl b => .bl b
  | _, _, .int i => .int i
  | _, _, .str x => .str x
  | _, _, .lst e n t => .lst (k _ _ e (fun _ z => by cases z)) n (t.ext k)
  | _, _, .tup e t => .tup (k _ _ e (fun _ z => by cases z)) (t.ext k)
  | _, _, .dic e t => .dic (k _ _ e (fun _ z => by cases z)) (t.ext k)
theorem DaAll.ext {H H' : Hp} (k : ExtN H H') : ∀ {vs : List V} {ds : List PyData}, DaAll H vs ds → DaAll H' vs ds
  | _, _, .nil => .nil
  | _, _, .cons h t => .cons (h.ext k) (t.ext k)
end
theorem PenAt.ext {H H' : Hp} {p l : Addr} {c : Int} (k : ExtN H H') (h : PenAt H p l c) : PenAt H' p l c := by
  obtain ⟨ns, a, d, f, I⟩ := h
  exact ⟨ns, a, d, f, k _ _ I.obj (fun _ z => by cases z), k _ _ I.cel (fun _ z => by cases z), I.len, I.a0, I.d0, I.c0, I.f0, I.f1⟩
theorem PenAt.same {H H' : Hp} {p l : Addr} {c : Int} (k : Same H H') (h : PenAt H p l c) : PenAt H' p l c := h.ext (ExtN.of k)
theorem Tabs.keep {T : List (Addr × Str)} {H H' : Hp} {p l : Addr} {c : Int} (t : Tabs T H) (k : Keep p H H') (P : PenAt H p l c) : Tabs T H' := fun z hz => by
  obtain ⟨ns, a, d, f, I⟩ := P
  obtain ⟨ps, e, ok, all⟩ := t z hz
  have n : z.1 ≠ p := fun q => by
    rw [q, I.obj] at e
    cases e
  refine ⟨ps, k _ _ n e, ok, fun pos cv hc => ?_⟩
  obtain ⟨c', rfl, ec⟩ := all pos cv hc
  have n2 : c' ≠ p := fun q => by
    rw [q, I.obj] at ec
    unfold CodeO at ec
    cases ec
  exact ⟨c', rfl, k _ _ n2 ec⟩
theorem Tabs.same {T : List (Addr × Str)} {H H' : Hp} (t : Tabs T H) (k : Same H H') : Tabs T H' := t.ext k
/-- an operation that is asked of something that is no ratio -/
def spErr (C : Addr) : Sp := fun vs H _ E => ∃ v1 v2 d1 d2, vs = [v1, v2] ∧ Da H v1 d1 ∧ Da H v2 d2 ∧ smallR d1 ∧ smallR d2 ∧
  ((isR d1 = false ∧ ∀ dd H', H' dd = some (.xd [("number", v1), ("what", .str "ratio")]) → Same H H' → E (.ref C) (some dd) H') ∨
    (isR d1 = true ∧ isR d2 = false ∧ ∀ dd H', H' dd = some (.xd [("number", v2), ("what", .str "ratio")]) → Same H H' → E (.ref C) (some dd) H'))
theorem err_bin {C : Addr} {ok : Int × Int → Int × Int → Hp → VK → Prop} : ∀ vs H Q E, spErr C vs H Q E → spBin C ok vs H Q E := by
  rintro vs H Q E ⟨v1, v2, d1, d2, rfl, a1, a2, m1, m2, h⟩
  refine ⟨v1, v2, d1, d2, rfl, a1, a2, m1, m2, fun h1 h2 => ?_, fun h1 => ?_, fun h1 h2 => ?_⟩
  · rcases h with ⟨z, _⟩ | ⟨_, z, _⟩
    · rw [h1] at z
      cases z
    · rw [h2] at z
      cases z
  · rcases h with ⟨_, k⟩ | ⟨z, _⟩
    · exact k
    · rw [h1] at z
      cases z
  · rcases h with ⟨z, _⟩ | ⟨_, _, k⟩
    · rw [h1] at z
      cases z
    · exact k
/-! ### two ratios in a tuple, shown -/
def dRat (a : Int × Int) : PyData := .tuple [.int a.1, .int a.2]
def dPair (a b : Int × Int) : PyData := .tuple [dRat a, dRat b]
def in250 (a : Int × Int) : Prop := a.1.natAbs < 2 ^ 250 ∧ a.2.natAbs < 2 ^ 250
theorem log250 {i : Int} (h : i.natAbs < 2 ^ 250) : i.natAbs.log2 < 1920 := log2_small (Nat.lt_of_lt_of_le h (Nat.pow_le_pow_right (by decide) (by decide)))
theorem rat_len {a : Int × Int} (h : in250 a) : (dRat a).shown.length ≤ 4000 := by
  have z := tuple_len [.int a.1, .int a.2] 1922 (by
    intro d hd
    simp only [List.mem_cons, List.not_mem_nil, or_false] at hd
    rcases hd with rfl | rfl
    · rw [PyData.shown_int]
      exact Nat.le_succ_of_le (int_text_len_1921 (log250 h.1))
    · rw [PyData.shown_int]
      exact Nat.le_succ_of_le (int_text_len_1921 (log250 h.2)))
  simp only [List.length_cons, List.length_nil] at z
  exact Nat.le_trans z (by decide)
theorem pair_ok {a b : Int × Int} (ha : in250 a) (hb : in250 b) : (dPair a b).showable = true ∧ (dPair a b).depth ≤ 60 ∧ (dPair a b).shown.length ≤ sizeLine := by
  refine ⟨?_, ?_, ?_⟩
  · simp only [dPair, dRat, PyData.showable, PyData.showableAll, Bool.and_true, Bool.and_eq_true, decide_eq_true_eq]
    exact ⟨⟨log250 ha.1, log250 ha.2⟩, log250 hb.1, log250 hb.2⟩
  · simp [dPair, dRat, PyData.depth, PyData.depthAll]
  · have z := tuple_len [dRat a, dRat b] 4000 (by
      intro d hd
      simp only [List.mem_cons, List.not_mem_nil, or_false] at hd
      rcases hd with rfl | rfl
      · exact rat_len ha
      · exact rat_len hb)
    simp only [List.length_cons, List.length_nil] at z
    rw [sizeLine_eq]
    exact Nat.le_trans z (by decide)
theorem da_rat {H : Hp} {r : Addr} {a : Int × Int} (e : H r = some (.tup [.int a.1, .int a.2])) : Da H (.ref r) (dRat a) := .tup e (.cons (.int _) (.cons (.int _) .nil))
theorem up120 {x : Int} (h : x.natAbs < 2 ^ 100) : x.natAbs < 2 ^ 120 := Nat.lt_of_lt_of_le h (Nat.pow_le_pow_right (by decide) (by decide))
theorem mid.smallP {a : Int × Int} (m : mid a) : smallP a := ⟨up120 m.1, up120 m.2.1, m.2.2.1⟩
theorem mid.in250 {a : Int × Int} (m : mid a) : in250 a := ⟨small250 (up120 m.1), small250 (up120 m.2.1)⟩
theorem lw_in {t b : Int} (h0 : 0 < b) (ht : t.natAbs < 2 ^ 250) (hb : b.natAbs < 2 ^ 250) : in250 (lw t b) := by
  obtain ⟨x, y, _⟩ := lw_small (t := t) h0
  exact ⟨Nat.lt_of_le_of_lt x ht, Nat.lt_of_le_of_lt y hb⟩
theorem up250 {x : Int} (h : x.natAbs < 2 ^ 240) : x.natAbs < 2 ^ 250 := Nat.lt_of_lt_of_le h (Nat.pow_le_pow_right (by decide) (by decide))
theorem plus_in {a b : Int × Int} (ha : smallP a) (hb : smallP b) : in250 (rPlus a b) ∧ in250 (rMinus a b) ∧ in250 (rTimes a b) := by
  have h0 : 0 < a.2 * b.2 := Int.mul_pos ha.2.2 hb.2.2
  have h1 := up250 (prod240 ha.2.1 hb.2.1)
  exact ⟨lw_in h0 (sum250 (prod240 ha.1 hb.2.1) (prod240 hb.1 ha.2.1)).1 h1, lw_in h0 (sum250 (prod240 ha.1 hb.2.1) (prod240 hb.1 ha.2.1)).2 h1, lw_in h0 (up250 (prod240 ha.1 hb.1)) h1⟩
end GG


namespace GG
open PySem PySem.Spec PyProof.Rows L2
/-! ### signs -/
def dig (c : Nat) : Bool := decide (48 ≤ c ∧ c ≤ 57)
def digAt (L : List Nat) (i : Nat) : Bool := match L[i]? with
  | some c => dig c
  | none => false
/-- the place behind at most k digits from i on -/
def runE (L : List Nat) : Nat → Nat → Nat
  | 0, i => i
  | k + 1, i => if digAt L i = true then runE L k (i + 1) else i
/-- the place behind the NUMBER at i; none: there is none -/
def numE (L : List Nat) (i : Nat) : Option Nat :=
  if digAt L i = true then some (if L[i]? = some 48 then i + 1 else runE L 19 (i + 1)) else none
def T (L : List Nat) : Str := ⟨L.toArray⟩
theorem T_len (L : List Nat) : (T L).length = L.length := by simp [T, Str.length]
theorem dig_in (c : Nat) : decide (c ∈ ("0123456789" : Str).cps.toList) = dig c := by
  have e : ("0123456789" : Str).cps.toList = [48, 49, 50, 51, 52, 53, 54, 55, 56, 57] := by decide +kernel
  rw [e]
  unfold dig
  refine decide_eq_decide.mpr ?_
  simp only [List.mem_cons, List.not_mem_nil, or_false]
  omega
theorem T_str (z : String) : (Str.ofString z) = T (Str.ofString z).cps.toList := rfl
theorem T_inj {a b : List Nat} (h : T a = T b) : a = b := by
  have := congrArg (fun z : Str => z.cps.toList) h
  simpa [T] using this
theorem cut1 {L : List Nat} (i : Nat) : cutS (T L) (some (i : Int)) (some ((i + 1 : Nat) : Int)) = T ((L.drop i).take 1) := by
  show T _ = _
  rw [HT.sIx_nat, HT.sIx_nat, T_len]
  refine congrArg T ?_
  show List.take (min (i + 1) L.length - min i L.length) (List.drop (min i L.length) L) = _
  by_cases h : i < L.length
  · have a1 : min (i + 1) L.length = i + 1 := by omega
    have a2 : min i L.length = i := by omega
    have a3 : i + 1 - i = 1 := by omega
    rw [a1, a2, a3]
  · have a1 : min (i + 1) L.length = L.length := by omega
    have a2 : min i L.length = L.length := by omega
    have a3 : L.length - L.length = 0 := by omega
    rw [a1, a2, a3, List.drop_eq_nil_of_le (Nat.le_of_not_lt h)]
    rfl
/-- a text of one sign at a place, compared -/
theorem cut_is {L : List Nat} {i c : Nat} {s : Str} (e : s = T [c]) : decide (V.str (T ((L.drop i).take 1)) = V.str s) = decide (L[i]? = some c) := by
  subst e
  refine decide_eq_decide.mpr ⟨fun h => ?_, fun h => ?_⟩
  · have h2 := T_inj (V.str.inj h)
    cases q : L.drop i with
    | nil => rw [q] at h2; cases h2
    | cons d r =>
      rw [q] at h2
      cases h2
      have : (L.drop i)[0]? = some c := by rw [q]; rfl
      rw [List.getElem?_drop] at this
      exact this
  · have : (L.drop i)[0]? = some c := by rw [List.getElem?_drop]; exact h
    cases q : L.drop i with
    | nil => rw [q] at this; cases this
    | cons d r =>
      rw [q] at this
      cases this
      rfl
abbrev sDigit : Stmt := topS 19
abbrev sNumE : Stmt := topS 20
abbrev sSign : Stmt := topS 21
abbrev sBT : Stmt := inClass (topS 3) 0
structure DTxt (mg : Str → Option Value) : Prop where
  len : mg "len" = none
  digits : ∃ t, mg "DIGITS" = some (.str "0123456789" t)
  most : ∃ t, mg "MOST_DIGITS" = some (.int 20 t)
def spDigit : Sp := fun vs H Q _ => ∃ (L : List Nat) (i : Nat), vs = [.str (T L), .int i] ∧ L.length ≤ 1000 ∧ Q (.bl (digAt L i)) H
theorem bLen : bootBuiltins "len" = some (.builtin "len") := by decide +kernel
section
variable {P : Program} {w : World} {K : PySem.W.Frag} {mg : Str → Option Value} {base : Heap}
theorem scDigit : FnScope ["text", "at"] ["text", "at"] (defScope sDigit) := ⟨rfl, rfl, rfl, by decide +kernel, rfl, by decide +kernel, by decide +kernel⟩
theorem kn_digit (D : DefIs K mg "digit_at" sDigit) (X : DTxt mg) : Kn P w K mg base "digit_at" 1 ["text", "at"] spDigit := by
  obtain ⟨td, hd⟩ := X.digits
  refine .of D (fun _ _ _ _ _ _ us hl => match us, hl with | [_, _], _ => rfl) fun _ _ F => ?_
  refine F.ok scDigit (fun vs H Q E h => ?_) (fun cdv A outer s H vs Q E hr h => ?_)
  · obtain ⟨L, i, rfl, _⟩ := h
    rfl
  · obtain ⟨L, i, rfl, sz, k⟩ := h
    refine ⟨_, pss_one (ps_ret (pe_and (pe_cmpR op_lt (pv 1) (pe_callB call_len_str (by rfl) X.len bLen (pa_cons (pv 0) pa_nil)) (nomark _))
      (pe_one (pe_cmpR op_in_sign (pe_ix ix_str (pv 0) (pv 1) (fun _ _ => rfl)) (pe_glob (v := .str "0123456789") (by rfl) hd ⟨td, rfl⟩) (by with_unfolding_all rfl))))), ?_⟩
    have sz2 : (T L).length ≤ sizeLine := by rw [T_len, sizeLine_eq]; omega
    refine ⟨_, rfl, _, rfl, _, rfl, sz2, _, _, rfl, rfl, _, rfl, ?_⟩
    rw [T_len]
    refine ite2 (fun e => ?_) (fun e => ?_)
    · have lt : i < L.length := by have := of_decide_eq_true e; omega
      have g : L[i]? = some L[i] := List.getElem?_eq_getElem lt
      refine ⟨_, rfl, _, rfl, _, _, L[i], rfl, rfl, sz2, atI_nat (by exact g), _, _, rfl, rfl, ?_⟩
      rw [dig_in]
      have e2 : digAt L i = dig L[i] := by unfold digAt; rw [g]
      rw [← e2]
      exact k
    · have ge : L.length ≤ i := by
        have := mt (decide_eq_true (p := (i : Int) < (L.length : Int))) e
        omega
      have e2 : digAt L i = false := by unfold digAt; rw [List.getElem?_eq_none ge]
      rw [e2] at k
      exact k
end
end GG

namespace GG
open PySem PySem.Spec PyProof.Rows L2
/-! ### BadText, one field -/
def spBT (C : Addr) : Sp := fun vs H Q _ => ∃ (a : Addr) (y : V), vs = [.ref a, y] ∧ H a = some (exo a C none) ∧ ∀ (dx : Addr) (H' : Hp), H dx = none → dx ≠ a → H' a = some (exo a C (some dx)) → H' dx = some (exd dx [("column", y)]) → Keep a H H' → Q .non H'
structure BTTxt (P : Program) (w : World) (K : PySem.W.Frag) (mg : Str → Option Value) (base : Heap) (C : Addr) : Prop where
  m : mg "BadText" = some (.ref C)
  t : ExT K C
  ini : ∃ fI fd, PySem.W.findIn K (.ref C) "__init__" = some (some (.ref fI)) ∧ PySem.W.typeIn K (.ref fI) = some (.type "function") ∧ Binds K fd ["self", "column"] [] ∧ FnOk P w K mg base CX0 1 fI fd ["self", "column"] (spBT C)
section
variable {P : Program} {w : World} {K : PySem.W.Frag} {mg : Str → Option Value} {base : Heap}
theorem scBT : FnScope ["self", "column"] ["self", "column"] (defScope sBT) := ⟨rfl, rfl, rfl, by decide +kernel, rfl, by decide +kernel, by decide +kernel⟩
theorem bt_of {C fI : Addr} {fd : FuncData} (m : mg "BadText" = some (.ref C)) (t : ExT K C) (n1 : PySem.W.findIn K (.ref C) "column" = some none)
    (i : PySem.W.findIn K (.ref C) "__init__" = some (some (.ref fI))) (ti : PySem.W.typeIn K (.ref fI) = some (.type "function")) (U : Fun K "__init__" "BadText.__init__" sBT fI fd) : BTTxt P w K mg base C := by
  refine ⟨m, t, fI, fd, i, ti, U.binds fun _ _ _ _ _ _ us hl => match us, hl with | [_, _], _ => rfl, ?_⟩
  refine U.ok scBT (fun vs H Q E h => ?_) (fun cdv A outer s H vs Q E hr h => ?_)
  · obtain ⟨a, y1, rfl, _⟩ := h
    rfl
  · obtain ⟨a, y1, rfl, he, k⟩ := h
    refine ⟨_, pss_one (ps_ost (pv 0) (pv 1)), ?_⟩
    refine ⟨_, rfl, _, rfl, a, C, rfl, t.ox, n1, .inl ⟨he, fun dx hdx ne => ?_⟩⟩
    refine k dx _ hdx ne upd_same (by rw [upd_ne ne, upd_same]) fun b o nb e => ?_
    rw [upd_ne nb, upd_ne (ne_of_none e hdx)]
    exact e
/-- raise BadText(a): what is left behind the argument -/
theorem raiseBT {C : Addr} {y : V} {H1 : Hp} {R : Value → Option Addr → Hp → Prop} (k : ∀ (d : Addr) (H' : Hp), H' d = some (.xd [("column", y)]) → Same H1 H' → R (.ref C) (some d) H') :
    [y].length ≤ 1000 ∧ ∀ a, H1 a = none → spBT C (.ref a :: ([y] ++ [])) (upd H1 a (exo a C none))
      (fun v H2 => v = .non ∧ ∃ (d : Addr) (fs : List (Str × V)), H2 a = some (exo a C (some d)) ∧ H2 d = some (exd d fs) ∧ H1 d = none ∧ R (.ref C) (some d) (upd (del H2 a) d (.xd fs))) (fun _ _ _ => False) := by
  refine ⟨(by show 1 ≤ 1000; decide), fun a na => ⟨a, y, rfl, upd_same, fun dx H2 hdx ne e1 e2 kp => ⟨rfl, dx, _, e1, e2, ?_, ?_⟩⟩⟩
  · rw [upd_ne ne] at hdx
    exact hdx
  · refine k dx _ upd_same fun b o z => ?_
    have nd : H1 dx = none := by
      rw [upd_ne ne] at hdx
      exact hdx
    rw [upd_ne (ne_of_none z nd), del_ne (ne_of_none z na)]
    exact kp b o (ne_of_none z na) (by rw [upd_ne (ne_of_none z na)]; exact z)
theorem ps_raiseBT {X : Cx} {C : Addr} {W : WX} {e1 : Expr} {ta : TA} {p pos pos2 : Pos} (hc : X.calm = true) (T : BTTxt X.prog X.w X.K X.mg X.base C) (hr : Room 2 X.A) (tk : Takes X W) (ha : PA X [e1] ta) (hg : Gl X "BadText" := by rfl)
    (he : starEach (e1 :: []) X.env = (false, eval e1 X.env) :: starEach [] X.env := by rfl) (hpl : (backTo pos (starEach [] X.env)).any (·.1) = false := by rfl) :
    PS X (.Raise (some (.Call (.Name "BadText" p) [e1] [] pos)) none pos2) (fun _ σ H => tMkO C (spBT C) [] ta σ H fun cls d H' => W cls d σ H') := by
  obtain ⟨fI, fd, i, ti, hb, G⟩ := T.ini
  exact ps_raise hc tk (pmk_oex (CX := CX0) T.t.ox i ti G hr hb .nil (fun _ _ _ _ _ _ _ z => z.elim) hg T.m ha (by decide) he hpl)
end
end GG

namespace GG
open PySem PySem.Spec PyProof.Rows L2
theorem runE_le (L : List Nat) : ∀ (k i : Nat), i ≤ runE L k i ∧ runE L k i ≤ i + k
  | 0, i => ⟨Nat.le_refl _, Nat.le_refl _⟩
  | k + 1, i => by
    unfold runE
    split
    · have := runE_le L k (i + 1)
      omega
    · omega
/-- what raises BadText at a column -/
def eBT (C : Addr) (col : Int) (H : Hp) (E : XK) : Prop := ∀ dd H', H' dd = some (.xd [("column", .int col)]) → Same H H' → E (.ref C) (some dd) H'
def spNumE (C : Addr) : Sp := fun vs H Q E => ∃ (L : List Nat) (i : Nat), vs = [.str (T L), .int i] ∧ L.length ≤ 1000 ∧ (∀ n, numE L i = some n → Q (.int (n : Nat)) H) ∧ (numE L i = none → eBT C (i + 1) H E)
section
variable {P : Program} {w : World} {K : PySem.W.Frag} {mg : Str → Option Value} {base : Heap}
theorem scNumE : FnScope ["text", "at", "end"] ["text", "at"] (defScope sNumE) := ⟨rfl, rfl, rfl, by decide +kernel, rfl, by decide +kernel, by decide +kernel⟩
theorem kn_numE {C : Addr} (D : DefIs K mg "number_end" sNumE) (X : DTxt mg) (N : BTTxt P w K mg base C) (B : Kn P w K mg base "digit_at" 1 ["text", "at"] spDigit) : KnX P w K mg base "number_end" 3 ["text", "at"] (spNumE C) := by
  obtain ⟨tm, hm⟩ := X.most
  refine .of D (fun _ _ _ _ _ _ us hl => match us, hl with | [_, _], _ => rfl) fun _ _ F => ?_
  refine F.okX scNumE (fun vs H Q E h => ?_) (fun cdv A outer s H vs Q E hr h => ?_)
  · obtain ⟨L, i, rfl, _⟩ := h
    rfl
  · obtain ⟨L, i, rfl, sz, kQ, kE⟩ := h
    have hr1 : Room 1 _ := hr.mono (by decide)
    refine ⟨_, pss_cons (ps_if (pt_not (pt_val (pe_kn B hr1 (pa_cons (pv 0) (pa_cons (pv 1) pa_nil))))) (pss_one (ps_raiseBT rfl N hr (takes_of rfl rfl rfl rfl) (pa_cons (pe_op op_add (pv 1) pe_int) pa_nil))) pss_nil)
      (pss_cons (ps_if (pt_cmpR op_eq (pe_ix ix_str (pv 0) (pv 1) (fun _ _ => rfl)) pe_str (nomark _)) (pss_one (ps_ret (pe_op op_add (pv 1) pe_int))) pss_nil)
      (pss_cons (ps_set (i := 2) scNumE.nd rfl (.inl rfl) (pe_op op_add (pv 1) pe_int))
      (pss_cons (ps_while PassesOwn.leaving (PW.pt (pw_and (pt_cmpR op_lt (pv 2) (pe_op op_add (pv 1) (pe_glob (v := .int 20) (by rfl) hm ⟨tm, rfl⟩)) (nomark _)) (pw_and1 (pt_val (pe_kn B hr1 (pa_cons (pv 0) (pa_cons (pv 2) pa_nil)))))))
        (pss_one (ps_aug (i := 2) scNumE.nd rfl (.inl rfl) pe_int ip_add)))
      (pss_one (ps_ret (pv 2)))))), ?_⟩
    refine ⟨_, rfl, _, rfl, L, i, rfl, sz, _, rfl, ?_⟩
    have sz2 : (T L).length ≤ sizeLine := by rw [T_len, sizeLine_eq]; omega
    by_cases hd : digAt L i = true
    · rw [hd]
      refine iteF ?_
      have lt : i < L.length := by
        rcases Nat.lt_or_ge i L.length with z | z
        · exact z
        · unfold digAt at hd
          rw [List.getElem?_eq_none z] at hd
          cases hd
      have g : L[i]? = some L[i] := List.getElem?_eq_getElem lt
      refine ⟨_, rfl, _, rfl, _, _, L[i], rfl, rfl, sz2, atI_nat (by exact g), rfl, _, rfl, ?_⟩
      have ne0 : numE L i = some (if L[i]? = some 48 then i + 1 else runE L 19 (i + 1)) := by unfold numE; rw [if_pos hd]
      refine ite2 (fun e => ?_) (fun e => ?_)
      · have c : L[i] = 48 := (List.cons.inj (T_inj (a := [L[i]]) (b := [48]) (V.str.inj (of_decide_eq_true e)))).1
        rw [g, c, if_pos rfl] at ne0
        exact ⟨_, rfl, _, _, rfl, rfl, kQ _ ne0⟩
      · have c : ¬ L[i]? = some 48 := fun z => e (decide_eq_true (by
          rw [g] at z
          rw [Option.some.inj z]
          rfl))
        rw [if_neg c] at ne0
        refine ⟨_, rfl, _, _, rfl, rfl, ?_⟩
        refine ⟨fun m σ H' => H' = H ∧ ∃ j : Nat, σ = [some (.str (T L)), some (.int (i : Int)), some (.int (j : Int))] ∧ i + 1 ≤ j ∧ j ≤ i + 20 ∧ m = i + 20 - j ∧ runE L (i + 20 - j) j = runE L 19 (i + 1), ⟨_, rfl, i + 1, rfl, Nat.le_refl _, by omega, rfl, by rw [show i + 20 - (i + 1) = 19 by omega]⟩, ?_⟩
        rintro m σ H' ⟨rfl, j, rfl, h1, h2, rfl, h3⟩
        refine ⟨_, rfl, _, rfl, _, _, rfl, rfl, _, _, rfl, rfl, _, rfl, ?_⟩
        refine ite2 (fun e2 => ?_) (fun e2 => ?_)
        · have lt2 : j < i + 20 := by have := of_decide_eq_true e2; omega
          refine ⟨_, rfl, _, rfl, L, j, rfl, sz, _, rfl, ?_⟩
          have st : runE L (i + 20 - j) j = if digAt L j = true then runE L (i + 20 - (j + 1)) (j + 1) else j := by
            rw [show i + 20 - j = (i + 20 - (j + 1)) + 1 by omega]
            rfl
          by_cases dj : digAt L j = true
          · rw [dj]
            rw [if_pos dj] at st
            refine ⟨fun σ' H'' => H'' = H' ∧ σ' = [some (.str (T L)), some (.int (i : Int)), some (.int ((j + 1 : Nat) : Int))], ?_, ?_⟩
            · rintro σ' H'' ⟨rfl, rfl⟩
              exact ⟨i + 20 - (j + 1), by omega, rfl, j + 1, rfl, by omega, by omega, rfl, st ▸ h3⟩
            · exact ⟨_, rfl, _, _, rfl, rfl, rfl, rfl⟩
          · rw [Bool.eq_false_iff.mpr dj]
            rw [if_neg dj] at st
            rw [st] at h3
            rw [← h3] at ne0
            exact ⟨_, rfl, kQ _ ne0⟩
        · have ej : j = i + 20 := by
            have := mt (decide_eq_true (p := (j : Int) < (i : Int) + 20)) e2
            omega
          rw [show i + 20 - j = 0 by omega] at h3
          have h4 : j = runE L 19 (i + 1) := h3
          rw [← h4] at ne0
          exact ⟨_, rfl, kQ _ ne0⟩
    · have hn : numE L i = none := by unfold numE; rw [if_neg hd]
      rw [Bool.eq_false_iff.mpr hd]
      refine iteT ?_
      exact ⟨_, rfl, _, _, rfl, rfl, raiseBT fun dd H' e S' => kE hn dd H' e S'⟩
end
end GG

namespace GG
open PySem PySem.Spec PyProof.Rows L2
abbrev sUns : Stmt := topS 22
/-- the place behind the text of a ratio without sign at i, or the wrong column -/
def unsE (L : List Nat) (i : Nat) : Sum Nat Nat := match numE L i with
  | none => .inl (i + 1)
  | some e => if L[e]? = some 47 then (if L[e + 1]? = some 48 then .inl (e + 2) else match numE L (e + 1) with
    | none => .inl (e + 2)
    | some n => .inr n) else .inr e
def spSign : Sp := fun vs H Q _ => ∃ (L : List Nat) (i : Nat), vs = [.str (T L), .int i] ∧ L.length ≤ 1000 ∧ Q (.int ((if L[i]? = some 45 then i + 1 else i : Nat) : Int)) H
def spUns (C : Addr) : Sp := fun vs H Q E => ∃ (L : List Nat) (i : Nat), vs = [.str (T L), .int i] ∧ L.length ≤ 1000 ∧ (∀ n : Nat, unsE L i = .inr n → Q (.int (n : Nat)) H) ∧ (∀ c : Nat, unsE L i = .inl c → eBT C (c : Nat) H E)
section
variable {P : Program} {w : World} {K : PySem.W.Frag} {mg : Str → Option Value} {base : Heap}
theorem scSign : FnScope ["text", "at"] ["text", "at"] (defScope sSign) := ⟨rfl, rfl, rfl, by decide +kernel, rfl, by decide +kernel, by decide +kernel⟩
theorem scUns : FnScope ["text", "at", "end"] ["text", "at"] (defScope sUns) := ⟨rfl, rfl, rfl, by decide +kernel, rfl, by decide +kernel, by decide +kernel⟩
theorem kn_sign (D : DefIs K mg "behind_sign" sSign) : Kn P w K mg base "behind_sign" 1 ["text", "at"] spSign := by
  refine .of D (fun _ _ _ _ _ _ us hl => match us, hl with | [_, _], _ => rfl) fun _ _ F => ?_
  refine F.ok scSign (fun vs H Q E h => ?_) (fun cdv A outer s H vs Q E hr h => ?_)
  · obtain ⟨L, i, rfl, _⟩ := h
    rfl
  · obtain ⟨L, i, rfl, sz, k⟩ := h
    refine ⟨_, pss_cons (ps_if (pt_cmpR op_eq (pe_slice sl_str (pv 0) (po_some (pv 1)) (po_some (pe_op op_add (pv 1) pe_int))) pe_str (nomark _)) (pss_one (ps_ret (pe_op op_add (pv 1) pe_int))) pss_nil)
      (pss_one (ps_ret (pv 1))), ?_⟩
    have sz2 : (T L).length ≤ sizeLine := by rw [T_len, sizeLine_eq]; omega
    refine ⟨_, rfl, _, rfl, _, rfl, _, rfl, _, _, rfl, rfl, _, rfl, _, rfl, sz2, ?_⟩
    refine ⟨rfl, _, rfl, ?_⟩
    have e1 := cut1 (L := L) i
    have e2 := cut_is (L := L) (i := i) (c := 45) (s := "-") rfl
    rw [show ((i : Int) + 1) = ((i + 1 : Nat) : Int) from rfl, e1, e2]
    refine ite2 (fun e => ?_) (fun e => ?_)
    · rw [if_pos (of_decide_eq_true e)] at k
      exact ⟨_, rfl, _, _, rfl, rfl, k⟩
    · rw [if_neg (fun z => e (decide_eq_true z))] at k
      exact ⟨_, rfl, k⟩
theorem kn_uns {C : Addr} (D : DefIs K mg "unsigned_end" sUns) (N : BTTxt P w K mg base C) (B : KnX P w K mg base "number_end" 3 ["text", "at"] (spNumE C)) : KnX P w K mg base "unsigned_end" 4 ["text", "at"] (spUns C) := by
  refine .of D (fun _ _ _ _ _ _ us hl => match us, hl with | [_, _], _ => rfl) fun _ _ F => ?_
  refine F.okX scUns (fun vs H Q E h => ?_) (fun cdv A outer s H vs Q E hr h => ?_)
  · obtain ⟨L, i, rfl, _⟩ := h
    rfl
  · obtain ⟨L, i, rfl, sz, kQ, kE⟩ := h
    have hr2 : Room 2 _ := hr.mono (by decide)
    refine ⟨_, pss_cons (ps_set (i := 2) scUns.nd rfl (.inl rfl) (pe_knX B hr (takes_of rfl rfl rfl rfl) (fun _ _ _ _ h => h) (pa_cons (pv 0) (pa_cons (pv 1) pa_nil))))
      (pss_cons (ps_if (pt_cmpR op_ne (pe_slice sl_str (pv 0) (po_some (pv 2)) (po_some (pe_op op_add (pv 2) pe_int))) pe_str (nomark _)) (pss_one (ps_ret (pv 2))) pss_nil)
      (pss_cons (ps_if (pt_cmpR op_eq (pe_slice sl_str (pv 0) (po_some (pe_op op_add (pv 2) pe_int)) (po_some (pe_op op_add (pv 2) pe_int))) pe_str (nomark _)) (pss_one (ps_raiseBT rfl N hr2 (takes_of rfl rfl rfl rfl) (pa_cons (pe_op op_add (pv 2) pe_int) pa_nil))) pss_nil)
      (pss_one (ps_ret (pe_knX B hr (takes_of rfl rfl rfl rfl) (fun _ _ _ _ h => h) (pa_cons (pv 0) (pa_cons (pe_op op_add (pv 2) pe_int) pa_nil))))))), ?_⟩
    have sz2 : (T L).length ≤ sizeLine := by rw [T_len, sizeLine_eq]; omega
    refine ⟨_, rfl, _, rfl, L, i, rfl, sz, fun n hn => ?_, fun hn dd H' e S => kE (i + 1) (by unfold unsE; rw [hn]) dd H' e S⟩
    have u : unsE L i = if L[n]? = some 47 then (if L[n + 1]? = some 48 then .inl (n + 2) else match numE L (n + 1) with
      | none => .inl (n + 2)
      | some n => .inr n) else .inr n := by unfold unsE; rw [hn]
    refine ⟨_, rfl, _, rfl, _, rfl, _, rfl, _, _, rfl, rfl, _, rfl, _, rfl, sz2, ?_⟩
    refine ⟨rfl, _, rfl, ?_⟩
    have e1 := cut1 (L := L) n
    have e2 := cut_is (L := L) (i := n) (c := 47) (s := "/") rfl
    rw [show ((n : Int) + 1) = ((n + 1 : Nat) : Int) from rfl, e1, e2]
    by_cases c1 : L[n]? = some 47
    · rw [if_pos c1] at u
      rw [decide_eq_true c1]
      refine iteF ?_
      refine ⟨_, rfl, _, rfl, _, _, rfl, rfl, _, rfl, _, rfl, _, _, rfl, rfl, _, rfl, _, rfl, sz2, ?_⟩
      refine ⟨rfl, _, rfl, ?_⟩
      have e3 := cut1 (L := L) (n + 1)
      have e4 := cut_is (L := L) (i := n + 1) (c := 48) (s := "0") rfl
      rw [show ((n : Int) + 1) = ((n + 1 : Nat) : Int) from rfl, show ((n : Int) + 2) = ((n + 1 + 1 : Nat) : Int) from rfl, e3, e4]
      by_cases c2 : L[n + 1]? = some 48
      · rw [if_pos c2] at u
        rw [decide_eq_true c2]
        refine iteT ?_
        exact ⟨_, rfl, _, _, rfl, rfl, raiseBT fun dd H' e S' => kE _ u dd H' e S'⟩
      · rw [if_neg c2] at u
        rw [decide_eq_false c2]
        refine iteF ?_
        refine ⟨_, rfl, _, rfl, _, _, rfl, rfl, L, n + 1, rfl, sz, fun m hm => kQ m (by rw [u, hm]), fun hm dd H' e S => kE (n + 2) (by rw [u, hm]) dd H' e S⟩
    · rw [if_neg c1] at u
      rw [decide_eq_false c1]
      refine iteT ?_
      exact ⟨_, rfl, kQ n u⟩
end
end GG

namespace GG
open PySem PySem.Spec PyProof.Rows L2
theorem digAt_iff {L : List Nat} {j : Nat} : digAt L j = true ↔ ∃ c, L[j]? = some c ∧ 48 ≤ c ∧ c ≤ 57 := by
  unfold digAt
  cases h : L[j]? with
  | none => exact ⟨fun z => Bool.noConfusion z, fun ⟨c, z, _⟩ => nomatch z⟩
  | some c => exact ⟨fun z => ⟨c, rfl, of_decide_eq_true z⟩, fun ⟨d, e, z⟩ => by cases e; exact decide_eq_true z⟩
theorem runE_dig (L : List Nat) : ∀ (k i j : Nat), i ≤ j → j < runE L k i → digAt L j = true
  | 0, i, j, h, h2 => absurd h2 (Nat.not_lt.mpr h)
  | k + 1, i, j, h, h2 => by
    unfold runE at h2
    split at h2
    · rename_i d
      by_cases e : j = i
      · rw [e]; exact d
      · exact runE_dig L k (i + 1) j (by omega) h2
    · omega
theorem numE_dig {L : List Nat} {i e : Nat} (h : numE L i = some e) : i < e ∧ e ≤ i + 20 ∧ ∀ j, i ≤ j → j < e → digAt L j = true := by
  unfold numE at h
  split at h
  · rename_i d
    split at h
    · have := Option.some.inj h
      subst this
      exact ⟨Nat.lt_succ_self i, by omega, fun j a b => by rw [show j = i by omega]; exact d⟩
    · have := Option.some.inj h
      subst this
      have r := runE_le L 19 (i + 1)
      refine ⟨by omega, by omega, fun j a b => ?_⟩
      by_cases z : j = i
      · rw [z]; exact d
      · exact runE_dig L 19 (i + 1) j (by omega) b
  · cases h
/-- the signs from i to e -/
def seg (L : List Nat) (i e : Nat) : List Nat := (L.drop i).take (e - i)
theorem seg_app {L : List Nat} {i e : Nat} (h : i ≤ e) : seg L i e ++ L.drop e = L.drop i := by
  unfold seg
  have : L.drop e = (L.drop i).drop (e - i) := by rw [List.drop_drop, Nat.add_sub_cancel' h]
  rw [this, List.take_append_drop]
theorem digs_lt {L : List Nat} {i e : Nat} (h1 : i < e) (h : ∀ j, i ≤ j → j < e → digAt L j = true) : e ≤ L.length := by
  obtain ⟨c, hc, _⟩ := digAt_iff.mp (h (e - 1) (by omega) (by omega))
  have := (List.getElem?_eq_some_iff.mp hc).1
  omega
theorem seg_digs {L : List Nat} {i e : Nat} (h1 : i < e) (h : ∀ j, i ≤ j → j < e → digAt L j = true) : NumText.AllDigits (seg L i e) ∧ (seg L i e).length = e - i := by
  have le := digs_lt h1 h
  refine ⟨fun c hc => ?_, ?_⟩
  · obtain ⟨n, hn, e2⟩ := List.getElem_of_mem hc
    unfold seg at hn e2
    rw [List.length_take, List.length_drop] at hn
    rw [List.getElem_take, List.getElem_drop] at e2
    obtain ⟨d, hd, z⟩ := digAt_iff.mp (h (i + n) (by omega) (by omega))
    rw [List.getElem?_eq_getElem (by omega), e2] at hd
    cases hd
    exact z
  · unfold seg
    rw [List.length_take, List.length_drop]
    omega
/-- the wrong column of a text, 0 for the text of a ratio -/
def sgnE (L : List Nat) : Nat := if L[0]? = some 45 then 1 else 0
def colOf (L : List Nat) : Nat := match unsE L (sgnE L) with
  | .inl c => c
  | .inr e => if e < L.length then e + 1 else 0
/-- an integer's digits, perhaps behind a sign -/
structure IntS (a : List Nat) (ds : List Nat) : Prop where
  sg : a = ds ∨ a = 45 :: ds
  dg : NumText.AllDigits ds
  ne : ds ≠ []
  ln : ds.length ≤ 20
theorem unsE_some {L : List Nat} {i n : Nat} (hn : numE L i = some n) : unsE L i = if L[n]? = some 47 then (if L[n + 1]? = some 48 then .inl (n + 2) else match numE L (n + 1) with
    | none => .inl (n + 2)
    | some n => .inr n) else .inr n := by
  unfold unsE
  rw [hn]
  try rfl
theorem unsE_pos {L : List Nat} {i c : Nat} (h : unsE L i = .inl c) : c ≠ 0 := by
  unfold unsE at h
  split at h
  · cases h; omega
  · split at h
    · split at h
      · cases h; omega
      · split at h
        · cases h; omega
        · cases h
    · cases h
theorem right_shape {L : List Nat} (h : colOf L = 0) : ∃ a ds, IntS a ds ∧ (L = a ∨ ∃ c b, L = a ++ 47 :: c :: b ∧ NumText.AllDigits (c :: b) ∧ (c :: b).length ≤ 20 ∧ 49 ≤ c) := by
  unfold colOf at h
  cases hu : unsE L (sgnE L) with
  | inl c => rw [hu] at h; exact absurd h (unsE_pos hu)
  | inr e =>
    rw [hu] at h
    have ge : L.length ≤ e := by
      by_cases z : e < L.length
      · have h' : (if e < L.length then e + 1 else 0) = 0 := h
        rw [if_pos z] at h'
        omega
      · omega
    cases hn : numE L (sgnE L) with
    | none => unfold unsE at hu; rw [hn] at hu; cases hu
    | some m =>
      rw [unsE_some hn] at hu
      obtain ⟨m1, m2, m3⟩ := numE_dig hn
      obtain ⟨sd, sl⟩ := seg_digs m1 m3
      have sg : ∃ a, IntS a (seg L (sgnE L) m) ∧ L = a ++ L.drop m := by
        have ap := seg_app (L := L) (Nat.le_of_lt m1)
        have ne : seg L (sgnE L) m ≠ [] := fun z => by rw [z] at sl; simp at sl; omega
        by_cases z : L[0]? = some 45
        · have e1 : sgnE L = 1 := if_pos z
          refine ⟨45 :: seg L (sgnE L) m, ⟨.inr rfl, sd, ne, by omega⟩, ?_⟩
          rw [List.cons_append, ap, e1]
          cases L with
          | nil => cases z
          | cons x r => cases z; rfl
        · have e1 : sgnE L = 0 := if_neg z
          refine ⟨seg L (sgnE L) m, ⟨.inl rfl, sd, ne, by omega⟩, ?_⟩
          rw [ap, e1]
          rfl
      obtain ⟨a, A, ea⟩ := sg
      refine ⟨a, _, A, ?_⟩
      by_cases c1 : L[m]? = some 47
      · rw [if_pos c1] at hu
        by_cases c2 : L[m + 1]? = some 48
        · rw [if_pos c2] at hu; cases hu
        · rw [if_neg c2] at hu
          cases hn2 : numE L (m + 1) with
          | none => rw [hn2] at hu; cases hu
          | some n =>
            rw [hn2] at hu
            have en : n = e := by cases hu; rfl
            subst en
            obtain ⟨n1, n2, n3⟩ := numE_dig hn2
            obtain ⟨td, tl'⟩ := seg_digs n1 n3
            have ap := seg_app (L := L) (Nat.le_of_lt n1)
            rw [List.drop_eq_nil_of_le ge, List.append_nil] at ap
            have lt : m < L.length := (List.getElem?_eq_some_iff.mp c1).1
            have d1 : L.drop m = 47 :: L.drop (m + 1) := by
              rw [List.drop_eq_getElem_cons lt]
              rw [List.getElem?_eq_getElem lt] at c1
              rw [Option.some.inj c1]
            cases hs : seg L (m + 1) n with
            | nil => rw [hs] at tl'; simp at tl'; omega
            | cons c b =>
              refine .inr ⟨c, b, ?_, hs ▸ td, ?_, ?_⟩
              · rw [← hs, ap, ← d1]
                exact ea
              · rw [← hs, tl']; omega
              · have z := (hs ▸ td) c (List.mem_cons_self ..)
                have g : L[m + 1]? = some c := by
                  have : (L.drop (m + 1))[0]? = some c := by rw [← ap, hs]; rfl
                  rw [List.getElem?_drop] at this
                  exact this
                have : c ≠ 48 := fun q => c2 (q ▸ g)
                omega
      · rw [if_neg c1] at hu
        have en : m = e := by cases hu; rfl
        subst en
        rw [List.drop_eq_nil_of_le ge, List.append_nil] at ea
        exact .inl ea
end GG

namespace GG
open PySem PySem.Spec PyProof.Rows L2 TL
theorem fold_lt : ∀ (cs : List Nat) (a : Nat), NumText.AllDigits cs → cs.foldl (fun acc c => acc * 10 + (c - 48)) a < (a + 1) * 10 ^ cs.length
  | [], a, _ => by simp
  | c :: cs, a, h => by
    have hc := h c (List.mem_cons_self ..)
    have := fold_lt cs (a * 10 + (c - 48)) h.tail
    refine Nat.lt_of_lt_of_le this ?_
    rw [List.length_cons, Nat.pow_succ, Nat.mul_comm (10 ^ cs.length) 10, ← Nat.mul_assoc]
    exact Nat.mul_le_mul_right _ (by omega)
theorem val_lt {cs : List Nat} (h : NumText.AllDigits cs) (n : cs.length ≤ 20) : NumText.digitsVal cs < 10 ^ 20 := by
  have := fold_lt cs 0 h
  rw [Nat.zero_add, Nat.one_mul] at this
  exact Nat.lt_of_lt_of_le this (Nat.pow_le_pow_right (by decide) n)
/-- the integer that digits tell -/
def intOf (a : List Nat) : Int := (PySem.intText? (T a)).getD 0
theorem int_digs {a : List Nat} (h : NumText.AllDigits a) (ne : a ≠ []) (n : a.length ≤ 20) : PySem.intText? (T a) = some (intOf a) ∧ intOf a = ((NumText.digitsVal a : Nat) : Int) := by
  have e := PySem.intText_digits (x := T a) h ne (by rw [T_len]; omega)
  have e2 : intOf a = ((NumText.digitsVal a : Nat) : Int) := by unfold intOf; rw [e]; rfl
  exact ⟨e.trans (congrArg some e2.symm), e2⟩
theorem IntS.read {a ds : List Nat} (A : IntS a ds) : PySem.intText? (T a) = some (intOf a) ∧ (intOf a).natAbs < 2 ^ 120 ∧ a.length ≤ 21 ∧ ∀ s, s < 45 ∨ 57 < s → s ∉ a := by
  have lt := val_lt A.dg A.ln
  have big : (10 : Nat) ^ 20 < 2 ^ 120 := by decide
  have free : ∀ s, s < 45 ∨ 57 < s → s ∉ ds := fun s z m => by have := A.dg s m; omega
  rcases A.sg with rfl | rfl
  · obtain ⟨e, e2⟩ := int_digs A.dg A.ne A.ln
    refine ⟨e, ?_, by have := A.ln; omega, free⟩
    rw [e2]
    omega
  · have e := PySem.intText_neg (x := T (45 :: ds)) rfl A.dg A.ne (by rw [T_len, List.length_cons]; have := A.ln; omega)
    have e2 : intOf (45 :: ds) = -((NumText.digitsVal ds : Nat) : Int) := by unfold intOf; rw [e]; rfl
    refine ⟨e.trans (congrArg some e2.symm), ?_, by have := A.ln; rw [List.length_cons]; omega, fun s z m => ?_⟩
    · rw [e2]
      omega
    · rcases List.mem_cons.mp m with q | q
      · omega
      · exact free s z q
theorem IntS.free47 {a ds : List Nat} (A : IntS a ds) : 47 ∉ a := fun m => by
  rcases A.sg with rfl | rfl
  · have := A.dg _ m
    omega
  · rcases List.mem_cons.mp m with q | q
    · omega
    · have := A.dg _ q
      omega
/-- the ratio that a right text tells -/
def valOf (L : List Nat) : Int × Int := match par [47] [] L with
  | some (a, b) => lw (intOf a) (intOf b)
  | none => (intOf L, 1)
/-- a right text: one integer, or two around / -/
inductive Right (L : List Nat) : Prop where
  | one : par [47] [] L = none → PySem.intText? (T L) = some (intOf L) → (intOf L).natAbs < 2 ^ 120 → L.length ≤ 21 → Right L
  | two (a b : List Nat) : L = a ++ 47 :: b → par [47] [] L = some (a, b) → b ≠ [] → PySem.intText? (T a) = some (intOf a) → (intOf a).natAbs < 2 ^ 120 → a.length ≤ 21 →
      PySem.intText? (T b) = some (intOf b) → 0 < intOf b → (intOf b).natAbs < 2 ^ 120 → b.length ≤ 20 → 47 ∉ a → 47 ∉ b → Right L
theorem right_of {L : List Nat} (h : colOf L = 0) : Right L := by
  obtain ⟨a, ds, A, s⟩ := right_shape h
  obtain ⟨r1, r2, r3, r4⟩ := A.read
  rcases s with rfl | ⟨c, b, rfl, hb, ln, c0⟩
  · exact .one (par_none1 A.free47) r1 r2 r3
  · obtain ⟨e, e2⟩ := int_digs hb (by simp) ln
    have lt := val_lt hb ln
    have big : (10 : Nat) ^ 20 < 2 ^ 120 := by decide
    have pos := NumText.digitsVal_pos (cs := b) c0
    refine .two a (c :: b) rfl ?_ (by simp) r1 r2 r3 e (by rw [e2]; omega) (by rw [e2]; omega) ln A.free47 (fun m => by have := hb _ m; omega)
    exact par_part1 (s := 47) (S := []) (p := a) (rest := c :: b) (acc := []) A.free47
abbrev sVal : Stmt := topS 23
def spVal : Sp := fun vs H Q _ => ∃ L : List Nat, vs = [.str (T L)] ∧ Right L ∧ L.length ≤ 1000 ∧ ∀ p H', H' p = some (.tup [.int (valOf L).1, .int (valOf L).2]) → Same H H' → Q (.ref p) H'
section
variable {P : Program} {w : World} {K : PySem.W.Frag} {mg : Str → Option Value} {base : Heap}
theorem scVal : FnScope ["text", "top", "_", "bottom"] ["text"] (defScope sVal) := ⟨rfl, rfl, rfl, by decide +kernel, rfl, by decide +kernel, by decide +kernel⟩
theorem kn_val (D : DefIs K mg "value_of" sVal) (R : RTxt K mg) (B : Kn P w K mg base "lowest" 1 ["top", "bottom"] spLow) : Kn P w K mg base "value_of" 2 ["text"] spVal := by
  refine .of D (fun _ _ _ _ _ _ us hl => match us, hl with | [_], _ => rfl) fun _ _ F => ?_
  refine F.ok scVal (fun vs H Q E h => ?_) (fun cdv A outer s H vs Q E hr h => ?_)
  · obtain ⟨L, rfl, _⟩ := h
    rfl
  · obtain ⟨L, rfl, rt, sz, k⟩ := h
    refine ⟨_, pss_cons (ps_asg (pe_partition (pv 0) pe_str) (pg_tup rfl (pgs_cons (pg_name (i := 1) scVal.nd rfl (.inl rfl)) (pgs_cons (pg_name (i := 2) scVal.nd rfl (.inl rfl)) (pgs_cons (pg_name (i := 3) scVal.nd rfl (.inl rfl)) pgs_nil)))))
      (pss_cons (ps_if (pt_cmpR op_eq (pv 3) pe_str (nomark _)) (pss_one (ps_ret (pe_tup (pa_cons (pe_callTy call_int_str (by rfl) R.int bInt (pa_cons (pv 1) pa_nil)) (pa_cons pe_int pa_nil))))) pss_nil)
      (pss_one (ps_ret (pe_kn B hr (pa_cons (pe_callTy call_int_str (by rfl) R.int bInt (pa_cons (pv 1) pa_nil)) (pa_cons (pe_callTy call_int_str (by rfl) R.int bInt (pa_cons (pv 3) pa_nil)) pa_nil)))))), ?_⟩
    have sz2 : (T L).length ≤ sizeLine := by rw [T_len, sizeLine_eq]; omega
    have pp := partition_par (T L) "/" (by decide)
    have t1 : tl "/" = [47] := by decide
    have t2 : tl (T L) = L := rfl
    rw [t1, t2] at pp
    refine ⟨_, rfl, ⟨_, rfl⟩, _, _, rfl, rfl, by decide, sz2, fun p np => ?_⟩
    have sq : SqT K (upd H p (.tup [.str (Txt.partition (T L) "/").1, .str (Txt.partition (T L) "/").2.1, .str (Txt.partition (T L) "/").2.2])) p _ := Evl.st_of upd_same
    refine ⟨p, _, rfl, sq, rfl, ?_⟩
    have S1 : Same H (upd H p (.tup [.str (Txt.partition (T L) "/").1, .str (Txt.partition (T L) "/").2.1, .str (Txt.partition (T L) "/").2.2])) := GG.Same.new (fun _ _ e => e) np
    rw [pp] at S1 ⊢
    cases rt with
    | one pn i1 i2 i3 =>
      have v : valOf L = (intOf L, 1) := by unfold valOf; rw [pn]
      rw [pn] at S1 ⊢
      rw [v] at k
      refine ⟨_, _, rfl, _, _, rfl, _, _, rfl, rfl, ?_⟩
      refine ⟨_, rfl, rfl, _, rfl, ?_⟩
      refine ite2 (fun e => ?_) (fun e => absurd (decide_eq_true rfl) e)
      refine ⟨_, rfl, T L, intOf L, rfl, i1, by rw [T_len]; omega, (by show 2 ≤ sizeLine; rw [sizeLine_eq]; decide), fun q nq => ?_⟩
      exact k q _ upd_same (GG.Same.new S1 nq)
    | two a b eL pn bn ia1 ia2 ia3 ib1 ib2 ib3 ib4 fa fb =>
      have v : valOf L = lw (intOf a) (intOf b) := by unfold valOf; rw [pn]
      rw [pn] at S1 ⊢
      rw [v] at k
      refine ⟨_, _, rfl, _, _, rfl, _, _, rfl, rfl, ?_⟩
      refine ⟨_, rfl, rfl, _, rfl, ?_⟩
      refine ite2 (fun e => absurd (T_inj (a := b) (b := []) (V.str.inj (of_decide_eq_true e))) bn) (fun e => ?_)
      refine ⟨_, rfl, T a, intOf a, rfl, ia1, by rw [T_len]; omega, _, rfl, T b, intOf b, rfl, ib1, by rw [T_len]; omega, intOf a, intOf b, rfl, ib2, Nat.lt_of_lt_of_le ib3 (Nat.pow_le_pow_right (by decide) (by decide)), fun q nq => ?_⟩
      exact k q _ upd_same (GG.Same.new S1 nq)
end
end GG

namespace GG
open PySem PySem.Spec PyProof.Rows L2 TL
abbrev sRof : Stmt := topS 24
def isS : PyData → Bool
  | .str _ => true
  | _ => false
theorem kit_str {K : PySem.W.Frag} (d : PyData) : PySem.W.kitOne K (.type (tyD d)) (.type "str") = some (isS d) := by
  cases d <;> exact kit_ty (by kernel_rfl)
theorem bStr : bootBuiltins "str" = some (.type "str") := by decide +kernel
/-- a text, or what is none -/
def spRof (C : Addr) : Sp := fun vs H Q E => ∃ v, vs = [v] ∧ ((∃ L, v = .str (T L) ∧ L.length ≤ 1000 ∧ (colOf L = 0 → ∀ p H', H' p = some (.tup [.int (valOf L).1, .int (valOf L).2]) → Same H H' → Q (.ref p) H') ∧ (colOf L ≠ 0 → eBT C (colOf L : Nat) H E)) ∨
  (∃ d, Da H v d ∧ isS d = false ∧ eBT C 0 H E))
section
variable {P : Program} {w : World} {K : PySem.W.Frag} {mg : Str → Option Value} {base : Heap}
theorem scRof : FnScope ["text", "end"] ["text"] (defScope sRof) := ⟨rfl, rfl, rfl, by decide +kernel, rfl, by decide +kernel, by decide +kernel⟩
theorem kn_rof {C : Addr} (D : DefIs K mg "ratio_of" sRof) (R : RTxt K mg) (X : DTxt mg) (zs : mg "str" = none) (N : BTTxt P w K mg base C) (B1 : Kn P w K mg base "behind_sign" 1 ["text", "at"] spSign) (B2 : KnX P w K mg base "unsigned_end" 4 ["text", "at"] (spUns C)) (B3 : Kn P w K mg base "value_of" 2 ["text"] spVal) : KnX P w K mg base "ratio_of" 5 ["text"] (spRof C) := by
  refine .of D (fun _ _ _ _ _ _ us hl => match us, hl with | [_], _ => rfl) fun _ _ F => ?_
  refine F.okX scRof (fun vs H Q E h => ?_) (fun cdv A outer s H vs Q E hr h => ?_)
  · obtain ⟨v, rfl, _⟩ := h
    rfl
  · obtain ⟨v, rfl, h⟩ := h
    have hr1 : Room 1 _ := hr.mono (by decide)
    have hr2 : Room 2 _ := hr.mono (by decide)
    refine ⟨_, pss_cons (ps_if (pt_not (pt_val (pe_callB call_isi (by rfl) R.isi bIsi (pa_cons (pv 0) (pa_cons (pe_bltn (v := .ty "str") rfl zs bStr rfl) pa_nil))))) (pss_one (ps_raiseBT rfl N hr2 (takes_of rfl rfl rfl rfl) (pa_cons pe_int pa_nil))) pss_nil)
      (pss_cons (ps_set (i := 1) scRof.nd rfl (.inl rfl) (pe_knX B2 hr (takes_of rfl rfl rfl rfl) (fun _ _ _ _ h => h) (pa_cons (pv 0) (pa_cons (pe_kn B1 hr1 (pa_cons (pv 0) (pa_cons pe_int pa_nil))) pa_nil))))
      (pss_cons (ps_if (pt_cmpR op_lt (pv 1) (pe_callB call_len_str (by rfl) X.len bLen (pa_cons (pv 0) pa_nil)) (nomark _)) (pss_one (ps_raiseBT rfl N hr2 (takes_of rfl rfl rfl rfl) (pa_cons (pe_op op_add (pv 1) pe_int) pa_nil))) pss_nil)
      (pss_one (ps_ret (pe_kn B3 hr2 (pa_cons (pv 0) pa_nil)))))), ?_⟩
    rcases h with ⟨L, rfl, sz, kQ, kE⟩ | ⟨d, da, ns, kE⟩
    · have sz2 : (T L).length ≤ sizeLine := by rw [T_len, sizeLine_eq]; omega
      refine ⟨_, rfl, .str (T L), .ty "str", _, _, _, rfl, .ty _, (Da.str (H := H) (T L)).ty, kit_str (.str (T L)), _, rfl, ?_⟩
      refine iteF ?_
      refine ⟨_, rfl, _, rfl, L, 0, rfl, sz, ?_⟩
      have e0 : (if L[0]? = some 45 then 0 + 1 else 0 : Nat) = sgnE L := rfl
      refine ⟨L, sgnE L, rfl, sz, fun n hn => ?_, fun c hc => ?_⟩
      · have u : colOf L = if n < L.length then n + 1 else 0 := by unfold colOf; rw [hn]
        refine ⟨_, rfl, _, rfl, _, rfl, sz2, _, _, rfl, rfl, _, rfl, ?_⟩
        rw [T_len]
        refine ite2 (fun e => ?_) (fun e => ?_)
        · have lt : n < L.length := by have := of_decide_eq_true e; omega
          rw [if_pos lt] at u
          rw [u] at kE
          exact ⟨_, rfl, _, _, rfl, rfl, raiseBT fun dd H' e S' => kE (Nat.succ_ne_zero n) dd H' e S'⟩
        · have ge : ¬ n < L.length := fun z => e (decide_eq_true (by omega))
          rw [if_neg ge] at u
          exact ⟨_, rfl, L, rfl, right_of u, sz, kQ u⟩
      · have u : colOf L = c := by unfold colOf; rw [hc]
        rw [u] at kE
        exact kE (unsE_pos hc)
    · refine ⟨_, rfl, v, .ty "str", _, _, _, rfl, .ty _, da.ty, kit_str d, _, rfl, ?_⟩
      rw [ns]
      refine iteT ?_
      exact raiseBT fun dd H' e S' => kE dd H' e S'
end
end GG

namespace GG
open PySem PySem.Spec PyProof.Rows L2 TL
abbrev sWT : Stmt := topS 17
def nT (n : Int) : Str := Str.ofString (toString n)
theorem nT_neg {n : Int} (h : n < 0) : nT n = Str.ofString "-" ++ nT (-n) := by
  obtain ⟨m, rfl⟩ : ∃ m : Nat, n = Int.negSucc m := by
    cases n with
    | ofNat m => exact absurd h (by have : (0 : Int) ≤ Int.ofNat m := Int.natCast_nonneg m; omega)
    | negSucc m => exact ⟨m, rfl⟩
  refine ext_tl ?_
  rw [tl_append]
  unfold nT
  rw [tl_ofString, tl_ofString, tl_ofString]
  have e : toString (Int.negSucc m) = "-" ++ toString (-Int.negSucc m) := rfl
  rw [e, String.toList_append, List.map_append]
theorem nT_len {n : Int} (h0 : 0 ≤ n) (h : n.natAbs < 10 ^ 60) : (nT n).length ≤ 60 := by
  obtain ⟨m, rfl⟩ : ∃ m : Nat, n = (m : Int) := ⟨n.toNat, (Int.toNat_of_nonneg h0).symm⟩
  unfold nT
  rw [len_tl, tl_num]
  exact numL_len (by decide) (by omega)
theorem log_small {m : Nat} (h : m < 10 ^ 60) : m.log2 < 1920 := by
  by_cases z : m = 0
  · subst z
    decide
  · have : m.log2 < 200 := (Nat.log2_lt z).mpr (Nat.lt_trans h (by decide))
    omega
/-- an integer of at most 60 figures; b: from 0 on -/
def spWT (b : Bool) : Sp := fun vs H Q _ => ∃ n : Int, vs = [.int n] ∧ n.natAbs < 10 ^ 60 ∧ (b = true → 0 ≤ n) ∧ ∀ H', Same H H' → Q (.str (nT n)) H'
def spNo : Sp := fun _ _ _ _ => False
structure WTT (K : PySem.W.Frag) (mg : Str → Option Value) : Prop where
  str : mg "str" = none
  dm : mg "divmod" = none
theorem bDm : bootBuiltins "divmod" = some (.builtin "divmod") := by decide +kernel
section
variable {P : Program} {w : World} {K : PySem.W.Frag} {mg : Str → Option Value} {base : Heap}
theorem scWT : FnScope ["number", "parts", "part"] ["number"] (defScope sWT) := ⟨rfl, rfl, rfl, by decide +kernel, rfl, by decide +kernel, by decide +kernel⟩
theorem kn_wt0 (D : DefIs K mg "whole_text" sWT) : Kn P w K mg base "whole_text" 1 ["number"] spNo := by
  refine .of D (fun _ _ _ _ _ _ us hl => match us, hl with | [_], _ => rfl) fun _ _ F => ?_
  exact F.ok scWT (fun vs H Q E h => h.elim) (fun cdv A outer s H vs Q E hr h => h.elim)
/-- both ways: from 0 on with a promise of nothing, then below 0 with the first -/
theorem wt_body {k : Nat} {b : Bool} {sp : Sp} (D : DefIs K mg "whole_text" sWT) (T : WTT K mg) (B : Kn P w K mg base "whole_text" k ["number"] sp) (hb : b = false → sp = spWT true) : Kn P w K mg base "whole_text" (k + 1) ["number"] (spWT b) := by
  refine .of D (fun _ _ _ _ _ _ us hl => match us, hl with | [_], _ => rfl) fun _ _ F => ?_
  refine F.ok scWT (fun vs H Q E h => ?_) (fun cdv A outer s H vs Q E hr h => ?_)
  · obtain ⟨n, rfl, _⟩ := h
    rfl
  · obtain ⟨n, rfl, sz, nb, kQ⟩ := h
    refine ⟨_, pss_cons (ps_if (pt_cmpR op_lt (pv 0) pe_int (nomark _)) (pss_one (ps_ret (pe_op op_add_str pe_str (pe_kn B hr (pa_cons (pe_un un_neg (pv 0)) pa_nil))))) pss_nil)
      (pss_cons (ps_set (i := 1) scWT.nd rfl (.inl rfl) (pe_lst pa_nil))
      (pss_cons (ps_while PassesOwn.never (pt_cmpR op_ge (pv 0) (pe_op op_pow pe_int pe_int) (nomark _))
        (pss_cons (ps_asg (pe_callB call_divmod (by rfl) T.dm bDm (pa_cons (pv 0) (pa_cons (pe_op op_pow pe_int pe_int) pa_nil))) (pg_tup rfl (pgs_cons (pg_name (i := 0) scWT.nd rfl (.inl rfl)) (pgs_cons (pg_name (i := 2) scWT.nd rfl (.inl rfl)) pgs_nil))))
        (pss_one (ps_expr (pe_bm PySem.F.plainAttrs_list PySem.F.slot_list_append PySem.F.type_list_append mt_append (pv 1) (pa_cons (pe_bm PySem.F.plainAttrs_str PySem.F.slot_str_zfill PySem.F.type_str_zfill mt_zfill (pe_callTy call_str_int (by rfl) T.str bStr (pa_cons (pv 2) pa_nil)) (pa_cons pe_int pa_nil)) pa_nil))))))
      (pss_cons (ps_expr (pe_bm PySem.F.plainAttrs_list PySem.F.slot_list_append PySem.F.type_list_append mt_append (pv 1) (pa_cons (pe_callTy call_str_int (by rfl) T.str bStr (pa_cons (pv 0) pa_nil)) pa_nil)))
      (pss_one (ps_ret (pe_join pe_str (pe_revL (pv 1)))))))), ?_⟩
    refine ⟨_, rfl, _, _, rfl, rfl, _, rfl, ?_⟩
    refine ite2 (fun e => ?_) (fun e => ?_)
    · have neg : n < 0 := of_decide_eq_true e
      cases b with
      | true => exact absurd (nb rfl) (by omega)
      | false =>
        have hs := hb rfl
        subst hs
        refine ⟨_, rfl, _, rfl, -n, rfl, by omega, fun _ => by omega, fun H' S => ⟨_, _, rfl, rfl, ?_, ?_⟩⟩
        · have := nT_len (n := -n) (by omega) (by omega)
          have e1 : (Str.ofString "-").length = 1 := by decide
          rw [e1, sizeLine_eq]
          omega
        · rw [← nT_neg neg]
          exact kQ H' S
    · have n0 : 0 ≤ n := by have := mt (decide_eq_true (p := n < 0)) e; omega
      refine ⟨(by show 0 ≤ sizeLine; exact Nat.zero_le _), fun l nl => ?_⟩
      refine ⟨fun _ σ H' => σ = [some (.int n), some (.ref l), none] ∧ H' = upd H l (.lst []), ⟨0, rfl, rfl⟩, ?_⟩
      rintro m σ H' ⟨rfl, rfl⟩
      refine ⟨_, rfl, _, _, rfl, rfl, ⟨by decide, by decide, by decide⟩, _, _, rfl, rfl, _, rfl, ?_⟩
      refine ite2 (fun e2 => ?_) (fun _ => ?_)
      · have h := of_decide_eq_true e2
        have p : ((10 : Int) ^ (60 : Int).toNat) = ((10 ^ 60 : Nat) : Int) := by decide
        rw [p] at h
        omega
      have sql : SqL K (upd H l (.lst [])) l [] := SqL.of upd_same
      refine ⟨_, rfl, .inl ⟨rfl, _, sql⟩, _, rfl, _, rfl, log_small sz, l, [], _, rfl, rfl, upd_same, (by show 0 < sizeLine; rw [sizeLine_eq]; decide), ?_⟩
      have S2 : Same H (upd (upd H l (.lst [])) l (.lst ([] ++ [.str (nT n)]))) := fun b o z => by
        rw [upd_ne (ne_of_none z nl), upd_ne (ne_of_none z nl)]
        exact z
      have sq2 : SqL K (upd (upd H l (.lst [])) l (.lst ([] ++ [.str (nT n)]))) l [.str (nT n)] := SqL.of upd_same
      refine ⟨⟨_, rfl⟩, _, rfl, l, _, rfl, sq2, fun p np => ?_⟩
      have e4 := nT_len n0 sz
      refine ⟨_, p, [nT n], rfl, rfl, .inl (SqL.of upd_same), ?_, ?_⟩
      · show (nT n).length + 0 + 1 * (Str.ofString "").length ≤ 16777216
        have e1 : (Str.ofString "").length = 0 := by decide
        rw [e1]
        omega
      · rw [join_eq]
        exact kQ _ (GG.Same.new S2 np)
end
end GG

namespace GG
open PySem PySem.Spec PyProof.Rows L2 TL
abbrev sRT : Stmt := topS 18
def rT (a : Int × Int) : Str := if a.2 = 1 then nT a.1 else nT a.1 ++ Str.ofString "/" ++ nT a.2
def spRT (C : Addr) : Sp := fun vs H Q E => ∃ v d, vs = [v] ∧ Da H v d ∧ smallR d ∧ (isR d = true → ∀ H', Same H H' → Q (.str (rT (ratOf d))) H') ∧
  (isR d = false → ∀ dd H', H' dd = some (.xd [("number", v), ("what", .str "ratio")]) → Same H H' → E (.ref C) (some dd) H')
theorem nT_len2 {n : Int} (h : n.natAbs < 10 ^ 60) : (nT n).length ≤ 61 := by
  by_cases z : 0 ≤ n
  · have := nT_len z h
    omega
  · rw [nT_neg (by omega)]
    have := nT_len (n := -n) (by omega) (by omega)
    have e1 : (Str.ofString "-").length = 1 := by decide
    rw [len_tl, tl_append, List.length_append, ← len_tl, ← len_tl, e1]
    omega
section
variable {P : Program} {w : World} {K : PySem.W.Frag} {mg : Str → Option Value} {base : Heap}
theorem scRT : FnScope ["value", "top", "bottom"] ["value"] (defScope sRT) := ⟨rfl, rfl, rfl, by decide +kernel, rfl, by decide +kernel, by decide +kernel⟩
theorem kn_rt {C : Addr} (D : DefIs K mg "ratio_text" sRT) (B1 : KnX P w K mg base "told" 3 ["value", "what"] (spTold C)) (B2 : Kn P w K mg base "whole_text" 3 ["number"] (spWT false)) : KnX P w K mg base "ratio_text" 4 ["value"] (spRT C) := by
  refine .of D (fun _ _ _ _ _ _ us hl => match us, hl with | [_], _ => rfl) fun _ _ F => ?_
  refine F.okX scRT (fun vs H Q E h => ?_) (fun cdv A outer s H vs Q E hr h => ?_)
  · obtain ⟨v, d, rfl, _⟩ := h
    rfl
  · obtain ⟨v, d, rfl, da, sm, kQ, kE⟩ := h
    refine ⟨_, pss_cons (ps_asg (pe_knX B1 hr (takes_of rfl rfl rfl rfl) (fun _ _ _ _ h => h) (pa_cons (pv 0) (pa_cons pe_str pa_nil))) (pg_tup rfl (pgs_cons (pg_name (i := 1) scRT.nd rfl (.inl rfl)) (pgs_cons (pg_name (i := 2) scRT.nd rfl (.inl rfl)) pgs_nil))))
      (pss_cons (ps_if (pt_cmpR op_eq (pv 2) pe_int (nomark _)) (pss_one (ps_ret (pe_kn B2 hr (pa_cons (pv 1) pa_nil)))) pss_nil)
      (pss_one (ps_ret (pe_op op_add_str (pe_op op_add_str (pe_kn B2 hr (pa_cons (pv 1) pa_nil)) pe_str) (pe_kn B2 hr (pa_cons (pv 2) pa_nil)))))), ?_⟩
    refine ⟨_, rfl, v, .str "ratio", d, rfl, da, sm, fun h1 p H1 e1 S1 => ?_, kE⟩
    obtain ⟨q1, q2, q3⟩ := ratOf_small h1 sm
    have b1 : (ratOf d).1.natAbs < 10 ^ 60 := Nat.lt_trans q1 (by decide)
    have b2 : (ratOf d).2.natAbs < 10 ^ 60 := Nat.lt_trans q2 (by decide)
    refine ⟨p, _, rfl, Evl.st_of e1, rfl, _, _, rfl, _, _, rfl, rfl, ?_⟩
    refine ⟨_, rfl, rfl, _, rfl, ?_⟩
    refine ite2 (fun e => ?_) (fun e => ?_)
    · have z : (ratOf d).2 = 1 := V.int.inj (of_decide_eq_true e)
      have t : rT (ratOf d) = nT (ratOf d).1 := if_pos z
      rw [t] at kQ
      exact ⟨_, rfl, _, rfl, b1, fun z => Bool.noConfusion z, fun H' S => kQ h1 H' (L2.Same.trans S1 S)⟩
    · have z : ¬ (ratOf d).2 = 1 := fun z => e (by rw [z]; rfl)
      have t : rT (ratOf d) = nT (ratOf d).1 ++ Str.ofString "/" ++ nT (ratOf d).2 := if_neg z
      rw [t] at kQ
      have l1 := nT_len2 b1
      have l2 := nT_len2 b2
      have e1 : (Str.ofString "/").length = 1 := by decide
      have l3 : (nT (ratOf d).1 ++ Str.ofString "/").length = (nT (ratOf d).1).length + 1 := by
        rw [len_tl, tl_append, List.length_append, ← len_tl, ← len_tl, e1]
      refine ⟨_, rfl, _, rfl, b1, fun z => Bool.noConfusion z, fun H2 S2 => ⟨_, _, rfl, rfl, by rw [e1, sizeLine_eq]; omega, _, rfl, _, rfl, b2, fun z => Bool.noConfusion z, fun H3 S3 => ⟨_, _, rfl, rfl, by rw [l3, sizeLine_eq]; omega, ?_⟩⟩⟩
      exact kQ h1 H3 (L2.Same.trans S1 (L2.Same.trans S2 S3))
end
end GG

namespace GG
open PySem PySem.Spec PyProof.Rows L2 TL
/-! ### the law's own reader -/
inductive AS where
  | beg | top | inn | bot | und
deriving DecidableEq
def stepC (c : Nat) (s : AS) (m : Nat) (z : Bool) : Option (AS × Nat × Bool) :=
  if c = 45 ∧ s = .beg then some (.top, m, z)
  else if c = 47 ∧ s = .inn ∧ 0 < m then some (.bot, m, z)
  else if dig c = true ∧ (s = .beg ∨ s = .top) then some (.inn, 1, decide (c = 48))
  else if (dig c = true ∧ c ≠ 48) ∧ s = .bot then some (.und, 1, false)
  else if dig c = true ∧ (s = .inn ∨ s = .und) ∧ z = false ∧ m < 20 then some (s, m + 1, z)
  else none
def goC : List Nat → Nat → AS → Nat → Bool → Nat
  | [], p, s, _, _ => if s = .inn ∨ s = .und then 0 else p + 1
  | c :: r, p, s, m, z => match stepC c s m z with
    | none => p + 1
    | some (s', m', z') => goC r (p + 1) s' m' z'
def fin' (L : List Nat) (e : Nat) : Nat := if e < L.length then e + 1 else 0
def afterS (L : List Nat) (p : Nat) : Nat := if L[p]? = some 48 then p + 1 else match numE L p with
  | none => p + 1
  | some n => fin' L n
def afterT (L : List Nat) (e : Nat) : Nat := if L[e]? = some 47 then afterS L (e + 1) else fin' L e
theorem colOf_eq (L : List Nat) : colOf L = match numE L (sgnE L) with
    | none => sgnE L + 1
    | some m => afterT L m := by
  unfold colOf
  cases hn : numE L (sgnE L) with
  | none => unfold unsE; rw [hn]
  | some m =>
    rw [unsE_some hn]
    show _ = afterT L m
    unfold afterT afterS
    by_cases c1 : L[m]? = some 47
    · rw [if_pos c1, if_pos c1]
      by_cases c2 : L[m + 1]? = some 48
      · rw [if_pos c2, if_pos c2]
      · rw [if_neg c2, if_neg c2]
        cases numE L (m + 1) with
        | none => rfl
        | some n => rfl
    · rw [if_neg c1, if_neg c1]
      rfl
theorem at_none {L : List Nat} {p : Nat} (h : L[p]? = none) : L.drop p = [] ∧ L.length ≤ p := by
  have := List.getElem?_eq_none_iff.mp h
  exact ⟨List.drop_eq_nil_of_le this, this⟩
theorem at_some {L : List Nat} {p c : Nat} (h : L[p]? = some c) : L.drop p = c :: L.drop (p + 1) ∧ p < L.length := by
  obtain ⟨lt, e⟩ := List.getElem?_eq_some_iff.mp h
  exact ⟨by rw [List.drop_eq_getElem_cons lt, e], lt⟩
theorem digAt_some {L : List Nat} {p c : Nat} (h : L[p]? = some c) : digAt L p = dig c := by unfold digAt; rw [h]
theorem digAt_none {L : List Nat} {p : Nat} (h : L[p]? = none) : digAt L p = false := by unfold digAt; rw [h]
theorem dig_ne {c : Nat} (h : dig c = true) : c ≠ 45 ∧ c ≠ 47 := by
  have := of_decide_eq_true h
  omega
theorem go_und (L : List Nat) : ∀ (k p m : Nat), m + k = 20 → 1 ≤ m → goC (L.drop p) p .und m false = fin' L (runE L k p) := by
  intro k
  induction k with
  | zero =>
    intro p m h1 h2
    show _ = fin' L p
    cases h : L[p]? with
    | none =>
      obtain ⟨e, le⟩ := at_none h
      rw [e]
      unfold fin'
      rw [if_neg (by omega)]
      rfl
    | some c =>
      obtain ⟨e, lt⟩ := at_some h
      rw [e]
      unfold goC fin'
      rw [if_pos lt]
      have : stepC c .und m false = none := by
        unfold stepC
        simp
        omega
      rw [this]
  | succ k ih =>
    intro p m h1 h2
    cases h : L[p]? with
    | none =>
      obtain ⟨e, le⟩ := at_none h
      unfold runE
      rw [digAt_none h, if_neg (by decide : ¬ (false = true)), e]
      unfold fin'
      rw [if_neg (by omega)]
      rfl
    | some c =>
      obtain ⟨e, lt⟩ := at_some h
      rw [e]
      unfold runE
      rw [digAt_some h]
      unfold goC
      cases hd : dig c with
      | true =>
        have : stepC c .und m false = some (.und, m + 1, false) := by
          unfold stepC
          simp [hd]
          omega
        rw [this, if_pos rfl]
        exact ih (p + 1) (m + 1) (by omega) (by omega)
      | false =>
        have : stepC c .und m false = none := by
          unfold stepC
          simp [hd]
        rw [this, if_neg (by decide)]
        unfold fin'
        rw [if_pos lt]
theorem go_bot (L : List Nat) (p m : Nat) (z : Bool) : goC (L.drop p) p .bot m z = afterS L p := by
  unfold afterS numE
  cases h : L[p]? with
  | none =>
    obtain ⟨e, le⟩ := at_none h
    rw [e, digAt_none h, if_neg (by simp), if_neg (by decide)]
    rfl
  | some c =>
    obtain ⟨e, lt⟩ := at_some h
    rw [e, digAt_some h]
    unfold goC
    by_cases c0 : c = 48
    · subst c0
      rw [if_pos rfl]
      rfl
    · have ne : ¬ (some c = some 48) := fun q => c0 (Option.some.inj q)
      rw [if_neg ne]
      cases hd : dig c with
      | true =>
        have : stepC c .bot m z = some (.und, 1, false) := by
          unfold stepC
          simp [hd, c0]
        rw [this, if_pos rfl, if_neg ne]
        exact go_und L 19 (p + 1) 1 rfl (by omega)
      | false =>
        have : stepC c .bot m z = none := by
          unfold stepC
          simp [hd]
        rw [this, if_neg (by decide)]
/-- behind a 0, or behind all digits -/
theorem go_end (L : List Nat) (p m : Nat) (z : Bool) (hm : 1 ≤ m) (h : digAt L p = true → z = true ∨ 20 ≤ m) : goC (L.drop p) p .inn m z = afterT L p := by
  unfold afterT
  cases hp : L[p]? with
  | none =>
    obtain ⟨e, le⟩ := at_none hp
    rw [e, if_neg (by simp)]
    unfold fin'
    rw [if_neg (by omega)]
    rfl
  | some c =>
    obtain ⟨e, lt⟩ := at_some hp
    rw [e]
    unfold goC
    by_cases c0 : c = 47
    · subst c0
      have : stepC 47 .inn m z = some (.bot, m, z) := by
        unfold stepC
        simp
        omega
      rw [this, if_pos rfl]
      exact go_bot L (p + 1) m z
    · have ne : ¬ (some c = some 47) := fun q => c0 (Option.some.inj q)
      have : stepC c .inn m z = none := by
        rw [digAt_some hp] at h
        unfold stepC
        simp [c0]
        intro hd hz
        rcases h hd with q | q
        · rw [q] at hz; cases hz
        · exact q
      rw [this, if_neg ne]
      unfold fin'
      rw [if_pos lt]
theorem go_inn (L : List Nat) : ∀ (k p m : Nat), m + k = 20 → 1 ≤ m → goC (L.drop p) p .inn m false = afterT L (runE L k p) := by
  intro k
  induction k with
  | zero => exact fun p m h1 h2 => go_end L p m false h2 fun _ => .inr (by omega)
  | succ k ih =>
    intro p m h1 h2
    unfold runE
    cases hd : digAt L p with
    | false => rw [if_neg (by decide)]; exact go_end L p m false h2 fun q => by rw [hd] at q; cases q
    | true =>
      rw [if_pos rfl]
      obtain ⟨c, hc, d1, d2⟩ := digAt_iff.mp hd
      obtain ⟨e, lt⟩ := at_some hc
      rw [e]
      unfold goC
      have dc : dig c = true := decide_eq_true ⟨d1, d2⟩
      have : stepC c .inn m false = some (.inn, m + 1, false) := by
        unfold stepC
        have := dig_ne dc
        simp [dc, this]
        omega
      rw [this]
      exact ih (p + 1) (m + 1) (by omega) (by omega)
theorem go_num (L : List Nat) (p : Nat) (s : AS) (hs : s = .top ∨ (s = .beg ∧ L[p]? ≠ some 45)) : goC (L.drop p) p s 0 false = match numE L p with
    | none => p + 1
    | some m => afterT L m := by
  unfold numE
  cases h : L[p]? with
  | none =>
    obtain ⟨e, le⟩ := at_none h
    rw [e, digAt_none h, if_neg (by decide)]
    rcases hs with rfl | ⟨rfl, _⟩ <;> rfl
  | some c =>
    obtain ⟨e, lt⟩ := at_some h
    rw [h] at hs
    rw [e, digAt_some h]
    unfold goC
    cases hd : dig c with
    | true =>
      have n := dig_ne hd
      have : stepC c s 0 false = some (.inn, 1, decide (c = 48)) := by
        unfold stepC
        rcases hs with rfl | ⟨rfl, _⟩ <;> simp [hd, n]
      rw [this, if_pos rfl]
      by_cases c0 : c = 48
      · subst c0
        rw [if_pos rfl]
        exact go_end L (p + 1) 1 _ (by omega) fun _ => .inl rfl
      · have ne : ¬ (some c = some 48) := fun q => c0 (Option.some.inj q)
        rw [if_neg ne, decide_eq_false c0]
        exact go_inn L 19 (p + 1) 1 rfl (by omega)
    | false =>
      have : stepC c s 0 false = none := by
        unfold stepC
        rcases hs with rfl | ⟨rfl, q⟩
        · simp [hd]
        · have : c ≠ 45 := fun z => q (by rw [z])
          simp [hd, this]
      rw [this, if_neg (by decide)]
theorem goC_col (L : List Nat) : goC L 0 .beg 0 false = colOf L := by
  rw [colOf_eq]
  by_cases h : L[0]? = some 45
  · have e1 : sgnE L = 1 := if_pos h
    obtain ⟨e, lt⟩ := at_some h
    rw [e1]
    have e' : L = 45 :: L.drop 1 := e
    have : goC L 0 .beg 0 false = goC (L.drop 1) 1 .top 0 false := by
      rw [e']
      rfl
    rw [this]
    exact go_num L 1 .top (.inl rfl)
  · have e1 : sgnE L = 0 := if_neg h
    rw [e1]
    exact go_num L 0 .beg (.inr ⟨rfl, h⟩)
end GG

namespace L2
open PySem PySem.Spec PyProof.Rows
/-! ### enumerate(a text) -/
def ItES (z : Str) : It := ⟨fun i _ => i < z.cps.size, fun i H v H' => ∃ T c, v = .ref T ∧ H T = none ∧ z.cps[i]? = some c ∧ H' = upd H T (.tup [.int (i : Nat), .str ⟨#[c]⟩]), fun i _ => z.cps.size ≤ i⟩
theorem turn_enumS {P : Program} {w : World} {K : PySem.W.Frag} {elts : List Expr} {kk : Nat} {tpos : Pos} (z : Str) (t : Tok) (ty : String) (hty : ty = "str_ascii_iterator" ∨ ty = "str_iterator") (e it : Addr) :
    Turn P w K (.Tuple elts kk tpos) (ItES z) [e, it] e (fun i h => (∃ old, IsEnum h e it ((i : Nat) : Int) old) ∧ h.IsStrIter it ty z t i ∧ e ≠ it ∧ i ≤ z.cps.size) where
  mem := by simp
  obj := fun i h st b hb => by
    obtain ⟨⟨old, he⟩, ⟨o, ho, hc, hd⟩, _⟩ := st
    have e' : b = e ∨ b = it := by simpa using hb
    rcases e' with z | z
    · rw [z]; exact ⟨_, he, fun v q => nomatch q⟩
    · rw [z]; exact ⟨o, ho, fun v q => by rw [hd] at q; cases q⟩
  keep := fun i h h' st k => by
    obtain ⟨⟨old, he⟩, ⟨o, ho, r⟩, hne⟩ := st
    exact ⟨⟨old, k e (by simp) _ he⟩, ⟨o, k it (by simp) o ho, r⟩, hne⟩
  item := by
    intro X hP hw hK hc i pins s σ H E I hf st hg
    subst hP hw hK
    obtain ⟨⟨old, he⟩, hit, hne, le⟩ := st
    have hel : e < s.heap.objs.size := Heap.lt_size he
    have hil : it < s.heap.objs.size := by obtain ⟨_, q, _⟩ := hit; exact Heap.lt_size q
    have D : Draws X.prog X.w X.A.in1 it [it] z.cps.size (fun i v => ∃ c u, z.cps[i]? = some c ∧ v = .str ⟨#[c]⟩ u) (fun i h => h.IsStrIter it ty z t i) := by
      rcases hty with q | q
      · rw [q]; exact Draws.strAscii (A := X.A.in1) (show X.A.in1.handled = none from I.ok.hd hc) it z t
      · rw [q]; exact Draws.strWide (A := X.A.in1) (show X.A.in1.handled = none from I.ok.hd hc) it z t
    refine wpAny_pyNext_enum_itemD D he hit hg hne (by simpa using hne) fun x h' tk hx ho hit' hT hsz hk => ?_
    obtain ⟨c, u, hcx, rfl⟩ := hx
    refine ⟨_, rfl, wpAny_letOwnedTupleGo_enum (s := { s with heap := h', toks := tk + 1 }) ho fun h'' he' sb => ?_⟩
    have hT2 : h''.get? s.heap.objs.size = some { cls := .type "tuple", data := .seq #[.int i tk, .str ⟨#[c]⟩ u] } := (sb.2 _ (Nat.ne_of_gt hel)).trans hT
    have new : ObjOk X.prog X.w (upd H s.heap.objs.size (.tup [.int (i : Nat), .str ⟨#[c]⟩])) h'' s.heap.objs.size (.tup [.int (i : Nat), .str ⟨#[c]⟩]) :=
      ⟨by show 2 ≤ sizeLine; decide, [.int i tk, .str ⟨#[c]⟩ u], .cons ⟨_, rfl⟩ (.cons ⟨_, rfl⟩ .nil), ⟨_, hT2, rfl, _, rfl⟩⟩
    have I1 : Inv X pins σ (upd H s.heap.objs.size (.tup [.int (i : Nat), .str ⟨#[c]⟩])) { s with heap := h'', toks := tk + 1 } :=
      I.turnedNew (ch := [e, it]) (fun b ob hb q => (sb.2 b (fun z => hb (by simp [z]))).trans (hk b ob (fun z => hb (by simp [z])) (fun z => hb (by simp [z])) q)) hf (Nat.le_refl _) new
    refine ⟨.ref s.heap.objs.size, _, I1, rfl, ⟨_, c, rfl, I.hok.fresh (Nat.le_refl _), hcx, rfl⟩, ⟨⟨.str ⟨#[c]⟩ u, ?_⟩, ?_, hne, hg⟩, fun b hb => ?_⟩
    · have e1 : ((i + 1 : Nat) : Int) = (i : Int) + 1 := by omega
      rw [e1]; exact he'
    · obtain ⟨o, q1, q2⟩ := hit'
      exact ⟨o, (sb.2 it (Ne.symm hne)).trans q1, q2⟩
    · have hb' : b < s.heap.objs.size := by
        have e' : b = e ∨ b = it := by simpa using hb
        rcases e' with z | z
        · rw [z]; exact hel
        · rw [z]; exact hil
      rw [upd_ne (Nat.ne_of_lt hb')]
      exact (hf b hb).1
  done := by
    intro X hP hw hK hc i pins s σ H E I hf st hg
    subst hP hw hK
    obtain ⟨⟨old, he⟩, hit, hne, le⟩ := st
    have ei : i = z.cps.size := Nat.le_antisymm le hg
    subst ei
    obtain ⟨f0, f1, f2, f3, f4, f5⟩ := hf it (by simp)
    have D : Draws X.prog X.w X.A.in1 it [it] z.cps.size (fun i v => ∃ c u, z.cps[i]? = some c ∧ v = .str ⟨#[c]⟩ u) (fun i h => h.IsStrIter it ty z t i) := by
      rcases hty with q | q
      · rw [q]; exact Draws.strAscii (A := X.A.in1) (show X.A.in1.handled = none from I.ok.hd hc) it z t
      · rw [q]; exact Draws.strWide (A := X.A.in1) (show X.A.in1.handled = none from I.ok.hd hc) it z t
    exact wpAny_pyNext_enum_endD D he hit fun h' eb => ⟨rfl, I.turned (t' := s.toks) (fun b o hb q => eb b o hb q) f0 f1 f3 f4 f5⟩
  self := fun A i s Q E st h => let ⟨⟨_, he⟩, _⟩ := st; wpAny_pyIter_enum he h
def iEnumS (ta : TA) : TI := fun σ H R => ta σ H fun vs H1 => ∃ z, vs = [.str z] ∧ R (ItES z) H1
theorem pi_enumS {X : Cx} {e : Expr} {ta : TA} {p pos tpos : Pos} {elts : List Expr} {kk : Nat} (hg : Gl X "enumerate") (hm : X.mg "enumerate" = none) (ha : PA X [e] ta) (hs : starEach [e] X.env = [(false, eval e X.env)] := by rfl) :
    PI X (.Tuple elts kk tpos) (.Call (.Name "enumerate" p) [e] [] pos) (iEnumS ta) := by
  refine ⟨fun pins s σ H R I h => ?_⟩
  refine Call_ (ld_blt I hg hm boot_enumerate (PyProof.Rows.callWith_type1 (thn (ha.run pos pins s σ H _ I h) fun us s1 ⟨vs, H1, I1, r1, q1⟩ => ?_) hs rfl))
  obtain ⟨z, ex, q⟩ := q1
  subst ex
  cases r1 with
  | cons r rr =>
    cases rr
    obtain ⟨t, rfl⟩ := r
    refine call_enumerate_str fun h' he hit hsz hk => wpAny_pyIter_enum he ?_
    have I2 : Inv X pins σ H1 { s1 with heap := h' } := I1.kept (t' := s1.toks) hk
    have hty : strIterType z = "str_ascii_iterator" ∨ strIterType z = "str_iterator" := by
      unfold strIterType
      split
      · exact .inl rfl
      · exact .inr rfl
    refine ⟨s1.heap.objs.size + 1, [s1.heap.objs.size + 1, s1.heap.objs.size], _, _, H1, rfl, I2, turn_enumS z t _ hty (s1.heap.objs.size + 1) s1.heap.objs.size, ⟨⟨.none, he⟩, hit, Nat.succ_ne_self _, Nat.zero_le _⟩, fun b hb => ?_, q⟩
    have e' : b = s1.heap.objs.size + 1 ∨ b = s1.heap.objs.size := by simpa using hb
    have hle : s1.heap.objs.size ≤ b := by
      rcases e' with z | z
      · rw [z]; exact Nat.le_add_right _ _
      · rw [z]; exact Nat.le_refl _
    exact I1.fpOk hle (I1.hok.fresh hle)
end L2

namespace GG
open PySem PySem.Spec PyProof.Rows L2 TL
/-! ### tests by their answers -/
def VT (σ : L2.St) (H : Hp) (t : TT) (b : Bool) : Prop := ∀ Q : Bool → Hp → Prop, (∀ H', L2.Same H H' → Q b H') → t σ H Q
theorem VT.cast {σ : L2.St} {H : Hp} {t : TT} {a b : Bool} (h : VT σ H t a) (e : a = b) : VT σ H t b := e ▸ h
theorem vt_and {σ : L2.St} {H : Hp} {ta tb : TT} {a b : Bool} (A : VT σ H ta a) (B : a = true → ∀ H', L2.Same H H' → VT σ H' tb b) : VT σ H (tAnd ta tb) (a && b) := fun Q k => A _ fun H1 S1 => by
  cases a with
  | true => exact iteT (B rfl H1 S1 _ fun H2 S2 => k H2 (L2.Same.trans S1 S2))
  | false => exact iteF (k H1 S1)
theorem vt_if {σ : L2.St} {H : Hp} {t : TT} {b : Bool} {x y : TS} {D : Ends} (A : VT σ H t b) (k : ∀ H', L2.Same H H' → if b = true then x D σ H' else y D σ H') : tIfS t x y D σ H := A _ fun H1 S1 => k H1 S1
theorem vt_eq {σ : L2.St} {H : Hp} {i : Nat} {u v : V} (h : σ[i]? = some (some u)) (sc : scal u v = true) : VT σ H (tTest (tOp rEq (tVar i) (tC v))) (decide (u = v)) := fun Q k => ⟨u, h, sc, _, rfl, k H (fun _ _ e => e)⟩
theorem vt_sg {σ : L2.St} {H : Hp} {i c : Nat} {z : Str} (h : σ[i]? = some (some (V.str ⟨#[c]⟩))) : VT σ H (tTest (tOp (fun x y H Q => ∃ (c : Nat) (z : Str), x = .str ⟨#[c]⟩ ∧ y = .str z ∧ Q (.bl (decide (c ∈ z.cps.toList))) H) (tVar i) (tC (.str z)))) (decide (c ∈ z.cps.toList)) := fun Q k => ⟨_, h, c, z, rfl, rfl, _, rfl, k H (fun _ _ e => e)⟩
theorem vt_in {K : PySem.W.Frag} {σ : L2.St} {H : Hp} {i : Nat} {u a b : V} (h : σ[i]? = some (some u)) (f1 : flatV u = true) (f2 : [a, b].all flatV = true) : VT σ H (tTest (tOp (rIn K false) (tVar i) (tLst (tCons (tC a) (tCons (tC b) tNil))))) (inV u [a, b]) := fun Q k =>
  ⟨u, h, (by show 2 ≤ sizeLine; rw [sizeLine_eq]; decide), fun p np => ⟨p, _, rfl, .inl (SqL.of upd_same), f1, f2, _, rfl, k _ (GG.Same.new (fun _ _ e => e) np)⟩⟩
theorem vt_not {σ : L2.St} {H : Hp} {i : Nat} {b : Bool} (h : σ[i]? = some (some (V.bl b))) : VT σ H (tNot (tB (tVar i))) (!b) := fun Q k => ⟨_, h, b, rfl, k H (fun _ _ e => e)⟩
theorem vt_lt {σ : L2.St} {H : Hp} {i : Nat} {m n : Int} (h : σ[i]? = some (some (V.int m))) : VT σ H (tTest (tOp (rI0 fun i j => .bl (decide (i < j))) (tVar i) (tC (.int n)))) (decide (m < n)) := fun Q k => ⟨_, h, _, _, rfl, rfl, _, rfl, k H (fun _ _ e => e)⟩
theorem vt_gt {σ : L2.St} {H : Hp} {i : Nat} {m n : Int} (h : σ[i]? = some (some (V.int m))) : VT σ H (tTest (tOp (rI0 fun i j => .bl (decide (j < i))) (tVar i) (tC (.int n)))) (decide (n < m)) := fun Q k => ⟨_, h, _, _, rfl, rfl, _, rfl, k H (fun _ _ e => e)⟩
/-- for i, c in enumerate(a text) -/
theorem for_enumS {z : Str} {g : TG} {tb : TS} {D : Ends} {σ : L2.St} {H : Hp} (Pv : Nat → L2.St → Hp → Prop) (h0 : Pv 0 σ H)
    (hs : ∀ (i c : Nat) (T : Addr) (σ : L2.St) (H : Hp), z.cps[i]? = some c → Pv i σ H → H T = none → g (.ref T) σ (upd H T (.tup [.int (i : Nat), .str ⟨#[c]⟩])) fun σ2 H2 => tb { D with nx := Pv (i + 1), ct := Pv (i + 1), bk := D.nx } σ2 H2) (hd : ∀ σ H, Pv z.cps.size σ H → D.nx σ H) :
    ∃ W : Nat → Nat → L2.St → Hp → Prop, (∃ m, W 0 m σ H) ∧ ∀ i m σ H, W i m σ H →
      ((ItES z).stop i H ∧ D.nx σ H) ∨ ((ItES z).go i H ∧ ∃ N : L2.St → Hp → Prop, (∀ σ' H', N σ' H' → ∃ m', m' < m ∧ W (i + 1) m' σ' H') ∧ ∀ v H', (ItES z).yld i H v H' → g v σ H' fun σ2 H2 => tb { D with nx := N, ct := N, bk := D.nx } σ2 H2) := by
  refine ⟨fun i m σ H => m = z.cps.size - i ∧ i ≤ z.cps.size ∧ Pv i σ H, ⟨_, rfl, Nat.zero_le _, h0⟩, ?_⟩
  rintro i m σ H ⟨rfl, le, now⟩
  by_cases lt : i < z.cps.size
  · refine .inr ⟨lt, Pv (i + 1), fun σ' H' q => ⟨z.cps.size - (i + 1), by omega, rfl, lt, q⟩, ?_⟩
    rintro v H' ⟨T, c, rfl, free, hc, rfl⟩
    exact hs i c T σ H hc now free
  · obtain rfl : i = z.cps.size := by omega
    exact .inl ⟨Nat.le_refl _, hd σ H now⟩
def AS.nm : AS → Str
  | .beg => "begin"
  | .top => "top"
  | .inn => "in"
  | .bot => "bottom"
  | .und => "under"
theorem sg_eq {c k : Nat} {x : Str} (e : x = T [k]) : decide (V.str ⟨#[c]⟩ = V.str x) = decide (c = k) := by
  subst e
  refine decide_eq_decide.mpr ⟨fun h => ?_, fun h => by rw [h]; rfl⟩
  exact (List.cons.inj (T_inj (a := [c]) (b := [k]) (V.str.inj h))).1
theorem nm_eq (s : AS) (s' : AS) : decide (V.str s.nm = V.str s'.nm) = decide (s = s') := by
  cases s <;> cases s' <;> decide +kernel
theorem nm_in1 (s : AS) : inV (V.str s.nm) [.str "begin", .str "top"] = decide (s = .beg ∨ s = .top) := by
  cases s <;> decide +kernel
theorem nm_in2 (s : AS) : inV (V.str s.nm) [.str "in", .str "under"] = decide (s = .inn ∨ s = .und) := by
  cases s <;> decide +kernel
theorem dig_in1 (c : Nat) : decide (c ∈ ("123456789" : Str).cps.toList) = decide (dig c = true ∧ c ≠ 48) := by
  have e : ("123456789" : Str).cps.toList = [49, 50, 51, 52, 53, 54, 55, 56, 57] := by decide +kernel
  rw [e]
  unfold dig
  refine decide_eq_decide.mpr ?_
  simp only [List.mem_cons, List.not_mem_nil, or_false, decide_eq_true_eq]
  omega
abbrev sCol : Stmt := topS 36
def spCol : Sp := fun vs H Q _ => ∃ L : List Nat, vs = [.str (T L)] ∧ L.length ≤ 1000 ∧ ∀ H', L2.Same H H' → Q (.int (colOf L : Nat)) H'
section
variable {P : Program} {w : World} {K : PySem.W.Frag} {mg : Str → Option Value} {base : Heap}
theorem scCol : FnScope ["_law_text", "_law_state", "_law_many", "_law_is_zero", "_law_at", "_law_sign"] ["_law_text"] (defScope sCol) := ⟨rfl, rfl, rfl, by decide +kernel, rfl, by decide +kernel, by decide +kernel⟩
theorem kn_col (D : DefIs K mg "_law_column" sCol) (zl : mg "len" = none) (ze : mg "enumerate" = none) : Kn P w K mg base "_law_column" 1 ["_law_text"] spCol := by
  refine .of D (fun _ _ _ _ _ _ us hl => match us, hl with | [_], _ => rfl) fun _ _ F => ?_
  refine F.ok scCol (fun vs H Q E h => ?_) (fun cdv A outer s H vs Q E hr h => ?_)
  · obtain ⟨L, rfl, _⟩ := h
    rfl
  · obtain ⟨L, rfl, sz, kQ⟩ := h
    refine ⟨_, pss_cons (ps_asg (pe_tup (pa_cons pe_str (pa_cons pe_int (pa_cons pe_bl pa_nil)))) (pg_tup rfl (pgs_cons (pg_name (i := 1) scCol.nd rfl (.inl rfl)) (pgs_cons (pg_name (i := 2) scCol.nd rfl (.inl rfl)) (pgs_cons (pg_name (i := 3) scCol.nd rfl (.inl rfl)) pgs_nil)))))
      (pss_cons (ps_for PassesOwn.never rfl (pi_enumS (by rfl) ze (pa_cons (pv 0) pa_nil)) (pg_tup rfl (pgs_cons (pg_name (i := 4) scCol.nd rfl (.inl rfl)) (pgs_cons (pg_name (i := 5) scCol.nd rfl (.inl rfl)) pgs_nil)))
        (pss_one (ps_if (PW.pt (pw_and (pt_cmpR op_eq (pv 5) pe_str (nomark _)) (pw_and1 (pt_cmpR op_eq (pv 1) pe_str (nomark _)))))
          (pss_one (ps_set (i := 1) scCol.nd rfl (.inl rfl) pe_str))
          (pss_one (ps_if (PW.pt (pw_and (pt_cmpR op_eq (pv 5) pe_str (nomark _)) (pw_and (pt_cmpR op_eq (pv 1) pe_str (nomark _)) (pw_and1 (pt_cmpR op_gt (pv 2) pe_int (nomark _))))))
            (pss_one (ps_set (i := 1) scCol.nd rfl (.inl rfl) pe_str))
            (pss_one (ps_if (PW.pt (pw_and (pt_cmpR op_in_sign (pv 5) pe_str (by with_unfolding_all rfl)) (pw_and1 (pt_cmpR op_in_seq (pv 1) (pe_lst (pa_cons pe_str (pa_cons pe_str pa_nil))) (by with_unfolding_all rfl)))))
              (pss_one (ps_par3 (i := 1) (j := 2) (l := 3) rfl scCol.nd rfl rfl rfl (by decide) (by decide) (by decide) rfl rfl rfl (pa_cons pe_str (pa_cons pe_int (pa_cons (pe_cmpR op_eq (pv 5) pe_str (nomark _)) pa_nil))) rfl))
              (pss_one (ps_if (PW.pt (pw_and (pt_cmpR op_in_sign (pv 5) pe_str (by with_unfolding_all rfl)) (pw_and1 (pt_cmpR op_eq (pv 1) pe_str (nomark _)))))
                (pss_one (ps_asg (pe_tup (pa_cons pe_str (pa_cons pe_int (pa_cons pe_bl pa_nil)))) (pg_tup rfl (pgs_cons (pg_name (i := 1) scCol.nd rfl (.inl rfl)) (pgs_cons (pg_name (i := 2) scCol.nd rfl (.inl rfl)) (pgs_cons (pg_name (i := 3) scCol.nd rfl (.inl rfl)) pgs_nil))))))
                (pss_one (ps_if (PW.pt (pw_and (pt_cmpR op_in_sign (pv 5) pe_str (by with_unfolding_all rfl)) (pw_and (pt_cmpR op_in_seq (pv 1) (pe_lst (pa_cons pe_str (pa_cons pe_str pa_nil))) (by with_unfolding_all rfl)) (pw_and (pt_not (pt_val (pv 3))) (pw_and1 (pt_cmpR op_lt (pv 2) pe_int (nomark _)))))))
                  (pss_one (ps_set (i := 2) scCol.nd rfl (.inl rfl) (pe_op op_add (pv 2) pe_int)))
                  (pss_one (ps_ret (pe_op op_add (pv 4) pe_int))))))))))))))
      (pss_one (ps_ret (pe_ifExp (pt_cmpR op_in_seq (pv 1) (pe_lst (pa_cons pe_str (pa_cons pe_str pa_nil))) (by with_unfolding_all rfl)) pe_int (pe_op op_add (pe_callB call_len_str (by rfl) zl bLen (pa_cons (pv 0) pa_nil)) pe_int))))), ?_⟩
    have stp : ∀ (i c : Nat) (s : AS) (m : Nat) (z : Bool), L[i]? = some c → goC (L.drop i) i s m z = colOf L → (match stepC c s m z with
        | none => i + 1
        | some (s', m', z') => goC (L.drop (i + 1)) (i + 1) s' m' z') = colOf L := fun i c s m z hc h => by
      obtain ⟨e, lt⟩ := at_some hc
      rw [e] at h
      exact h
    refine ⟨(by show 3 ≤ sizeLine; rw [sizeLine_eq]; decide), fun p np => ⟨p, _, rfl, Evl.st_of upd_same, rfl, _, _, rfl, _, _, rfl, _, _, rfl, rfl, ?_⟩⟩
    refine ⟨_, rfl, T L, rfl, for_enumS (fun i σ H' => L2.Same H H' ∧ ∃ (s : AS) (m : Nat) (z : Bool) (a b : Option V), σ = [some (.str (T L)), some (.str s.nm), some (.int (m : Nat)), some (.bl z), a, b] ∧ goC (L.drop i) i s m z = colOf L)
      ⟨GG.Same.new (fun _ _ e => e) np, .beg, 0, false, none, none, rfl, goC_col L⟩ ?_ ?_⟩
    · rintro i c T0 σ H1 hc ⟨S1, s, m, z, a, b, rfl, inv⟩ nT0
      have hc' : L[i]? = some c := by
        have q : (T L).cps[i]? = L[i]? := by
          show L.toArray[i]? = L[i]?
          simp
        rw [← q]
        exact hc
      have nxt := stp i c s m z hc' inv
      have S2 := GG.Same.new (o := .tup [.int (i : Nat), .str ⟨#[c]⟩]) S1 nT0
      refine ⟨T0, _, rfl, Evl.st_of upd_same, rfl, _, _, rfl, _, _, rfl, rfl, ?_⟩
      refine vt_if (b := decide (c = 45 ∧ s = .beg)) ((vt_and (vt_eq rfl rfl) fun _ _ _ => vt_eq rfl rfl).cast ?_) fun H3 S3 => ?_
      · show (decide (V.str ⟨#[c]⟩ = V.str "-") && decide (V.str s.nm = V.str (AS.nm .beg))) = _
        rw [sg_eq (x := "-") (k := 45) rfl, nm_eq]
        exact (Bool.decide_and _ _).symm
      by_cases p1 : c = 45 ∧ s = .beg
      · rw [decide_eq_true p1]
        have e : stepC c s m z = some (.top, m, z) := by unfold stepC; rw [if_pos p1]
        rw [e] at nxt
        exact iteT ⟨L2.Same.trans S2 S3, .top, m, z, _, _, rfl, nxt⟩
      rw [decide_eq_false p1]
      refine iteF (vt_if (b := decide (c = 47 ∧ s = .inn ∧ 0 < m)) ((vt_and (vt_eq rfl rfl) fun _ _ _ => vt_and (vt_eq rfl rfl) fun _ _ _ => vt_gt rfl).cast ?_) fun H4 S4 => ?_)
      · show (decide (V.str ⟨#[c]⟩ = V.str "/") && (decide (V.str s.nm = V.str (AS.nm .inn)) && decide ((0 : Int) < (m : Int)))) = _
        rw [sg_eq (x := "/") (k := 47) rfl, nm_eq, Bool.decide_and, Bool.decide_and, decide_eq_decide.mpr (show (0 : Int) < (m : Int) ↔ 0 < m by omega)]
      have S24 := L2.Same.trans S2 (L2.Same.trans S3 S4)
      by_cases p2 : c = 47 ∧ s = .inn ∧ 0 < m
      · rw [decide_eq_true p2]
        have e : stepC c s m z = some (.bot, m, z) := by unfold stepC; rw [if_neg p1, if_pos p2]
        rw [e] at nxt
        exact iteT ⟨S24, .bot, m, z, _, _, rfl, nxt⟩
      rw [decide_eq_false p2]
      refine iteF (vt_if (b := decide (dig c = true ∧ (s = .beg ∨ s = .top))) ((vt_and (vt_sg rfl) fun _ _ _ => vt_in rfl rfl rfl).cast ?_) fun H5 S5 => ?_)
      · show (decide (c ∈ ("0123456789" : Str).cps.toList) && inV (V.str s.nm) [.str "begin", .str "top"]) = _
        rw [dig_in, nm_in1, Bool.decide_and, Bool.decide_eq_true]
      have S25 := L2.Same.trans S24 S5
      by_cases p3 : dig c = true ∧ (s = .beg ∨ s = .top)
      · rw [decide_eq_true p3]
        have e : stepC c s m z = some (.inn, 1, decide (c = 48)) := by unfold stepC; rw [if_neg p1, if_neg p2, if_pos p3]
        rw [e] at nxt
        refine iteT ⟨_, rfl, rfl, _, _, _, rfl, ?_⟩
        rw [sg_eq (x := "0") (k := 48) rfl]
        exact ⟨S25, .inn, 1, _, _, _, rfl, nxt⟩
      rw [decide_eq_false p3]
      refine iteF (vt_if (b := decide ((dig c = true ∧ c ≠ 48) ∧ s = .bot)) ((vt_and (vt_sg rfl) fun _ _ _ => vt_eq rfl rfl).cast ?_) fun H6 S6 => ?_)
      · show (decide (c ∈ ("123456789" : Str).cps.toList) && decide (V.str s.nm = V.str (AS.nm .bot))) = _
        rw [dig_in1, nm_eq]
        exact (Bool.decide_and _ _).symm
      have S26 := L2.Same.trans S25 S6
      by_cases p4 : (dig c = true ∧ c ≠ 48) ∧ s = .bot
      · rw [decide_eq_true p4]
        have e : stepC c s m z = some (.und, 1, false) := by unfold stepC; rw [if_neg p1, if_neg p2, if_neg p3, if_pos p4]
        rw [e] at nxt
        refine iteT ⟨(by show 3 ≤ sizeLine; rw [sizeLine_eq]; decide), fun q nq => ⟨q, _, rfl, Evl.st_of upd_same, rfl, _, _, rfl, _, _, rfl, _, _, rfl, rfl, ?_⟩⟩
        exact ⟨GG.Same.new S26 nq, .und, 1, false, _, _, rfl, nxt⟩
      rw [decide_eq_false p4]
      refine iteF (vt_if (b := decide (dig c = true ∧ (s = .inn ∨ s = .und) ∧ z = false ∧ m < 20)) ((vt_and (vt_sg rfl) fun _ _ _ => vt_and (vt_in rfl rfl rfl) fun _ _ _ => vt_and (vt_not rfl) fun _ _ _ => vt_lt rfl).cast ?_) fun H7 S7 => ?_)
      · show (decide (c ∈ ("0123456789" : Str).cps.toList) && (inV (V.str s.nm) [.str "in", .str "under"] && (!z && decide ((m : Int) < 20)))) = _
        rw [dig_in, nm_in2, Bool.decide_and, Bool.decide_and, Bool.decide_and, Bool.decide_eq_true, decide_eq_decide.mpr (show (m : Int) < 20 ↔ m < 20 by omega)]
        cases z <;> rfl
      have S27 := L2.Same.trans S26 S7
      by_cases p5 : dig c = true ∧ (s = .inn ∨ s = .und) ∧ z = false ∧ m < 20
      · rw [decide_eq_true p5]
        have e : stepC c s m z = some (s, m + 1, z) := by unfold stepC; rw [if_neg p1, if_neg p2, if_neg p3, if_neg p4, if_pos p5]
        rw [e] at nxt
        exact iteT ⟨_, rfl, _, _, rfl, rfl, S27, s, m + 1, z, _, _, rfl, nxt⟩
      rw [decide_eq_false p5]
      have e : stepC c s m z = none := by unfold stepC; rw [if_neg p1, if_neg p2, if_neg p3, if_neg p4, if_neg p5]
      rw [e] at nxt
      have k := kQ _ S27
      rw [← nxt] at k
      exact iteF ⟨_, rfl, _, _, rfl, rfl, k⟩
    · rintro σ H1 ⟨S1, s, m, z, a, b, rfl, inv⟩
      refine vt_in (K := K) (σ := [some (.str (T L)), some (.str s.nm), some (.int (m : Nat)), some (.bl z), a, b]) (i := 1) rfl rfl rfl _ fun H2 S2 => ?_
      have sz1 : (T L).cps.size = L.length := T_len L
      rw [sz1, List.drop_length] at inv
      have k := kQ _ (L2.Same.trans S1 S2)
      rw [← inv] at k
      rw [nm_in2]
      by_cases q : s = .inn ∨ s = .und
      · rw [decide_eq_true q]
        have e : goC [] L.length s m z = 0 := if_pos q
        rw [e] at k
        exact iteT k
      · rw [decide_eq_false q]
        have e : goC [] L.length s m z = L.length + 1 := if_neg q
        rw [e] at k
        have sz2 : (T L).length ≤ sizeLine := by rw [T_len, sizeLine_eq]; omega
        refine iteF ⟨_, rfl, T L, rfl, sz2, _, _, rfl, rfl, ?_⟩
        rw [T_len]
        exact k
end
end GG

namespace GG
open PySem PySem.Spec PyProof.Rows L2 TL
/-! ### the text of a ratio is right, and leads back -/
theorem runE_eq {L : List Nat} : ∀ (k i d : Nat), d ≤ k → (∀ j, j < d → digAt L (i + j) = true) → digAt L (i + d) = false → runE L k i = i + d
  | 0, i, d, h, _, _ => by
    have : d = 0 := by omega
    subst this
    rfl
  | k + 1, i, 0, _, _, h => by
    unfold runE
    rw [show digAt L i = false from h]
    rfl
  | k + 1, i, d + 1, h, a, b => by
    unfold runE
    rw [if_pos (show digAt L i = true from a 0 (by omega)), runE_eq k (i + 1) d (by omega) (fun j hj => by rw [show i + 1 + j = i + (j + 1) by omega]; exact a (j + 1) (by omega)) (by rw [show i + 1 + d = i + (d + 1) by omega]; exact b)]
    omega
theorem numL_head : ∀ (n : Nat), 0 < n → ∃ c r, numL n = c :: r ∧ 49 ≤ c ∧ c ≤ 57 := fun n => by
  induction n using Nat.strongRecOn with
  | ind n ih =>
    intro h
    by_cases z : n < 10
    · exact ⟨48 + n, [], numL_lt z, by omega, by omega⟩
    · obtain ⟨c, r, e, q⟩ := ih (n / 10) (by omega) (by omega)
      exact ⟨c, r ++ [48 + n % 10], by rw [numL_step (by omega), e]; rfl, q⟩
theorem get_mid {a m r : List Nat} {j : Nat} (h : j < m.length) : (a ++ (m ++ r))[a.length + j]? = some m[j] := by
  rw [List.getElem?_append_right (by omega), Nat.add_sub_cancel_left, List.getElem?_append_left h, List.getElem?_eq_getElem h]
theorem get_end {a m r : List Nat} : (a ++ (m ++ r))[a.length + m.length]? = r[0]? := by
  rw [List.getElem?_append_right (by omega), Nat.add_sub_cancel_left, List.getElem?_append_right (Nat.le_refl _), Nat.sub_self]
theorem numE_num {a r : List Nat} {n : Nat} (hn : n < 10 ^ 20) (hr : digAt r 0 = false) : numE (a ++ (numL n ++ r)) a.length = some (a.length + (numL n).length) := by
  have ln := numL_len (n := n) (k := 20) (by decide) hn
  have ne := numL_ne n
  have dg := numL_digits n
  have l0 : 0 < (numL n).length := List.length_pos_iff.mpr ne
  have dj : ∀ j, j < (numL n).length → digAt (a ++ (numL n ++ r)) (a.length + j) = true := fun j hj => digAt_iff.mpr ⟨_, get_mid hj, dg _ (List.getElem_mem hj)⟩
  have de : digAt (a ++ (numL n ++ r)) (a.length + (numL n).length) = false := by
    unfold digAt at hr ⊢
    rw [get_end]
    exact hr
  unfold numE
  rw [if_pos (show digAt (a ++ (numL n ++ r)) a.length = true from dj 0 l0)]
  have g0 := get_mid (a := a) (r := r) l0
  by_cases z : n = 0
  · subst z
    have e0 : numL 0 = [48] := numL_lt (by decide)
    have g1 : (a ++ (numL 0 ++ r))[a.length]? = some 48 := by
      have q := get_mid (a := a) (m := [48]) (r := r) (j := 0) (by decide)
      rw [e0]
      exact q
    rw [if_pos g1, e0]
    rfl
  · obtain ⟨c, t, e, c1, c2⟩ := numL_head n (by omega)
    have g1 : (a ++ (numL n ++ r))[a.length]? = some c := by
      have q := get_mid (a := a) (m := c :: t) (r := r) (j := 0) (by simp)
      rw [e]
      exact q
    have nz : ¬ (a ++ (numL n ++ r))[a.length]? = some 48 := fun q => by
      rw [g1] at q
      have := Option.some.inj q
      omega
    rw [if_neg nz]
    have re := runE_eq (L := a ++ (numL n ++ r)) 19 (a.length + 1) ((numL n).length - 1) (by omega) (fun j hj => by
      rw [show a.length + 1 + j = a.length + (j + 1) by omega]
      exact dj (j + 1) (by omega)) (by
      rw [show a.length + 1 + ((numL n).length - 1) = a.length + (numL n).length by omega]
      exact de)
    rw [re, show a.length + 1 + ((numL n).length - 1) = a.length + (numL n).length by omega]
def sgnL (t : Int) : List Nat := if t < 0 then [45] else []
def botL (b : Int) : List Nat := if b = 1 then [] else 47 :: numL b.natAbs
/-- the signs of a ratio's text -/
def dueL (t b : Int) : List Nat := sgnL t ++ (numL t.natAbs ++ botL b)
theorem tl_nT (t : Int) : tl (nT t) = sgnL t ++ numL t.natAbs := by
  unfold sgnL
  by_cases h : t < 0
  · rw [nT_neg h, tl_append, if_pos h]
    have e1 : tl (Str.ofString "-") = [45] := by decide
    obtain ⟨m, hm⟩ : ∃ m : Nat, -t = (m : Int) := ⟨(-t).toNat, (Int.toNat_of_nonneg (by omega)).symm⟩
    rw [e1, hm]
    unfold nT
    rw [tl_num, show t.natAbs = m by omega]
  · rw [if_neg h]
    obtain ⟨m, rfl⟩ : ∃ m : Nat, t = (m : Int) := ⟨t.toNat, (Int.toNat_of_nonneg (by omega)).symm⟩
    unfold nT
    rw [tl_num]
    rfl
theorem due_eq {a : Int × Int} (h : 0 < a.2) : rT a = T (dueL a.1 a.2) := by
  refine ext_tl ?_
  show tl (rT a) = dueL a.1 a.2
  unfold rT dueL botL
  by_cases z : a.2 = 1
  · rw [if_pos z, if_pos z, tl_nT, List.append_nil]
  · rw [if_neg z, if_neg z, tl_append, tl_append, tl_nT, tl_nT]
    have e1 : tl (Str.ofString "/") = [47] := by decide
    have e2 : sgnL a.2 = [] := if_neg (by omega)
    rw [e1, e2, List.nil_append, List.append_assoc, List.append_assoc]
    rfl
theorem dig_bot (b : Int) : digAt (botL b) 0 = false := by
  unfold botL
  split <;> rfl
theorem sgn_due (t b : Int) : sgnE (dueL t b) = (sgnL t).length := by
  unfold sgnE dueL sgnL
  by_cases h : t < 0
  · rw [if_pos h]
    rfl
  · rw [if_neg h, List.nil_append]
    refine if_neg fun q => ?_
    have l0 : 0 < (numL t.natAbs).length := List.length_pos_iff.mpr (numL_ne _)
    rw [List.getElem?_append_left l0, List.getElem?_eq_getElem l0] at q
    have := numL_digits t.natAbs _ (List.getElem_mem l0)
    have := Option.some.inj q
    omega
theorem due_right {t b : Int} (hb : 0 < b) (ht : t.natAbs < 10 ^ 20) (hb2 : b.natAbs < 10 ^ 20) : colOf (dueL t b) = 0 := by
  have n1 := numE_num (a := sgnL t) (r := botL b) ht (dig_bot b)
  rw [colOf_eq, sgn_due]
  show (match numE (sgnL t ++ (numL t.natAbs ++ botL b)) (sgnL t).length with
    | none => _
    | some m => afterT (dueL t b) m) = 0
  rw [n1]
  show afterT (dueL t b) _ = 0
  have g := get_end (a := sgnL t) (m := numL t.natAbs) (r := botL b)
  unfold afterT
  show (if (sgnL t ++ (numL t.natAbs ++ botL b))[(sgnL t).length + (numL t.natAbs).length]? = some 47 then _ else _) = 0
  rw [g]
  by_cases z : b = 1
  · have e : botL b = [] := if_pos z
    rw [e, if_neg (by simp)]
    unfold fin' dueL
    rw [e, List.append_nil, List.length_append]
    exact if_neg (Nat.lt_irrefl _)
  · have e : botL b = 47 :: numL b.natAbs := if_neg z
    rw [e, if_pos (show (47 :: numL b.natAbs)[0]? = some 47 from rfl)]
    have eL : dueL t b = (sgnL t ++ (numL t.natAbs ++ [47])) ++ (numL b.natAbs ++ []) := by
      unfold dueL
      rw [e]
      simp
    have lp : (sgnL t ++ (numL t.natAbs ++ [47])).length = (sgnL t).length + (numL t.natAbs).length + 1 := by
      simp
      omega
    have n2 := numE_num (a := sgnL t ++ (numL t.natAbs ++ [47])) (r := []) hb2 rfl
    rw [← eL, lp] at n2
    obtain ⟨c, r, ec, c1, c2⟩ := numL_head b.natAbs (by omega)
    have g2 : (dueL t b)[(sgnL t).length + (numL t.natAbs).length + 1]? = some c := by
      rw [eL, ec, ← lp]
      exact get_mid (a := sgnL t ++ (numL t.natAbs ++ [47])) (m := c :: r) (r := []) (j := 0) (by simp)
    unfold afterS
    have nz : ¬ (dueL t b)[(sgnL t).length + (numL t.natAbs).length + 1]? = some 48 := fun q => by
      rw [g2] at q
      have := Option.some.inj q
      omega
    rw [if_neg nz, n2]
    show fin' _ _ = 0
    unfold fin'
    refine if_neg ?_
    rw [eL, List.length_append, List.append_nil, lp]
    exact Nat.lt_irrefl _
theorem int_sgn {t : Int} (ht : t.natAbs < 10 ^ 20) : intOf (sgnL t ++ numL t.natAbs) = t := by
  have ln := numL_len (n := t.natAbs) (k := 20) (by decide) ht
  unfold sgnL intOf
  by_cases h : t < 0
  · rw [if_pos h]
    have e := PySem.intText_neg (x := T (45 :: numL t.natAbs)) rfl (numL_digits _) (numL_ne _) (by rw [T_len, List.length_cons]; omega)
    rw [numL_val] at e
    show (PySem.intText? (T (45 :: numL t.natAbs))).getD 0 = t
    rw [e]
    show -((t.natAbs : Nat) : Int) = t
    omega
  · rw [if_neg h]
    have e := PySem.intText_digits (x := T (numL t.natAbs)) (numL_digits _) (numL_ne _) (by rw [T_len]; omega)
    show (PySem.intText? (T (numL t.natAbs))).getD 0 = t
    rw [e]
    show ((NumText.digitsVal (numL t.natAbs) : Nat) : Int) = t
    rw [numL_val]
    omega
theorem due_free (t : Int) : 47 ∉ sgnL t ++ numL t.natAbs := fun m => by
  rcases List.mem_append.mp m with q | q
  · unfold sgnL at q
    split at q
    · simp at q
    · cases q
  · exact numL_free (.inl (by decide)) q
theorem due_val {t b : Int} (hb : 0 < b) (ht : t.natAbs < 10 ^ 20) (hb2 : b.natAbs < 10 ^ 20) (low : lw t b = (t, b)) : valOf (dueL t b) = (t, b) := by
  unfold valOf
  by_cases z : b = 1
  · have e : dueL t b = sgnL t ++ numL t.natAbs := by unfold dueL botL; rw [if_pos z, List.append_nil]
    rw [e, par_none1 (due_free t)]
    show (intOf _, (1 : Int)) = _
    rw [int_sgn ht, z]
  · have e : dueL t b = (sgnL t ++ numL t.natAbs) ++ (47 :: [] ++ numL b.natAbs) := by
      unfold dueL botL
      rw [if_neg z, List.append_assoc]
      rfl
    rw [e, par_part1 (due_free t)]
    show lw (intOf ([] ++ (sgnL t ++ numL t.natAbs))) (intOf (numL b.natAbs)) = _
    have eb := int_sgn (t := b) hb2
    have e2 : sgnL b = [] := if_neg (by omega)
    rw [e2, List.nil_append] at eb
    rw [List.nil_append, int_sgn ht, eb, low]
end GG

namespace GG
open PySem PySem.Spec PyProof.Rows L2 LamX
/-! ### _law_why, of calls that raise BadText, BadNumber, or nothing -/
structure WTxt2 (K : PySem.W.Frag) (C1 : Addr) : Prop where
  t : ExT K C1
  n : PySem.W.findIn K (.ref C1) "column" = some none
  e : PySem.W.exmOne K (.ref C1) (.ref C1) = some true
def TWhy2 (C1 CN : Addr) : (XK → Hp → VK → Prop) → Hp → VK → Prop := fun tl H Q =>
  tl (fun cls d H' => (cls = .ref C1 ∧ ∃ (dd : Addr) (y : V), d = some dd ∧ H' dd = some (.xd [("column", y)]) ∧ ∀ (p : Addr) (H'' : Hp), H'' p = some (.tup [.str "text", y]) → Same H' H'' → Q (.ref p) H'') ∨
    (cls = .ref CN ∧ ∃ (dd : Addr) (v wv : V) (dv : PyData), d = some dd ∧ H' dd = some (.xd [("number", v), ("what", wv)]) ∧ Da H' v dv ∧ Rep dv ∧
    ∀ (p : Addr) (H'' : Hp), H'' p = some (.tup [.str "number", wv, .str dv.shown]) → Same H' H'' → Q (.ref p) H'')) H (fun _ H' => Q .non H')
theorem why_gives2 {X : Cx} {g CN C1 C2 C4 C5 C6 C7 : Addr} {cdg : Value} {q : Str} (T : WTxt X.K X.mg CN C1 C2 C4 C5 C6 C7) (T2 : WTxt2 X.K C1) (hg : X.A.guards = some []) (hu : X.A.units + 100 < cLine) :
    GivesTo X ["_law_call", "e"] "_law_why" (defScope sWhy) g cdg (defBody sWhy) "_law_call" q (TWhy2 C1 CN) := by
  intro f c' s H Q tl act hc h
  refine ⟨_, pss_cons (ps_try_asMany (X := (cxOf C8.CX0 X.prog X.w X.K X.mg X.base ["_law_call", "e"] "_law_why" (defScope sWhy) g cdg X.A X.stack s H C8.E0).nox) (i := 1) (n := "e")
      (tb := fun W D σ H => ∃ Ech : XK, (∀ cls d σ' H', Ech cls d H' → W cls d σ' H') ∧ σ[0]? = some (some (.ref f)) ∧ H c' = some (CodeO c' q) ∧ tl Ech H (fun _ H1 => D.nx σ H1))
      rfl rfl scWhy.nd rfl rfl LamX.takes0 (fun W pn xe tk _ => ?_)
      (.cons ⟨rfl, by decide, .inl T.m1⟩ (fun a oe cls d pn hz hf => pss_one (ps_ret (pe_tup (pa_cons pe_str (pa_cons (pe_xf (XfC.of T2.t) T2.n hz hf (pv 1) rfl) pa_nil))))) (.cons ⟨rfl, by decide, .inl T.m2⟩ (fun _ _ _ _ _ _ _ => pss_false)
        (.cons ⟨rfl, by decide, .inl T.m3⟩ (fun a oe cls d pn hz hf => pss_one (ps_ret (pe_tup (pa_cons pe_str (pa_cons (pe_xf (XfC.of T.t) T.n1 hz hf (pv 1) rfl) (pa_cons (pe_callB (call_reprD hg (by show X.A.units + 3 + 80 < cLine; omega)) (by rfl) T.repr bRepr (pa_cons (pe_xf (XfC.of T.t) T.n2 hz hf (pv 1) rfl) pa_nil)) pa_nil))))))
        (.cons ⟨rfl, by decide, .inl T.m4⟩ (fun _ _ _ _ _ _ _ => pss_false) (.cons ⟨rfl, by decide, .inl T.m5⟩ (fun _ _ _ _ _ _ _ => pss_false) (.cons ⟨rfl, by decide, .inl T.m6⟩ (fun _ _ _ _ _ _ _ => pss_false) (.cons ⟨rfl, by decide, .inl T.m7⟩ (fun _ _ _ _ _ _ _ => pss_false) .nil))))))))
      (pss_one (ps_ret pe_non)), ?_⟩
  · refine ⟨fun pins s' σ H' D I h' => ?_⟩
    obtain ⟨Ech, hW, h1, h2, h3⟩ := h'
    exact PSs.run (pss_one (ps_expr (act W pn xe Ech _ _ tk hW))) pins s' σ H' D I ⟨h1, h2, h3⟩
  · refine ⟨_, fun cls d σ' H' e => ?_, rfl, hc, h⟩
    rcases e with ⟨rfl, dd, y, rfl, ed, k⟩ | ⟨rfl, dd, v, wv, dv, rfl, ed, da, rp, k⟩
    · refine ⟨true, T2.e, fun _ len a na => ?_, fun z => (nomatch z)⟩
      obtain ⟨x0, x1, rfl⟩ : ∃ x0 x1, σ' = [x0, x1] := by
        match σ', len with
        | [x0, x1], _ => exact ⟨_, _, rfl⟩
      refine ⟨_, rfl, rfl, rfl, dd, _, y, rfl, ed, by kernel_rfl, (by show 2 ≤ sizeLine; rw [sizeLine_eq]; decide), fun p np => ?_⟩
      exact k p _ upd_same (Same.new (L2.Same.refl H') np)
    · refine ⟨false, T.e1, fun z => (nomatch z), fun _ => ⟨false, T.e2, fun z => (nomatch z), fun _ => ⟨true, T.e3, fun _ len a na => ?_, fun z => (nomatch z)⟩⟩⟩
      obtain ⟨x0, x1, rfl⟩ : ∃ x0 x1, σ' = [x0, x1] := by
        match σ', len with
        | [x0, x1], _ => exact ⟨_, _, rfl⟩
      refine ⟨_, rfl, rfl, rfl, dd, _, wv, rfl, ed, by kernel_rfl, _, rfl, rfl, rfl, dd, _, v, rfl, ed, by kernel_rfl, v, dv, rfl, da, rp.1, Nat.le_trans rp.2.1 (by decide), Nat.le_trans rp.2.2 (by rw [sizeLine_eq]; decide), (by show 3 ≤ sizeLine; rw [sizeLine_eq]; decide), fun p np => ?_⟩
      exact k p _ upd_same (Same.new (L2.Same.refl H') np)

/-! ### a drawn ratio, with the bound of its figures -/
def spSome2 : Sp := fun vs H Q _ => ∃ (p l : Addr) (c : Int), vs = [.ref p] ∧ PenAt H p l c ∧ c < 10000000 ∧
  ∀ (r : Addr) (a : Int × Int) (c' : Int) (H' : Hp), c ≤ c' → c' ≤ c + 20 → mid a → a.1.natAbs ≤ 10 ^ 18 → a.2.natAbs ≤ 10 ^ 18 → H' r = some (.tup [.int a.1, .int a.2]) → H r = none → PenAt H' p l c' → Keep p H H' → Q (.ref r) H'
section
variable {P : Program} {w : World} {K : PySem.W.Frag} {mg : Str → Option Value} {base : Heap}
theorem kn_some2 (D : DefIs K mg "_law_some_ratio" sSome) (za : mg "abs" = none) (B : Kn P w K mg base "_law_far" 3 ["_law_pen_here"] spFar) (B2 : Kn P w K mg base "_law_q" 2 ["_law_top", "_law_bottom"] spQ) : Kn P w K mg base "_law_some_ratio" 4 ["_law_pen_here"] spSome2 := by
  refine .of D (fun _ _ _ _ _ _ us hl => match us, hl with | [_], _ => rfl) fun _ _ F => ?_
  refine F.ok scSome (fun vs H Q E h => ?_) (fun cdv A outer s H vs Q E hr h => ?_)
  · obtain ⟨p, l, c, rfl, _⟩ := h
    rfl
  · obtain ⟨p, l, c, rfl, P0, c0, k⟩ := h
    have hr2 : Room 2 _ := hr.mono (by decide)
    refine ⟨_, pss_one (ps_ret (pe_kn B2 hr2 (pa_cons (pe_kn B hr (pa_cons (pv 0) pa_nil)) (pa_cons (pe_op op_add pe_int (pe_callB call_abs (by rfl) za bAbs (pa_cons (pe_kn B hr (pa_cons (pv 0) pa_nil)) pa_nil))) pa_nil)))), ?_⟩
    refine ⟨_, rfl, p, l, c, rfl, P0, by omega, fun t c1 H1 x1 x2 x3 x4 P1 K1 => ?_⟩
    refine ⟨_, rfl, p, l, c1, rfl, P1, by omega, fun b c2 H2 y1 y2 y3 y4 P2 K2 => ⟨_, rfl, _, _, rfl, rfl, ?_⟩⟩
    rw [abs_nat]
    have n60 : (1000000000000000001 : Nat) < 2 ^ 100 := by decide +kernel
    have b0 : (0 : Int) < 1 + ((b.natAbs : Nat) : Int) := by omega
    have st : t.natAbs < 2 ^ 100 := by omega
    have sb : (1 + ((b.natAbs : Nat) : Int)).natAbs < 2 ^ 100 := by omega
    have up : (2 : Nat) ^ 100 ≤ 2 ^ 250 := Nat.pow_le_pow_right (by decide) (by decide)
    refine ⟨_, _, rfl, b0, Nat.lt_of_lt_of_le st up, Nat.lt_of_lt_of_le sb up, fun r nr => ?_⟩
    obtain ⟨l1, l2, l3⟩ := lw_small (t := t) b0
    have K12 := K1.trans K2
    have free : H r = none := by
      cases e : H r with
      | none => rfl
      | some o =>
        exfalso
        by_cases rp : r = p
        · obtain ⟨_, _, _, _, I⟩ := P2
          rw [rp, I.obj] at nr
          cases nr
        · rw [K12 r o rp e] at nr
          cases nr
    exact k r _ c2 _ (by omega) (by omega) ⟨Nat.lt_of_le_of_lt l1 st, Nat.lt_of_le_of_lt l2 sb, l3, lw_copr b0⟩ (Nat.le_trans l1 (by omega)) (Nat.le_trans l2 (by omega)) upd_same free (P2.new nr) (K12.new nr)
end
end GG

namespace GG
open PySem PySem.Spec PyProof.Rows L2 LamX TL
abbrev sLaw : Stmt := topS 37
def signs : Str := "0123456789-/ +.x\n\t_~"
def qLam : Str := (envOfC "law" (defScope sLaw) 0 0 .none).qual ++ "<lambda>"
def spLaw (K : PySem.W.Frag) (T : Addr) : Sp := fun vs H Q _ => ∃ (a : Addr) (ns : List Int), vs = [.ref a] ∧ SqL K H a (ns.map V.int) ∧ ns.length ≤ 63 ∧ H T = some (.tbl #[]) ∧ ∀ H', Q (.bl true) H'
theorem scLaw : FnScope ["_law_script", "_law_pen_here", "_law_signs", "_law_lap", "_law_ratio", "_law_due", "_law_by", "_law_text", "_law_turn", "_law_at", "_law_sign", "_law_column_here", "_law_parts", "_law_odd"] ["_law_script"] (defScope sLaw) := ⟨rfl, rfl, rfl, by decide +kernel, rfl, by decide +kernel, by decide +kernel⟩
/-- "7" * 19, 20, 21 -/
theorem op_sevens {X : Cx} : OpR X (binaryOp .Mult) (fun x y H Q => ∃ k : Int, x = .str "7" ∧ y = .int k ∧ (k = 19 ∨ k = 20 ∨ k = 21) ∧ ∀ z : Str, z.length ≤ 21 → Q (.str z) H) := by
  intro pins s σ H x y v u Q I rx ry h
  obtain ⟨k, rfl, rfl, hk, q⟩ := h
  obtain ⟨t, rfl⟩ := rx
  obtain ⟨t', rfl⟩ := ry
  rcases hk with rfl | rfl | rfl
  · exact PySem.P.mul_str (by decide) (fun _ _ => by decide) (fun _ _ => by decide) ⟨by decide +kernel, .str _, H, I.tok _, ⟨_, rfl⟩, q _ (by decide +kernel)⟩
  · exact PySem.P.mul_str (by decide) (fun _ _ => by decide) (fun _ _ => by decide) ⟨by decide +kernel, .str _, H, I.tok _, ⟨_, rfl⟩, q _ (by decide +kernel)⟩
  · exact PySem.P.mul_str (by decide) (fun _ _ => by decide) (fun _ _ => by decide) ⟨by decide +kernel, .str _, H, I.tok _, ⟨_, rfl⟩, q _ (by decide +kernel)⟩
/-! ### expressions by their values -/
def VE (σ : L2.St) (H : Hp) (t : TE) (v : V) : Prop := ∀ Q : VK, (∀ H', L2.Same H H' → Q v H') → t σ H Q
abbrev rAddS : R2 := fun x y H Q => ∃ i j, x = V.str i ∧ y = V.str j ∧ i.length + j.length ≤ sizeLine ∧ Q (.str (i ++ j)) H
abbrev rStrI : List V → Hp → VK → Prop := fun xs H Q => ∃ i, xs = [V.int i] ∧ i.natAbs.log2 < 1920 ∧ Q (.str (toString i)) H
theorem up60 {n : Int} (h : n.natAbs ≤ 10 ^ 18) : n.natAbs < 10 ^ 60 := Nat.lt_of_le_of_lt h (by decide)
theorem len_app (x y : Str) : (x ++ y).length = x.length + y.length := by
  rw [len_tl, tl_append, List.length_append, ← len_tl, ← len_tl]
theorem ve_due {K : PySem.W.Frag} {σ : L2.St} {H : Hp} {r : Addr} {a : Int × Int} (h : σ[4]? = some (some (.ref r))) (e : H r = some (.tup [.int a.1, .int a.2])) (b1 : a.1.natAbs ≤ 10 ^ 18) (b2 : a.2.natAbs ≤ 10 ^ 18) :
    VE σ H (tOp rAddS (tCB rStrI (tCons (tOp (rIxT K) (tVar 4) (tC (.int 0))) tNil)) (tIf (tTest (tOp rEq (tOp (rIxT K) (tVar 4) (tC (.int 1))) (tC (.int 1)))) (tC (.str "")) (tOp rAddS (tC (.str "/")) (tCB rStrI (tCons (tOp (rIxT K) (tVar 4) (tC (.int 1))) tNil))))) (.str (rT a)) := fun Q k => by
  have l1 := nT_len2 (up60 b1)
  have l2 := nT_len2 (up60 b2)
  have e1 : (Str.ofString "/").length = 1 := by decide
  have e0 : (Str.ofString "").length = 0 := by decide
  refine ⟨_, h, r, _, _, _, rfl, rfl, Evl.st_of e, atI_nat (j := 0) rfl, _, rfl, log_small (up60 b1), ?_⟩
  refine ⟨_, h, r, _, _, _, rfl, rfl, Evl.st_of e, atI_nat (j := 1) rfl, rfl, _, rfl, ?_⟩
  have k' := k H (fun _ _ z => z)
  unfold rT at k'
  refine ite2 (fun z => ?_) (fun z => ?_)
  · rw [if_pos (V.int.inj (of_decide_eq_true z))] at k'
    refine ⟨_, _, rfl, rfl, by show (nT a.1).length + _ ≤ _; rw [e0, sizeLine_eq]; omega, ?_⟩
    have q : (Str.ofString (toString a.1)) ++ Str.ofString "" = nT a.1 := ext_tl (by
      rw [tl_append, show tl (Str.ofString "") = [] by decide, List.append_nil]
      rfl)
    show Q (.str ((Str.ofString (toString a.1)) ++ Str.ofString "")) H
    rw [q]
    exact k'
  · rw [if_neg (fun q => z (by rw [q]; rfl))] at k'
    refine ⟨_, h, r, _, _, _, rfl, rfl, Evl.st_of e, atI_nat (j := 1) rfl, _, rfl, log_small (up60 b2), _, _, rfl, rfl, by show _ + (nT a.2).length ≤ _; rw [e1, sizeLine_eq]; omega, _, _, rfl, rfl, by
      show (nT a.1).length + (Str.ofString "/" ++ nT a.2).length ≤ _
      rw [len_app, e1, sizeLine_eq]
      omega, ?_⟩
    have q : nT a.1 ++ (Str.ofString "/" ++ nT a.2) = nT a.1 ++ Str.ofString "/" ++ nT a.2 := ext_tl (by
      rw [tl_append, tl_append, tl_append, tl_append, List.append_assoc])
    show Q (.str (nT a.1 ++ (Str.ofString "/" ++ nT a.2))) H
    rw [q]
    exact k'
theorem rT_len {a : Int × Int} (b1 : a.1.natAbs ≤ 10 ^ 18) (b2 : a.2.natAbs ≤ 10 ^ 18) : (rT a).length ≤ 123 := by
  have l1 := nT_len2 (up60 b1)
  have l2 := nT_len2 (up60 b2)
  have e1 : (Str.ofString "/").length = 1 := by decide
  unfold rT
  split
  · omega
  · rw [len_app, len_app, e1]
    omega
theorem lw_low {t b : Int} (h : copr t b) : lw t b = (t, b) := by
  unfold lw
  unfold copr at h
  rw [h]
  show (t / 1, b / 1) = (t, b)
  rw [Int.ediv_one, Int.ediv_one]
theorem rat_ok {a : Int × Int} (h : in250 a) : (dRat a).showable = true ∧ (dRat a).depth ≤ 60 ∧ (dRat a).shown.length ≤ sizeLine := by
  refine ⟨?_, ?_, ?_⟩
  · simp only [dRat, PyData.showable, PyData.showableAll, Bool.and_true, Bool.and_eq_true, decide_eq_true_eq]
    exact ⟨log250 h.1, log250 h.2⟩
  · simp [dRat, PyData.depth, PyData.depthAll]
  · rw [sizeLine_eq]
    exact Nat.le_trans (rat_len h) (by decide)
/-- the parts of a right text -/
theorem parts_of {L : List Nat} (h : colOf L = 0) : (Txt.split (T L) "/" = [T L] ∧ PySem.intText? (T L) = some (intOf L) ∧ (intOf L).natAbs < 2 ^ 120 ∧ L.length ≤ 21 ∧ valOf L = (intOf L, 1)) ∨
    ∃ a b, Txt.split (T L) "/" = [T a, T b] ∧ PySem.intText? (T a) = some (intOf a) ∧ (intOf a).natAbs < 2 ^ 120 ∧ a.length ≤ 21 ∧ PySem.intText? (T b) = some (intOf b) ∧ 0 < intOf b ∧ (intOf b).natAbs < 2 ^ 120 ∧ b.length ≤ 20 ∧ valOf L = lw (intOf a) (intOf b) := by
  have t1 : tl "/" = [47] := by decide
  have ss := split_spl (T L) "/" (by decide) (kind_ok (by decide +kernel))
  rw [t1, show tl (T L) = L from rfl] at ss
  obtain ⟨a, ds, A, hs⟩ := right_shape h
  obtain ⟨r1, r2, r3, r4⟩ := A.read
  rcases hs with rfl | ⟨c, b, rfl, hb, ln, c0⟩
  · refine .inl ⟨map_tl_inj ?_, r1, r2, r3, ?_⟩
    · rw [ss, spl_last1 A.free47]
      rfl
    · unfold valOf
      rw [par_none1 A.free47]
  · obtain ⟨e, e2⟩ := int_digs hb (by simp) ln
    have lt := val_lt hb ln
    have big : (10 : Nat) ^ 20 < 2 ^ 120 := by decide
    have pos := NumText.digitsVal_pos (cs := b) c0
    refine .inr ⟨a, c :: b, map_tl_inj ?_, r1, r2, r3, e, by rw [e2]; omega, by rw [e2]; omega, ln, ?_⟩
    · have q := spl_part1 (s := 47) (S := []) (p := a) (rest := c :: b) (acc := []) A.free47
      have q2 := spl_last1 (s := 47) (S := []) (p := c :: b) (acc := []) (fun m => by have := hb _ m; omega)
      rw [ss]
      refine q.trans ?_
      rw [q2]
      rfl
    · unfold valOf
      have q := par_part1 (s := 47) (S := []) (p := a) (rest := c :: b) (acc := []) A.free47
      rw [show a ++ 47 :: c :: b = a ++ (47 :: [] ++ (c :: b)) from rfl, q]
      rfl
def dCol (c : Nat) : PyData := .tuple [.str "text", .int (c : Nat)]
theorem col_dp {K : PySem.W.Frag} {H : Hp} {t : Addr} {c : Nat} (e : H t = some (.tup [.str "text", .int (c : Nat)])) : Dp K H (.ref t) (dCol c) := .tup (.inl (.inl e)) (.cons (.str _) (.cons (.int _) .nil))
theorem ok_text : PyData.strOk "text" = true := by decide +kernel
theorem col_shaped (c : Nat) : SeqAt.shaped (dCol c) = true := by
  have h2 : PyData.depth (dCol c) ≤ 64 := by simp [dCol, PyData.depth, PyData.depthAll]
  show (PyData.canLay0 _ && decide (PyData.depth (dCol c) ≤ 64)) = true
  rw [Bool.and_eq_true]
  exact ⟨by simp [dCol, PyData.canLay0, PyData.canLayAll0, ok_text], decide_eq_true h2⟩
theorem col_eqv (c : Nat) : PyData.eqv (dCol c) (dCol c) = true := by simp [dCol, PyData.eqv, PyData.eqvAll]
def dTrip (x y z : Str) : PyData := .tuple [.str x, .str y, .str z]
/-- three texts in a tuple -/
theorem trip_dp {K : PySem.W.Frag} {H : Hp} {t : Addr} {x y z : Str} (e : H t = some (.tup [.str x, .str y, .str z])) : Dp K H (.ref t) (dTrip x y z) := .tup (.inl (.inl e)) (.cons (.str _) (.cons (.str _) (.cons (.str _) .nil)))
theorem trip_shaped {x y z : Str} (hx : PyData.strOk x = true) (hy : PyData.strOk y = true) (hz : PyData.strOk z = true) : SeqAt.shaped (dTrip x y z) = true := by
  have h2 : PyData.depth (dTrip x y z) ≤ 64 := by simp [dTrip, PyData.depth, PyData.depthAll]
  show (PyData.canLay0 _ && decide (PyData.depth (dTrip x y z) ≤ 64)) = true
  rw [Bool.and_eq_true]
  exact ⟨by simp [dTrip, PyData.canLay0, PyData.canLayAll0, hx, hy, hz], decide_eq_true h2⟩
theorem odd_strOk : ∀ d ∈ oddD, PyData.strOk d.shown = true := by
  intro d hd
  simp only [oddD, List.mem_cons, List.not_mem_nil, or_false] at hd
  rcases hd with rfl | rfl | rfl | rfl | rfl | rfl | rfl | rfl | rfl | rfl | rfl | rfl | rfl | rfl | rfl <;> decide +kernel
theorem ok_number : PyData.strOk "number" = true := by decide +kernel
theorem ok_ratio : PyData.strOk "ratio" = true := by decide +kernel
theorem trip_eqv (x y z : Str) : PyData.eqv (dTrip x y z) (dTrip x y z) = true := by simp [dTrip, PyData.eqv, PyData.eqvAll]
/-- what stands behind a name, for the law -/
structure LTxt (P : Program) (w : World) (K : PySem.W.Frag) (mg : Str → Option Value) (base : Heap) (C1 CN : Addr) : Prop where
  range : mg "range" = none
  repr : mg "repr" = none
  str : mg "str" = none
  len : mg "len" = none
  int : mg "int" = none
  pen : Kn P w K mg base "_law_pen" 1 ["_law_script"] (spPen K)
  draw : Kn P w K mg base "_law_draw" 1 ["_law_pen_here", "_law_many"] spDraw
  pick : Kn P w K mg base "_law_pick" 2 ["_law_pen_here", "_law_some"] (spPick K)
  q : Kn P w K mg base "_law_q" 2 ["_law_top", "_law_bottom"] spQ
  some' : Kn P w K mg base "_law_some_ratio" 4 ["_law_pen_here"] spSome2
  passed : Kn P w K mg base "_law_passed" 3 ["_law_pen_here", "_law_ratio"] spPassed
  any : Kn P w K mg base "_law_any" 3 ["_law_pen_here"] spAny
  col : Kn P w K mg base "_law_column" 1 ["_law_text"] spCol
  rt : KnX P w K mg base "ratio_text" 4 ["value"] (spRT CN)
  rof : KnX P w K mg base "ratio_of" 5 ["text"] (spRof C1)
section
variable {P : Program} {w : World} {K : PySem.W.Frag} {mg : Str → Option Value} {base : Heap}
theorem ok_law {f c Tb g CN C1 C2 C4 C5 C6 C7 : Addr} {oc kV doc pm ct goc gkV gdoc gpm gcdv gct : Value} {an od gan god : Option Addr} {osl gosl : Array (Option Value)}
    (look : K.lookup f = some ⟨oc, od, .func (PySem.W.fnOf "law" "law" (defArgs sLaw) (defBody sLaw) (defScope sLaw) .none kV doc pm an (.ref c) ct), osl⟩) (code : PySem.W.codeIn K (.ref c) "law" = true)
    (T : LTxt P w K mg base C1 CN) (WT : WTxt K mg CN C1 C2 C4 C5 C6 C7) (W2 : WTxt2 K C1)
    (mW : mg "_law_why" = some (.ref g)) (kW : PySem.W.keepIn K (.ref g) = true) (lkW : K.lookup g = some ⟨goc, god, .func (PySem.W.fnOf "_law_why" "_law_why" (defArgs sWhy) (defBody sWhy) (defScope sWhy) .none gkV gdoc gpm gan gcdv gct), gosl⟩) (cW : PySem.W.codeIn K gcdv "_law_why" = true)
    (bW : Binds K (PySem.W.fnOf "_law_why" "_law_why" (defArgs sWhy) (defBody sWhy) (defScope sWhy) .none gkV gdoc gpm gan gcdv gct) ["_law_call"] [])
    (TB : TabB base mg c Tb) :
    FnG P w K mg base 9 f (PySem.W.fnOf "law" "law" (defArgs sLaw) (defBody sLaw) (defScope sLaw) .none kV doc pm an (.ref c) ct) ["_law_script"] (spLaw K Tb) := by
  refine fnGC look code scLaw (fun vs H Q E h => ?_) (fun A outer s H vs Q E noG hr h => ?_)
  · obtain ⟨a, ns, rfl, _⟩ := h
    rfl
  · obtain ⟨a, ns, rfl, S, hl, tb, want⟩ := h
    have hr1 : Room 1 _ := hr.mono (by decide)
    have hr2 : Room 2 _ := hr.mono (by decide)
    have hr3 : Room 3 _ := hr.mono (by decide)
    have hr4 : Room 4 _ := hr.mono (by decide)
    have hr5 : Room 5 _ := hr.mono (by decide)
    have hr7 : Room (5 + 2) _ := hr.mono (by decide)
    have hu64 : (A.deeper (envOfC "law" (defScope sLaw) s.heap.objs.size f (.ref c))).units + 64 < cLine := by have := hr.un; omega
    have hu80 : (A.deeper (envOfC "law" (defScope sLaw) s.heap.objs.size f (.ref c))).units + 80 < cLine := by have := hr.un; omega
    have hu100 : (A.deeper (envOfC "law" (defScope sLaw) s.heap.objs.size f (.ref c))).units + 100 < cLine := by have := hr.un; omega
    have hg : (A.deeper (envOfC "law" (defScope sLaw) s.heap.objs.size f (.ref c))).guards = some [] := noG
    refine ⟨_, pss_cons (ps_set (i := 1) scLaw.nd rfl (.inl rfl) (pe_kn T.pen hr1 (pa_cons (pv 0) pa_nil)))
      (pss_cons (ps_set (i := 2) scLaw.nd rfl (.inl rfl) pe_str)
      (pss_cons (ps_for PassesOwn.never rfl (pi_range1 rfl T.range (pa_cons pe_int pa_nil)) (pg_name (i := 3) scLaw.nd rfl (.inl rfl))
        (pss_cons (ps_set (i := 4) scLaw.nd rfl (.inl rfl) (pe_kn T.some' hr4 (pa_cons (pv 1) pa_nil)))
        (pss_cons (ps_set (i := 5) scLaw.nd rfl (.inl rfl) (pe_op op_add_str (pe_callTy call_str_int (by rfl) T.str bStr (pa_cons (pe_ix ix_tup (pv 4) pe_int (fun _ _ => rfl)) pa_nil))
          (pe_ifExp (pt_cmpR op_eq (pe_ix ix_tup (pv 4) pe_int (fun _ _ => rfl)) pe_int (nomark _)) pe_str (pe_op op_add_str pe_str (pe_callTy call_str_int (by rfl) T.str bStr (pa_cons (pe_ix ix_tup (pv 4) pe_int (fun _ _ => rfl)) pa_nil))))))
        (pss_cons (ps_if (PW.pt (pw_or (pt_cmpR op_ne (pe_knX T.rt hr4 LamX.takes0 (E := fun _ _ _ => False) (fun _ _ _ _ z => z) (pa_cons (pe_kn T.passed hr3 (pa_cons (pv 1) (pa_cons (pv 4) pa_nil))) pa_nil)) (pv 5) (nomark _))
            (pw_or1 (pt_cmpR op_ne (pe_callB (call_reprD hg hu80) (by rfl) T.repr bRepr (pa_cons (pe_knX T.rof hr5 LamX.takes0 (E := fun _ _ _ => False) (fun _ _ _ _ z => z) (pa_cons (pv 5) pa_nil)) pa_nil)) (pe_callB (call_reprD hg hu80) (by rfl) T.repr bRepr (pa_cons (pv 4) pa_nil)) (nomark _))))) (pss_one (ps_ret pe_bl)) pss_nil)
        (pss_cons (ps_set (i := 6) scLaw.nd rfl (.inl rfl) (pe_op op_add pe_int (pe_kn T.draw hr1 (pa_cons (pv 1) (pa_cons pe_int pa_nil)))))
        (pss_cons (ps_set (i := 7) scLaw.nd rfl (.inr rfl) (pe_op op_add_str (pe_op op_add_str (pe_callTy call_str_int (by rfl) T.str bStr (pa_cons (pe_op op_mul (pv 6) (pe_ix ix_tup (pv 4) pe_int (fun _ _ => rfl))) pa_nil)) pe_str)
          (pe_callTy call_str_int (by rfl) T.str bStr (pa_cons (pe_op op_mul (pv 6) (pe_ix ix_tup (pv 4) pe_int (fun _ _ => rfl))) pa_nil))))
        (pss_cons (ps_set (i := 7) scLaw.nd rfl (.inr rfl) (pe_kn T.pick hr2 (pa_cons (pv 1) (pa_cons (pe_lst (pa_cons (pv 5) (pa_cons (pv 7) (pa_cons (pe_op op_add_str (pe_op op_sevens pe_str (pe_op op_add pe_int (pe_kn T.draw hr1 (pa_cons (pv 1) (pa_cons pe_int pa_nil))))) pe_str) pa_nil)))) pa_nil))))
        (pss_cons (ps_for PassesOwn.never rfl (pi_range1 rfl T.range (pa_cons (pe_kn T.draw hr1 (pa_cons (pv 1) (pa_cons pe_int pa_nil))) pa_nil)) (pg_name (i := 8) scLaw.nd rfl (.inl rfl))
          (pss_cons (ps_par (i := 9) (j := 10) rfl scLaw.nd rfl rfl (by decide) rfl rfl (pa_cons (pe_kn T.draw hr1 (pa_cons (pv 1) (pa_cons (pe_op op_add (pe_callB call_len_str (by rfl) T.len bLen (pa_cons (pv 7) pa_nil)) pe_int) pa_nil)))
            (pa_cons (pe_ix ix_str (pv 2) (pe_kn T.draw hr1 (pa_cons (pv 1) (pa_cons (pe_callB call_len_str (by rfl) T.len bLen (pa_cons (pv 2) pa_nil)) pa_nil))) (fun _ _ => rfl)) pa_nil)) rfl)
          (pss_one (ps_set (i := 7) scLaw.nd rfl (.inr rfl) (pe_op op_add_str (pe_op op_add_str (pe_slice sl_str (pv 7) po_none (po_some (pv 9))) (pv 10))
            (pe_slice sl_str (pv 7) (po_some (pe_op op_add (pv 9) (pe_kn T.draw hr1 (pa_cons (pv 1) (pa_cons pe_int pa_nil))))) po_none))))))
        (pss_cons (ps_set (i := 7) scLaw.nd rfl (.inr rfl) (pe_kn T.pick hr2 (pa_cons (pv 1) (pa_cons (pe_lst (pa_cons (pv 7) (pa_cons (pv 7) (pa_cons (pv 7) (pa_cons (pe_slice sl_str (pv 7) po_none (po_some (pe_kn T.draw hr1 (pa_cons (pv 1) (pa_cons (pe_op op_add (pe_callB call_len_str (by rfl) T.len bLen (pa_cons (pv 7) pa_nil)) pe_int) pa_nil))))) pa_nil))))) pa_nil))))
        (pss_cons (ps_set (i := 11) scLaw.nd rfl (.inl rfl) (pe_kn T.col hr1 (pa_cons (pv 7) pa_nil)))
        (pss_cons (ps_if (pt_cmpR (op_neD hu64)
            (pe_lamcall (T := [(Tb, qLam)]) (t := fun E => tCall (spRof C1) [] E (tCons (tVar 7) tNil)) rfl mW kW lkW cW bW scWhy rfl (.inl rfl) (why_gives2 WT W2 hg hu100) TB rfl (List.mem_singleton.mpr rfl) (fun p hp _ => by rw [List.mem_singleton.mp hp]; rfl) hr7 (lamS_by (by kernel_rfl)) rfl (fun _ _ _ _ _ => rfl)
              (fun A outer s H E f c' hr' => pe_knX T.rof (hr'.mono (by decide)) (takes_of rfl rfl rfl rfl) (fun _ _ _ _ z => z) (pa_cons (pv 7) pa_nil)))
            (pe_ifExp (pt_cmpR op_eq (pv 11) pe_int (nomark _)) pe_non (pe_tup (pa_cons pe_str (pa_cons (pv 11) pa_nil)))) (nomark _)) (pss_one (ps_ret pe_bl)) pss_nil)
        (pss_one (ps_if (pt_cmpR op_eq (pv 11) pe_int (nomark _))
          (pss_cons (ps_set (i := 12) scLaw.nd rfl (.inl rfl) (pe_split (pv 7) pe_str))
          (pss_one (ps_if (pt_cmpR op_ne (pe_callB (call_reprD hg hu80) (by rfl) T.repr bRepr (pa_cons (pe_knX T.rof hr5 LamX.takes0 (E := fun _ _ _ => False) (fun _ _ _ _ z => z) (pa_cons (pv 7) pa_nil)) pa_nil))
            (pe_callB (call_reprD hg hu80) (by rfl) T.repr bRepr (pa_cons (pe_kn T.q hr2 (pa_cons (pe_callTy call_int_str (by rfl) T.int bInt (pa_cons (pe_ix ix_list (pv 12) pe_int (fun _ _ => rfl)) pa_nil)) (pa_cons (pe_ifExp (pt_cmpR op_gt (pe_callB call_len_seq (by rfl) T.len bLen (pa_cons (pv 12) pa_nil)) pe_int (nomark _)) (pe_callTy call_int_str (by rfl) T.int bInt (pa_cons (pe_ix ix_list (pv 12) pe_int (fun _ _ => rfl)) pa_nil)) pe_int) pa_nil))) pa_nil)) (nomark _)) (pss_one (ps_ret pe_bl)) pss_nil)))
          pss_nil)))))))))))))
      (pss_cons (ps_set (i := 13) scLaw.nd rfl (.inr rfl) (pe_kn T.any hr3 (pa_cons (pv 1) pa_nil)))
      (pss_cons (ps_if (pt_cmpR (op_neD hu64)
            (pe_lamcall (T := [(Tb, qLam)]) (t := fun E => tCall (spRT CN) [] E (tCons (tVar 13) tNil)) rfl mW kW lkW cW bW scWhy rfl (.inl rfl) (why_gives2 WT W2 hg hu100) TB rfl (List.mem_singleton.mpr rfl) (fun p hp _ => by rw [List.mem_singleton.mp hp]; rfl) hr7 (lamS_by (by kernel_rfl)) rfl (fun _ _ _ _ _ => rfl)
              (fun A outer s H E f c' hr' => pe_knX T.rt (hr'.mono (by decide)) (takes_of rfl rfl rfl rfl) (fun _ _ _ _ z => z) (pa_cons (pv 13) pa_nil)))
            (pe_tup (pa_cons pe_str (pa_cons pe_str (pa_cons (pe_callB (call_reprD hg hu80) (by rfl) T.repr bRepr (pa_cons (pv 13) pa_nil)) pa_nil)))) (nomark _)) (pss_one (ps_ret pe_bl)) pss_nil)
      (pss_cons (ps_set (i := 13) scLaw.nd rfl (.inr rfl) (pe_kn T.pick hr2 (pa_cons (pv 1) (pa_cons (pe_lst (pa_cons pe_non (pa_cons pe_int (pa_cons pe_bl (pa_cons (pe_tup (pa_cons pe_int (pa_cons pe_int pa_nil))) (pa_cons (pe_lstM pa_nil) (pa_cons (pe_disp (pps_cons pe_str pe_int pps_nil) rfl rfl (by intro z; cases z) (by decide)) pa_nil))))))) pa_nil))))
      (pss_one (ps_ret (pe_and (pe_cmpR (op_eqD hu64)
            (pe_lamcall (T := [(Tb, qLam)]) (t := fun E => tCall (spRof C1) [] E (tCons (tVar 13) tNil)) rfl mW kW lkW cW bW scWhy rfl (.inl rfl) (why_gives2 WT W2 hg hu100) TB rfl (List.mem_singleton.mpr rfl) (fun p hp _ => by rw [List.mem_singleton.mp hp]; rfl) hr7 (lamS_by (by kernel_rfl)) rfl (fun _ _ _ _ _ => rfl)
              (fun A outer s H E f c' hr' => pe_knX T.rof (hr'.mono (by decide)) (takes_of rfl rfl rfl rfl) (fun _ _ _ _ z => z) (pa_cons (pv 13) pa_nil)))
            (pe_tup (pa_cons pe_str (pa_cons pe_int pa_nil))) (nomark _))
          (pe_and (pe_cmpR op_eq (pe_knX T.rt hr4 LamX.takes0 (E := fun _ _ _ => False) (fun _ _ _ _ z => z) (pa_cons pe_int pa_nil)) pe_str (nomark _))
            (pe_one (pe_cmpR (op_eqD hu64) (pe_knX T.rof hr5 LamX.takes0 (E := fun _ _ _ => False) (fun _ _ _ _ z => z) (pa_cons pe_str pa_nil)) (pe_tup (pa_cons pe_int (pa_cons pe_int pa_nil))) (nomark _)))))))))))), ?_⟩
    refine ⟨_, rfl, a, ns, rfl, S, hl, fun p l H1 P1 np nl S1 => ?_⟩
    have Q1 : Tabs [(Tb, qLam)] H1 := fun z hz => by
      rw [List.mem_singleton.mp hz]
      exact TabS.nil (S1 _ _ tb)
    refine ⟨8, rfl, by decide, by decide, for_range (n := 8) (fun i σ H' => ∃ (c : Int) (v3 v4 v5 v6 v7 v8 v9 v10 v11 v12 v13 : Option V), σ = [some (.ref a), some (.ref p), some (.str signs), v3, v4, v5, v6, v7, v8, v9, v10, v11, v12, v13] ∧ PenAt H' p l c ∧ c ≤ 100 * i ∧ Tabs [(Tb, qLam)] H')
      ⟨0, none, none, none, none, none, none, none, none, none, none, none, rfl, P1, by decide, Q1⟩ ?_ ?_⟩
    · rintro i σ H2 hi ⟨c0, v3, v4, v5, v6, v7, v8, v9, v10, v11, v12, v13, rfl, P2, hc, Q2⟩
      refine ⟨_, rfl, p, l, c0, rfl, P2, by omega, fun r a1 c3 H3 x1 x2 ma b1 b2 e1 n1 P3 K3 => ?_⟩
      have rp : r ≠ p := by
        obtain ⟨_, _, _, _, I⟩ := P3
        exact ne_of e1 I.obj (by intro z; cases z)
      have Q3 := Tabs.keep Q2 K3 P2
      clear K3 n1 P2 Q2
      -- due
      dsimp only [gName, tSeq, tAsg, List.set]
      refine ve_due (K := K) (r := r) (σ := [some (.ref a), some (.ref p), some (.str signs), some (.int (0 + (i : Int))), some (.ref r), v5, v6, v7, v8, v9, v10, v11, v12, v13]) (H := H3) rfl e1 b1 b2 _ fun H4 S4 => ?_
      have P4 := P3.same S4
      have Q4 := Tabs.same Q3 S4
      have e4 := S4 _ _ e1
      clear S4 P3 Q3 e1 H3
      -- ratio_text(passed) != due
      refine ⟨_, rfl, _, rfl, p, l, r, _, a1, rfl, P4, by omega, e4, ma, fun va dA c6 H6 z1 z2 P6 K6 DA isA raA smA => ?_⟩
      have e6 := K6 r _ rp e4
      have Q6 := Tabs.keep Q4 K6 P4
      refine ⟨va, dA, rfl, DA, smA, fun _ H7 S7 => ?_, fun z => by rw [isA] at z; cases z⟩
      rw [raA]
      refine ⟨_, rfl, rfl, _, rfl, ?_⟩
      rw [decide_eq_true rfl]
      refine iteF ?_
      have dq := due_eq (a := a1) ma.2.2.1
      have cd := due_right (t := a1.1) (b := a1.2) ma.2.2.1 (Nat.lt_of_le_of_lt b1 (by decide)) (Nat.lt_of_le_of_lt b2 (by decide))
      have vd := due_val (t := a1.1) (b := a1.2) ma.2.2.1 (Nat.lt_of_le_of_lt b1 (by decide)) (Nat.lt_of_le_of_lt b2 (by decide)) (lw_low ma.2.2.2)
      obtain ⟨w1, w2, w3⟩ := rat_ok ma.in250
      refine ⟨_, rfl, _, rfl, .inl ⟨dueL a1.1 a1.2, congrArg V.str dq, by rw [← T_len, ← dq]; exact Nat.le_trans (rT_len b1 b2) (by decide), fun _ p8 H8 e8 S8 => ?_, fun z => absurd cd z⟩⟩
      rw [vd] at e8
      refine ⟨_, dRat a1, rfl, da_rat e8, w1, w2, w3, _, rfl, _, dRat a1, rfl, da_rat (S8 _ _ (S7 _ _ e6)), w1, w2, w3, rfl, _, rfl, ?_⟩
      rw [decide_eq_true rfl]
      refine iteF ?_
      have S68 := L2.Same.trans S7 S8
      have P8 := P6.same S68
      have Q8 := Tabs.same Q6 S68
      have e9 := S68 _ _ e6
      clear e8 S68 S8 S7 P6 Q6 e6 K6 DA P4 Q4 e4
      -- by
      refine ⟨_, rfl, p, l, _, 9, rfl, P8, by decide, by decide, by omega, fun m H9 y1 y2 P9 K9 => ⟨_, _, rfl, rfl, ?_⟩⟩
      have e10 := K9 r _ rp e9
      have Q9 := Tabs.keep Q8 K9 P8
      clear K9 P8 Q8 e9
      -- text
      have cm : ∀ z : Int, CMul (1 + m) z := fun z => .inl ⟨by omega, by omega⟩
      have sm : ∀ z : Int, z.natAbs ≤ 10 ^ 18 → ((1 + m) * z).natAbs < 10 ^ 60 := fun z hz => by
        rw [Int.natAbs_mul]
        have q : (1 + m).natAbs ≤ 10 := by omega
        exact Nat.lt_of_le_of_lt (Nat.mul_le_mul q hz) (by decide)
      have l1 := nT_len2 (sm _ b1)
      have l2 := nT_len2 (sm _ b2)
      have e1 : (Str.ofString "/").length = 1 := by decide
      have l3 : (nT ((1 + m) * a1.1) ++ Str.ofString "/").length ≤ 62 := by rw [len_app, e1]; omega
      refine ⟨_, rfl, _, rfl, r, _, _, _, rfl, rfl, Evl.st_of e10, atI_nat (j := 0) rfl, _, _, rfl, rfl, cm _, _, rfl, log_small (sm _ b1), _, _, rfl, rfl, by show (nT ((1 + m) * a1.1)).length + (Str.ofString "/").length ≤ _; rw [e1, sizeLine_eq]; omega,
        _, rfl, _, rfl, r, _, _, _, rfl, rfl, Evl.st_of e10, atI_nat (j := 1) rfl, _, _, rfl, rfl, cm _, _, rfl, log_small (sm _ b2), _, _, rfl, rfl, by show (nT ((1 + m) * a1.1) ++ Str.ofString "/").length + (nT ((1 + m) * a1.2)).length ≤ _; rw [sizeLine_eq]; omega, ?_⟩
      have l4 : (nT ((1 + m) * a1.1) ++ Str.ofString "/" ++ nT ((1 + m) * a1.2)).length ≤ 130 := by rw [len_app]; omega
      have lr := rT_len b1 b2
      -- pick
      refine ⟨_, rfl, _, rfl, _, rfl, _, rfl, p, l, _, 3, rfl, P9, by decide, by decide, by omega, fun k H11 k0 k1 P11 K11 => ⟨_, _, rfl, rfl, _, rfl, rfl, by omega, fun z7 hz7 => ?_⟩⟩
      have e2 : (Str.ofString "/2").length = 2 := by decide
      refine ⟨_, _, rfl, rfl, by rw [e2, sizeLine_eq]; omega, (by show 3 ≤ sizeLine; rw [sizeLine_eq]; decide), fun LL nLL => ?_⟩
      refine ⟨p, l, LL, _, _, rfl, P11.new nLL, .inl (.inl upd_same), (by show 0 < 3; decide), (by show 3 < 1000000; decide), by omega, fun x H12 hx P12 K12 => ?_⟩
      obtain ⟨z, rfl, hz⟩ : ∃ z : Str, x = V.str z ∧ z.length ≤ 130 := by
        simp only [List.mem_cons, List.not_mem_nil, or_false] at hx
        rcases hx with rfl | rfl | rfl
        · exact ⟨_, rfl, by omega⟩
        · exact ⟨_, rfl, l4⟩
        · exact ⟨_, rfl, by rw [len_app, e2]; omega⟩
      have Q12 := Tabs.keep Q9 (K11.trans ((Keep.refl.new nLL).trans K12)) P9
      clear K11 K12 nLL P11 hz7 l4 l1 l2 l3 lr Q9 P9 hx cm sm
      -- turns
      refine ⟨_, rfl, p, l, _, 3, rfl, P12, by decide, by decide, by omega, fun k2 H13 t0 t1 P13 K13 => ?_⟩
      have Q13 := Tabs.keep Q12 K13 P12
      clear K13 P12 Q12
      obtain ⟨n2, rfl⟩ : ∃ n2 : Nat, k2 = (n2 : Int) := ⟨k2.toNat, (Int.toNat_of_nonneg t0).symm⟩
      refine ⟨n2, rfl, by omega, by omega, for_range (n := n2) (fun j σ H' => ∃ (c' : Int) (z' : Str) (v8' v9' v10' : Option V), σ = [some (.ref a), some (.ref p), some (.str signs), some (.int (0 + (i : Int))), some (.ref r), some (.str (rT a1)), some (.int (1 + m)), some (.str z'), v8', v9', v10', v11, v12, v13] ∧ z'.length + 1 ≤ 131 * 2 ^ j ∧ PenAt H' p l c' ∧ c' ≤ c6 + 10 + 5 * j ∧ Tabs [(Tb, qLam)] H')
        ⟨_, z, _, _, _, rfl, by show z.length + 1 ≤ 131 * 1; omega, P13, by omega, Q13⟩ ?_ ?_⟩
      · rintro j σ H14 hj ⟨c14, z', v8', v9', v10', rfl, hz', P14, hc14, Q14⟩
        have j2 : 2 ^ j ≤ 2 ^ 1 := Nat.pow_le_pow_right (by decide) (by omega)
        have zl : z'.length ≤ sizeLine := by rw [sizeLine_eq]; omega
        have sl : signs.length = 20 := by decide +kernel
        refine ⟨_, rfl, _, rfl, z', rfl, zl, _, _, rfl, rfl, p, l, _, _, rfl, P14, by omega, by omega, by omega, fun at' H15 a0 a2 P15 K15 => ?_⟩
        refine ⟨_, rfl, _, rfl, _, rfl, signs, rfl, by rw [sl, sizeLine_eq]; decide, p, l, _, _, rfl, P15, by rw [sl]; decide, by rw [sl]; decide, by omega, fun d H16 d0 d1 P16 K16 => ?_⟩
        rw [sl] at d1
        obtain ⟨dn, rfl⟩ : ∃ dn : Nat, d = (dn : Int) := ⟨d.toNat, (Int.toNat_of_nonneg d0).symm⟩
        have dl : dn < signs.cps.toList.length := by
          have : signs.cps.toList.length = 20 := by decide +kernel
          omega
        refine ⟨signs, _, signs.cps.toList[dn], rfl, rfl, by rw [sl, sizeLine_eq]; decide, atI_nat (List.getElem?_eq_getElem dl), _, _, rfl, ?_⟩
        have c1 := cutS_length z' none (some at')
        refine ⟨_, rfl, _, rfl, _, rfl, z', rfl, zl, _, rfl, _, _, rfl, rfl, ?_, ?_⟩
        · show (cutS z' none (some at')).length + 1 ≤ sizeLine
          rw [sizeLine_eq]
          omega
        refine ⟨_, rfl, _, rfl, _, rfl, p, l, _, 2, rfl, P16, by decide, by decide, by omega, fun q H17 q0 q1 P17 K17 => ?_⟩
        have c2 := cutS_length z' (some (at' + q)) none
        have c3 : (cutS z' none (some at') ++ (⟨#[signs.cps.toList[dn]]⟩ : Str)).length = (cutS z' none (some at')).length + 1 := len_app _ _
        refine ⟨_, _, rfl, rfl, _, rfl, z', rfl, zl, _, _, rfl, rfl, by rw [c3, sizeLine_eq]; omega, ?_⟩
        refine ⟨_, _, _, _, _, rfl, ?_, P17, by omega, Tabs.keep (Tabs.keep (Tabs.keep Q14 K15 P14) K16 P15) K17 P16⟩
        rw [len_app, c3, Nat.pow_succ]
        omega
      · rintro σ H14 ⟨c14, z', v8', v9', v10', rfl, hz', P14, hc14, Q14⟩
        have j2 : 2 ^ n2 ≤ 2 ^ 2 := Nat.pow_le_pow_right (by decide) (by omega)
        have zl : z'.length ≤ sizeLine := by rw [sizeLine_eq]; omega
        refine ⟨_, rfl, _, rfl, _, rfl, _, rfl, _, rfl, _, rfl, _, rfl, z', rfl, zl, _, _, rfl, rfl, p, l, _, _, rfl, P14, by omega, by omega, by omega, fun d H15 d0 d1 P15 K15 => ⟨_, rfl, z', rfl, zl, (by show 4 ≤ sizeLine; rw [sizeLine_eq]; decide), fun LL nLL => ?_⟩⟩
        refine ⟨p, l, LL, _, _, rfl, P15.new nLL, .inl (.inl upd_same), (by show 0 < 4; decide), (by show 4 < 1000000; decide), by omega, fun x H16 hx P16 K16 => ?_⟩
        obtain ⟨z2, rfl, hz2⟩ : ∃ z2 : Str, x = V.str z2 ∧ z2.length ≤ 524 := by
          simp only [List.mem_cons, List.not_mem_nil, or_false] at hx
          rcases hx with rfl | rfl | rfl | rfl
          · exact ⟨_, rfl, by omega⟩
          · exact ⟨_, rfl, by omega⟩
          · exact ⟨_, rfl, by omega⟩
          · exact ⟨_, rfl, Nat.le_trans (cutS_length _ _ _) (by omega)⟩
        have Q16 := Tabs.keep Q14 (K15.trans ((Keep.refl.new nLL).trans K16)) P14
        clear K15 K16 nLL P15 P14 Q14 hx
        have zT : z2 = GG.T (tl z2) := rfl
        have zL : (tl z2).length ≤ 524 := by rw [← len_tl]; exact hz2
        generalize tl z2 = L at zT zL
        subst zT
        -- column
        refine ⟨_, rfl, L, rfl, by omega, fun H17 S17 => ?_⟩
        have P17 := P16.same S17
        have Q17 := Tabs.same Q16 S17
        clear P16 Q16 S17
        have fin : ∀ (H' : Hp) (s12 : Option V), L2.Same H17 H' ∨ True → PenAt H' p l (c14 + 1 + 1) → Tabs [(Tb, qLam)] H' → ∃ (c : Int) (u3 u4 u5 u6 u7 u8 u9 u10 u11 u12 u13 : Option V), [some (.ref a), some (.ref p), some (.str signs), some (.int (0 + (i : Int))), some (.ref r), some (.str (rT a1)), some (.int (1 + m)), some (.str (GG.T L)), v8', v9', v10', some (.int (colOf L : Nat)), s12, v13] = [some (V.ref a), some (.ref p), some (.str signs), u3, u4, u5, u6, u7, u8, u9, u10, u11, u12, u13] ∧ PenAt H' p l c ∧ c ≤ 100 * ((i + 1 : Nat) : Int) ∧ Tabs [(Tb, qLam)] H' :=
          fun H' s12 _ P Q => ⟨_, _, _, _, _, _, _, _, _, _, _, _, rfl, P, by omega, Q⟩
        -- why(lambda: ratio_of(text))
        refine ⟨Q17, fun H18 X18 Q18 => ?_⟩
        have P18 := P17.ext X18
        clear X18 P17 Q17
        refine ⟨_, rfl, _, rfl, .inl ⟨L, rfl, by omega, fun c0 p1 H19 e19 S19 => ?_, fun c1 dd H19 e19 S19 => .inl ⟨rfl, dd, _, rfl, e19, fun p1 H20 e20 S20 => ?_⟩⟩⟩
        · have yes : decide (V.int (colOf L : Nat) = V.int 0) = true := decide_eq_true (by rw [c0]; rfl)
          refine ⟨_, rfl, rfl, _, rfl, ?_⟩
          rw [yes]
          refine iteT ⟨.none, .none, .non, .non, by decide, by decide, _, rfl, iteF ?_⟩
          refine ⟨_, rfl, rfl, _, rfl, ?_⟩
          rw [yes]
          refine iteT ⟨_, rfl, ⟨_, rfl⟩, _, _, rfl, rfl, by decide, by rw [T_len, sizeLine_eq]; omega, fun LP nLP => ?_⟩
          have S20 := GG.Same.new (o := .lst ((Txt.split (GG.T L) "/").map V.str)) S19 nLP
          have eLP : (upd H19 LP (.lst ((Txt.split (GG.T L) "/").map V.str))) LP = some (.lst ((Txt.split (GG.T L) "/").map V.str)) := upd_same
          generalize upd H19 LP (.lst ((Txt.split (GG.T L) "/").map V.str)) = H20 at S20 eLP ⊢
          have big : (2 : Nat) ^ 120 ≤ 2 ^ 250 := Nat.pow_le_pow_right (by decide) (by decide)
          refine ⟨_, rfl, _, rfl, .inl ⟨L, rfl, by omega, fun _ p2 H21 e21 S21 => ?_, fun z => absurd c0 z⟩⟩
          have S1821 := L2.Same.trans S20 S21
          rcases parts_of c0 with ⟨sp, i1, i2, i3, v⟩ | ⟨pa, pb, sp, i1, i2, i3, i4, i5, i6, i7, v⟩
          · rw [sp] at eLP
            have sq : SqL K H21 LP [.str (GG.T L)] := SqL.of (S21 _ _ eLP)
            have v' : valOf L = lw (intOf L) 1 := v.trans (lw_low (by unfold copr; exact Nat.gcd_one_right _)).symm
            have inn : in250 (lw (intOf L) 1) := lw_in (by decide) (Nat.lt_of_lt_of_le i2 big) (by decide)
            obtain ⟨w1, w2, w3⟩ := rat_ok inn
            rw [v'] at e21
            refine ⟨_, dRat (lw (intOf L) 1), rfl, da_rat e21, w1, w2, w3, _, rfl, LP, _, _, _, rfl, rfl, sq, atI_nat (j := 0) rfl, _, _, rfl, i1, by rw [T_len]; omega, ?_⟩
            refine ⟨_, rfl, LP, _, rfl, .inl sq, _, _, rfl, rfl, _, rfl, ?_⟩
            refine ite2 (fun z => absurd (of_decide_eq_true z) (show ¬ (1 : Int) < ((1 : Nat) : Int) by decide)) (fun _ => ?_)
            refine ⟨_, _, rfl, by decide, Nat.lt_of_lt_of_le i2 big, by decide, fun p3 np3 => ?_⟩
            refine ⟨_, dRat (lw (intOf L) 1), rfl, da_rat upd_same, w1, w2, w3, rfl, _, rfl, ?_⟩
            rw [decide_eq_true rfl]
            have S22 := GG.Same.new (o := .tup [.int (lw (intOf L) 1).1, .int (lw (intOf L) 1).2]) S1821 np3
            exact iteF (fin _ _ (.inr trivial) (P18.same S22) (Tabs.same Q18 S22))
          · rw [sp] at eLP
            have sq : SqL K H21 LP [.str (GG.T pa), .str (GG.T pb)] := SqL.of (S21 _ _ eLP)
            have inn : in250 (lw (intOf pa) (intOf pb)) := lw_in i5 (Nat.lt_of_lt_of_le i2 big) (Nat.lt_of_lt_of_le i6 big)
            obtain ⟨w1, w2, w3⟩ := rat_ok inn
            rw [v] at e21
            refine ⟨_, dRat (lw (intOf pa) (intOf pb)), rfl, da_rat e21, w1, w2, w3, _, rfl, LP, _, _, _, rfl, rfl, sq, atI_nat (j := 0) rfl, _, _, rfl, i1, by rw [T_len]; omega, ?_⟩
            refine ⟨_, rfl, LP, _, rfl, .inl sq, _, _, rfl, rfl, _, rfl, ?_⟩
            refine ite2 (fun _ => ?_) (fun z => absurd (decide_eq_true (show (1 : Int) < ((2 : Nat) : Int) by decide)) z)
            refine ⟨_, rfl, LP, _, _, _, rfl, rfl, sq, atI_nat (j := 1) rfl, _, _, rfl, i4, by rw [T_len]; omega, ?_⟩
            refine ⟨_, _, rfl, i5, Nat.lt_of_lt_of_le i2 big, Nat.lt_of_lt_of_le i6 big, fun p3 np3 => ?_⟩
            refine ⟨_, dRat (lw (intOf pa) (intOf pb)), rfl, da_rat upd_same, w1, w2, w3, rfl, _, rfl, ?_⟩
            rw [decide_eq_true rfl]
            have S22 := GG.Same.new (o := .tup [.int (lw (intOf pa) (intOf pb)).1, .int (lw (intOf pa) (intOf pb)).2]) S1821 np3
            exact iteF (fin _ _ (.inr trivial) (P18.same S22) (Tabs.same Q18 S22))
        · have S1920 := L2.Same.trans S19 S20
          refine ⟨_, rfl, rfl, _, rfl, ?_⟩
          have nz : decide (V.int (colOf L : Nat) = V.int 0) = false := decide_eq_false fun q => c1 (by have := V.int.inj q; omega)
          rw [nz]
          refine iteF ⟨_, rfl, (by show 2 ≤ sizeLine; rw [sizeLine_eq]; decide), fun p2 np2 => ?_⟩
          have S21 := GG.Same.new (o := .tup [.str "text", .int (colOf L : Nat)]) S1920 np2
          refine ⟨_, _, col_dp (by rw [upd_ne (ne_of_none e20 np2)]; exact e20), col_dp upd_same, col_shaped _, col_shaped _, _, rfl, ?_⟩
          rw [col_eqv]
          refine iteF ?_
          refine ⟨_, rfl, rfl, _, rfl, ?_⟩
          rw [nz]
          exact iteF (fin _ _ (.inr trivial) (P18.same S21) (Tabs.same Q18 S21))
    · rintro σ H2 ⟨c0, v3, v4, v5, v6, v7, v8, v9, v10, v11, v12, v13, rfl, P2, hc, Q2⟩
      refine ⟨_, rfl, p, l, c0, rfl, P2, by omega, fun vo dO H3 P3 K3 DO mO => ?_⟩
      have Q3 := Tabs.keep Q2 K3 P2
      clear K3 P2 Q2
      obtain ⟨oR, oS, oSh, oDp⟩ := odd_ok dO mO
      have oL := odd_len dO mO
      refine ⟨Q3, fun H4 X4 Q4 => ?_⟩
      have P4 := P3.ext X4
      have O4 := DO.ext X4
      clear X4 P3 Q3 DO
      refine ⟨_, rfl, vo, dO, rfl, O4, oS, (fun z => absurd (oR.symm.trans z) (by decide)), fun _ dd H5 ed G5 => .inr ⟨rfl, dd, vo, .str "ratio", dO, rfl, ed, O4.stay (Same.stay G5), ⟨oSh, oDp, oL⟩, fun w1 H6 ew G6 => ?_⟩⟩
      have G1 := L2.Same.trans G5 G6
      have O6 := O4.stay (Same.stay G1)
      refine ⟨_, rfl, vo, dO, rfl, O6, oSh, Nat.le_trans oDp (by decide), Nat.le_trans oL (by rw [sizeLine_eq]; decide), (by show 3 ≤ sizeLine; rw [sizeLine_eq]; decide), fun w2 nw2 => ?_⟩
      have G2 := Same.new (L2.Same.refl H6) nw2 (o := .tup [.str "number", .str "ratio", .str dO.shown])
      refine ⟨_, _, trip_dp (G2 _ _ ew), trip_dp upd_same, trip_shaped ok_number ok_ratio (odd_strOk dO mO), trip_shaped ok_number ok_ratio (odd_strOk dO mO), _, rfl, ?_⟩
      rw [trip_eqv]
      refine iteF ?_
      replace G2 := L2.Same.trans G1 G2
      generalize (upd H6 w2 (.tup [.str "number", .str "ratio", .str dO.shown])) = H7 at G2 ⊢
      have P7 := P4.same G2
      have Q7 := Tabs.same Q4 G2
      clear G2 G1 O6 P4 Q4 O4 G5 G6 ew ed nw2
      -- the last odd one
      refine ⟨_, rfl, (by show 2 ≤ sizeLine; rw [sizeLine_eq]; decide), fun t1 nt1 => ⟨(by show 0 ≤ sizeLine; exact Nat.zero_le _), fun t2 nt2 ns2 => ?_⟩⟩
      intro t3 nt3
      refine ⟨upd_same, [(.inr "a", .int 1)], rfl, (by show 1 ≤ 15; decide), ?_⟩
      have eqh : ∀ G : Hp, upd (upd G t3 (.dK [])) t3 (.dK (mergeK [] [((.inr "a" : Key), V.int 1)])) = upd G t3 (.dK [(.inr "a", .int 1)]) := fun G => by rw [show mergeK [] [((.inr "a" : Key), V.int 1)] = [(.inr "a", .int 1)] from by kernel_rfl, upd_upd]
      rw [eqh]
      refine ⟨(by show 6 ≤ sizeLine; rw [sizeLine_eq]; decide), fun LL nLL => ?_⟩
      have at1 : Da (upd H7 t1 (.tup [.int 1, .int 2])) (.ref t1) (.tuple [.int 1, .int 2]) := .tup upd_same (.cons (.int _) (.cons (.int _) .nil))
      have at2 : Da (upd (upd H7 t1 (.tup [.int 1, .int 2])) t2 (.lst [])) (.ref t2) (.list []) := .lst upd_same ns2 .nil
      have Pc := (((P7.new nt1).new nt2).new nt3).new nLL (o := .lst [.non, .int 5, .bl true, .ref t1, .ref t2, .ref t3])
      have Kc : Keep p H7 _ := (((Keep.refl.new nt1 (o := .tup [.int 1, .int 2])).new nt2 (o := .lst [])).new nt3 (o := .dK [(.inr "a", .int 1)])).new nLL (o := .lst [.non, .int 5, .bl true, .ref t1, .ref t2, .ref t3])
      have at3 : Da (upd (upd (upd H7 t1 (.tup [.int 1, .int 2])) t2 (.lst [])) t3 (.dK [(.inr "a", .int 1)])) (.ref t3) (.dict [(.str "a", .int 1)]) := .dic upd_same (.int 1)
      have dt1 := ((at1.stay (Stay.new Stay.refl nt2 (o := .lst []))).stay (Stay.new Stay.refl nt3 (o := .dK [(.inr "a", .int 1)]))).stay (Stay.new Stay.refl nLL (o := .lst [.non, .int 5, .bl true, .ref t1, .ref t2, .ref t3]))
      have dt2 := (at2.stay (Stay.new Stay.refl nt3 (o := .dK [(.inr "a", .int 1)]))).stay (Stay.new Stay.refl nLL (o := .lst [.non, .int 5, .bl true, .ref t1, .ref t2, .ref t3]))
      have dt3 := at3.stay (Stay.new Stay.refl nLL (o := .lst [.non, .int 5, .bl true, .ref t1, .ref t2, .ref t3]))
      refine ⟨p, l, LL, _, _, rfl, Pc, .inl (.inl upd_same), (by show 0 < 6; decide), (by show 6 < 1000000; decide), by omega, fun x H8 hx P8 K8 => ?_⟩
      have Q8 := Tabs.keep Q7 (Kc.trans K8) P7
      obtain ⟨d, da, nd⟩ : ∃ d, Da H8 x d ∧ isS d = false := by
        simp only [List.mem_cons, List.not_mem_nil, or_false] at hx
        rcases hx with rfl | rfl | rfl | rfl | rfl | rfl
        · exact ⟨_, .non, rfl⟩
        · exact ⟨_, .int _, rfl⟩
        · exact ⟨_, .bl _, rfl⟩
        · exact ⟨_, dt1.stay (K8.stay Pc), rfl⟩
        · exact ⟨_, dt2.stay (K8.stay Pc), rfl⟩
        · exact ⟨_, dt3.stay (K8.stay Pc), rfl⟩
      clear dt1 dt2 dt3 at1 at2 at3 Kc K8 Pc Q7 hx
      refine ⟨Q8, fun H9 X9 Q9 => ?_⟩
      refine ⟨_, rfl, x, rfl, .inr ⟨d, da.ext X9, nd, fun dd H10 e10 S10 => .inl ⟨rfl, dd, _, rfl, e10, fun p1 H11 e11 S11 => ?_⟩⟩⟩
      refine ⟨(by show 2 ≤ sizeLine; rw [sizeLine_eq]; decide), fun p2 np2 => ?_⟩
      refine ⟨_, _, col_dp (c := 0) (by rw [upd_ne (ne_of_none e11 np2)]; exact e11), col_dp (c := 0) upd_same, col_shaped 0, col_shaped 0, _, rfl, ?_⟩
      rw [col_eqv]
      refine iteT ?_
      refine ⟨_, .int 0, rfl, .int 0, (by show (0 : Int).natAbs < 2 ^ 120; decide), fun _ H12 S12 => ?_, fun z => absurd z (by decide)⟩
      refine ⟨rfl, _, rfl, ?_⟩
      rw [show decide (V.str (rT (ratOf (.int 0))) = V.str "0") = true from by decide +kernel]
      refine iteT ?_
      have c00 : colOf [45, 48] = 0 := by decide +kernel
      have v00 : valOf [45, 48] = (0, 1) := by
        have q := PySem.intText_neg (x := GG.T [45, 48]) (cs := [48]) rfl (fun c hc => by
          have := List.mem_singleton.mp hc
          omega) (by decide) (by decide)
        unfold valOf
        rw [show par [47] [] [45, 48] = none from by decide +kernel]
        show (intOf [45, 48], (1 : Int)) = (0, 1)
        unfold intOf
        rw [q]
        rfl
      refine ⟨_, rfl, .inl ⟨[45, 48], by decide +kernel, by decide, fun _ p3 H13 e13 S13 => ?_, fun z => absurd c00 z⟩⟩
      rw [v00] at e13
      refine ⟨(by show 2 ≤ sizeLine; rw [sizeLine_eq]; decide), fun p4 np4 => ?_⟩
      refine ⟨.tuple [.int 0, .int 1], .tuple [.int 0, .int 1], .tup (.inl (.inl (by rw [upd_ne (ne_of_none e13 np4)]; exact e13))) (.cons (.int _) (.cons (.int _) .nil)), .tup (.inl (.inl upd_same)) (.cons (.int _) (.cons (.int _) .nil)), by decide +kernel, by decide +kernel, ?_⟩
      rw [show PyData.eqv (.tuple [.int 0, .int 1]) (.tuple [.int 0, .int 1]) = true from by decide +kernel]
      exact want _
end
end GG

namespace GG
open PySem PySem.Spec PyProof.Rows L2 LamX TL
theorem def_mk {K : PySem.W.Frag} {h : Heap} {mg : Str → Option Value} (X : K.In h) (G : h.Ns mainGlobals mg) {x : Str} {st : Stmt} {f : Addr} {od an : Option Addr} {sl : Array (Option Value)} {oc kV dc pm cd ct : Value}
    (a : PySem.W.nsIn K mainGlobals x = some (some (.ref f))) (l : K.lookup f = some ⟨oc, od, .func (PySem.W.fnOf x x (defArgs st) (defBody st) (defScope st) .none kV dc pm an cd ct), sl⟩) (c : PySem.W.codeIn K cd x = true) (k : PySem.W.keepIn K (.ref f) = true) : DefIs K mg x st :=
  ⟨f, _, fun_mk (st := st) l c k, PySem.W.mg_of X G a⟩
theorem ext_mk {K : PySem.W.Frag} {C : Addr} {nm q : Str} {N : Addr} {bs bm : List Value} {sn : List Str} {sub : List Value} {ab : Bool} {col : Option Bool} {dd : Option Addr} {k0 k1 k2 k3 k5 : Option Value}
    (l : K.lookup C = some (excClassObj nm q C N bs bm true sn sub ab col dd k0 k1 k2 k3 k5 "ValueError.__new__")) (r : PySem.HandSPX.refsVE bm = true) (sa : PySem.W.findIn K (.ref C) "__setattr__" = some (some (.builtin "object.__setattr__")))
    (ex : PySem.W.subIn K (.ref C) (.type "BaseException") = some true) (ty : PySem.W.typeIn K (.ref C) = some (.type "type")) (kp : PySem.W.keepIn K (.ref C) = true) (ga : PySem.W.findIn K (.ref C) "__getattribute__" = some (some (.builtin "BaseException.__getattribute__")))
    (gg : PySem.W.findIn K (.ref C) "__getattr__" = some none) (hd : PySem.W.hasDictIn K C = true) (cl : PySem.W.findIn K (.ref C) "__class__" = some (some (.builtin "object.__class__"))) (mo : PySem.W.mroIn K C (.type "object") = some true)
    (oc : PySem.W.specialIn K (.builtin "object.__class__") "__get__" = some (some (.builtin "getset_descriptor.__get__"))) (ot : PySem.W.takesIn K (.builtin "object.__class__") = some true) : ExT K C :=
  ⟨⟨⟨nm, q, N, bs, bm, sn, sub, ab, col, dd, k0, k1, k2, k3, k5, l, r⟩, sa, ex, ty, kp⟩, ga, gg, hd, cl, mo, oc, ot⟩
theorem tab_mk {K : PySem.W.Frag} {x : Str} {st : Stmt} {f c T : Addr} {od an : Option Addr} {sl sl2 : Array (Option Value)} {oc kV dc pm ct e2 : Value} {dd : Option Addr} {vs : Array Value}
    (a : PySem.W.nsIn K mainGlobals x = some (some (.ref f))) (l : K.lookup f = some ⟨oc, od, .func (PySem.W.fnOf x x (defArgs st) (defBody st) (defScope st) .none kV dc pm an (.ref c) ct), sl⟩)
    (lc : K.lookup c = some ⟨e2, dd, .fields vs, sl2⟩) (v : vs[11]? = some (.ref T)) : PySem.W.tabIn K x = some (c, T) := by
  unfold PySem.W.tabIn
  rw [a]
  dsimp only
  rw [l]
  dsimp only [PySem.W.fnOf]
  rw [lc]
  dsimp only
  rw [v]
theorem all_mk {l : PySem.W.OpenLaw} {w : World} {K : PySem.W.Frag} {h : Heap} {mg : Str → Option Value} {fa : Addr} (X : K.In h) (G : h.Ns mainGlobals mg) (hfa : mg "law" = some (.ref fa)) {CN C1 C2 C4 C5 C6 C7 fI fB g f35 c T : Addr} {bod ban : Option Addr} {bsl : Array (Option Value)} {boc bkV bdc bpm bcd bct : Value}
    {iod ian god gan od an dd : Option Addr} {isl gsl sl sl2 : Array (Option Value)} {ioc ikV idc ipm icd ict goc gkV gdc gpm gcd gct oc kV dc pm ct e2 : Value} {vs : Array Value}
    (d13 : DefIs K mg "is_whole" sWhole) (d14 : DefIs K mg "is_ratio" sRatio) (d15 : DefIs K mg "lowest" sLow) (d16 : DefIs K mg "told" sTold) (d17 : DefIs K mg "whole_text" sWT) (d18 : DefIs K mg "ratio_text" sRT) (d19 : DefIs K mg "digit_at" sDigit) (d20 : DefIs K mg "number_end" sNumE) (d21 : DefIs K mg "behind_sign" sSign) (d22 : DefIs K mg "unsigned_end" sUns) (d23 : DefIs K mg "value_of" sVal) (d24 : DefIs K mg "ratio_of" sRof) (d26 : DefIs K mg "_law_pen" sPen) (d27 : DefIs K mg "_law_draw" sDraw) (d28 : DefIs K mg "_law_pick" sPick) (d29 : DefIs K mg "_law_gcd" sGcd) (d30 : DefIs K mg "_law_q" sQ) (d31 : DefIs K mg "_law_passed" sPassed) (d32 : DefIs K mg "_law_any" sAny) (d33 : DefIs K mg "_law_far" sFar) (d34 : DefIs K mg "_law_some_ratio" sSome) (d36 : DefIs K mg "_law_column" sCol)
    (aN : PySem.W.nsIn K mainGlobals "BadNumber" = some (some (.ref CN))) (tN : ExT K CN) (n1 : PySem.W.findIn K (.ref CN) "what" = some none) (n2 : PySem.W.findIn K (.ref CN) "number" = some none)
    (iN : PySem.W.findIn K (.ref CN) "__init__" = some (some (.ref fI))) (tiN : PySem.W.typeIn K (.ref fI) = some (.type "function")) (lI : K.lookup fI = some ⟨ioc, iod, .func (PySem.W.fnOf "__init__" "BadNumber.__init__" (defArgs sBN) (defBody sBN) (defScope sBN) .none ikV idc ipm ian icd ict), isl⟩) (cI : PySem.W.codeIn K icd "BadNumber.__init__" = true) (kI : PySem.W.keepIn K (.ref fI) = true)
    (tB : ExT K C1) (n3 : PySem.W.findIn K (.ref C1) "column" = some none) (iB : PySem.W.findIn K (.ref C1) "__init__" = some (some (.ref fB))) (tiB : PySem.W.typeIn K (.ref fB) = some (.type "function")) (lB : K.lookup fB = some ⟨boc, bod, .func (PySem.W.fnOf "__init__" "BadText.__init__" (defArgs sBT) (defBody sBT) (defScope sBT) .none bkV bdc bpm ban bcd bct), bsl⟩) (cB : PySem.W.codeIn K bcd "BadText.__init__" = true) (kB : PySem.W.keepIn K (.ref fB) = true) (aD : ∃ t, PySem.W.nsIn K mainGlobals "DIGITS" = some (some (.str "0123456789" t))) (aM : ∃ t, PySem.W.nsIn K mainGlobals "MOST_DIGITS" = some (some (.int 20 t)))
    (a1 : PySem.W.nsIn K mainGlobals "BadText" = some (some (.ref C1))) (a2 : PySem.W.nsIn K mainGlobals "BadLine" = some (some (.ref C2))) (a4 : PySem.W.nsIn K mainGlobals "BadRow" = some (some (.ref C4))) (a5 : PySem.W.nsIn K mainGlobals "TooMany" = some (some (.ref C5))) (a6 : PySem.W.nsIn K mainGlobals "Unlike" = some (some (.ref C6))) (a7 : PySem.W.nsIn K mainGlobals "NoBuyer" = some (some (.ref C7)))
    (x1 : PySem.W.exmOne K (.ref CN) (.ref C1) = some false) (x2 : PySem.W.exmOne K (.ref CN) (.ref C2) = some false) (x3 : PySem.W.exmOne K (.ref CN) (.ref CN) = some true) (x4 : PySem.W.exmOne K (.ref C1) (.ref C1) = some true)
    (aW : PySem.W.nsIn K mainGlobals "_law_why" = some (some (.ref g))) (lW : K.lookup g = some ⟨goc, god, .func (PySem.W.fnOf "_law_why" "_law_why" (defArgs sWhy) (defBody sWhy) (defScope sWhy) .none gkV gdc gpm gan gcd gct), gsl⟩) (cW : PySem.W.codeIn K gcd "_law_why" = true) (kW : PySem.W.keepIn K (.ref g) = true)
    (a35 : PySem.W.nsIn K mainGlobals "law" = some (some (.ref f35))) (l35 : K.lookup f35 = some ⟨oc, od, .func (PySem.W.fnOf "law" "law" (defArgs sLaw) (defBody sLaw) (defScope sLaw) .none kV dc pm an (.ref c) ct), sl⟩) (c35 : PySem.W.codeIn K (.ref c) "law" = true) (k35 : PySem.W.keepIn K (.ref f35) = true)
    (lc : K.lookup c = some ⟨e2, dd, .fields vs, sl2⟩) (vT : vs[11]? = some (.ref T)) (noT : K.lookup T = none)
    (z_int : PySem.W.nsIn K mainGlobals "int" = some none) (z_list : PySem.W.nsIn K mainGlobals "list" = some none) (z_len : PySem.W.nsIn K mainGlobals "len" = some none) (z_range : PySem.W.nsIn K mainGlobals "range" = some none) (z_abs : PySem.W.nsIn K mainGlobals "abs" = some none) (z_bool : PySem.W.nsIn K mainGlobals "bool" = some none) (z_tuple : PySem.W.nsIn K mainGlobals "tuple" = some none) (z_isinstance : PySem.W.nsIn K mainGlobals "isinstance" = some none) (z_repr : PySem.W.nsIn K mainGlobals "repr" = some none) (z_str : PySem.W.nsIn K mainGlobals "str" = some none) (z_divmod : PySem.W.nsIn K mainGlobals "divmod" = some none) (z_enumerate : PySem.W.nsIn K mainGlobals "enumerate" = some none) (zg : PySem.W.nsIn K mainGlobals "gcd" = some (some (.builtin "math.gcd"))) :
    ∃ (fd : FuncData) (c T : Addr), PySem.W.tabIn K "law" = some (c, T) ∧ K.lookup T = none ∧ (∀ (s : Shared) (v : Value), BindsTo s fd ⟨[v], []⟩ [("_law_script", v)]) ∧ ∀ base : Heap, K.In base → base.Ns mainGlobals mg → TabB base mg c T → FnG l.prog w K mg base 9 fa fd ["_law_script"] (spLaw K T) := by
  have e := hfa.symm.trans (PySem.W.mg_of X G a35)
  cases e
  have n := fun {x : Str} (z : PySem.W.nsIn K mainGlobals x = some none) => PySem.W.mg_none_of X G z
  have m := fun {x : Str} {v : Value} (z : PySem.W.nsIn K mainGlobals x = some (some v)) => PySem.W.mg_of X G z
  refine ⟨PySem.W.fnOf "law" "law" (defArgs sLaw) (defBody sLaw) (defScope sLaw) .none kV dc pm an (.ref c) ct, c, T, tab_mk a35 l35 lc vT, noT, fun s v => .of_eq rfl, fun base _ _ TB => ?_⟩
  have R : RTxt K mg := ⟨n z_int, n z_bool, n z_tuple, n z_list, n z_len, n z_isinstance, m zg⟩
  have PT : PTxt K mg := ⟨n z_int, n z_list, n z_len⟩
  have N : BNTxt l.prog w K mg base CN := bn_of (m aN) tN n1 n2 iN tiN (fun_mk (st := sBN) lI cI kI)
  have B1 : Kn l.prog w K mg base "is_whole" 1 _ _ := kn_whole d13 R
  have B2 : Kn l.prog w K mg base "is_ratio" 2 _ _ := kn_ratio d14 R B1
  have B3 : Kn l.prog w K mg base "lowest" 1 _ _ := kn_low d15 R
  have B4 : KnX l.prog w K mg base "told" 3 _ _ := kn_told d16 R N B2 B3
  have BT : BTTxt l.prog w K mg base C1 := bt_of (m a1) tB n3 iB tiB (fun_mk (st := sBT) lB cB kB)
  have DT : DTxt mg := ⟨n z_len, (by obtain ⟨t, h⟩ := aD; exact ⟨t, m h⟩), (by obtain ⟨t, h⟩ := aM; exact ⟨t, m h⟩)⟩
  have E1 := kn_digit (P := l.prog) (w := w) (base := base) d19 DT
  have E2 := kn_numE d20 DT BT E1
  have E3 := kn_sign (P := l.prog) (w := w) (base := base) d21
  have E4 := kn_uns d22 BT E2
  have E5 := kn_val d23 R B3
  have E6 := kn_rof d24 R DT (n z_str) BT E3 E4 E5
  have WTt : WTT K mg := ⟨n z_str, n z_divmod⟩
  have W1 : Kn l.prog w K mg base "whole_text" 1 ["number"] spNo := kn_wt0 d17
  have W2' : Kn l.prog w K mg base "whole_text" 2 ["number"] (spWT true) := wt_body d17 WTt W1 (fun z => by cases z)
  have W3 : Kn l.prog w K mg base "whole_text" 3 ["number"] (spWT false) := wt_body d17 WTt W2' (fun _ => rfl)
  have E7 := kn_rt d18 B4 W3
  have L1 : Kn l.prog w K mg base "_law_draw" 1 _ _ := kn_draw d27 PT
  have L2' : Kn l.prog w K mg base "_law_pick" 2 _ _ := kn_pick d28 PT L1
  have L3 : Kn l.prog w K mg base "_law_far" 3 _ _ := kn_far d33 (n z_range) L1 L2'
  have L4 : Kn l.prog w K mg base "_law_gcd" 1 _ _ := kn_gcd d29 (n z_abs) (n z_range) (n z_int)
  have L5 : Kn l.prog w K mg base "_law_q" 2 _ _ := kn_q d30 L4
  have LT : LTxt l.prog w K mg base C1 CN := ⟨n z_range, n z_repr, n z_str, n z_len, n z_int, kn_pen d26 PT, L1, L2', L5, kn_some2 d34 (n z_abs) L3 L5, kn_passed d31 L1 L2', kn_any d32 L2', kn_col d36 (n z_len) (n z_enumerate), E7, E6⟩
  have WT : WTxt K mg CN C1 C2 C4 C5 C6 C7 := ⟨m a1, m a2, m aN, m a4, m a5, m a6, m a7, x1, x2, x3, tN, n1, n2, n z_repr⟩
  exact ok_law l35 c35 LT WT ⟨tB, n3, x4⟩ (m aW) kW lW cW ((fun_mk (st := sWhy) lW cW kW).binds fun _ _ _ _ _ _ us hl => match us, hl with | [_], _ => rfl) TB
theorem walkL {l : PySem.W.OpenLaw} {q : Program} {loose : List Str} {XP : (Str → Option Value) → Heap → Prop} {YP : World → Heap → Prop} {d : DefRec} {K : Params → PySem.W.Frag} (hn : l.most = some 63) (dflt : d.params.defaults = []) (nm : d.name = "law") (recd : ((recsOf q).find? (fun e => e.name == d.name)).isSome = true) (inY : ∀ (w : World) (h : Heap), YP w h → (K w.params).In h)
    (F : ∀ (w : World) (mg : Str → Option Value) (fa : Addr) (h : Heap), (K w.params).In h → h.Ns mainGlobals mg → mg "law" = some (.ref fa) →
      ∃ (fd : FuncData) (c T : Addr), PySem.W.tabIn (K w.params) "law" = some (c, T) ∧ (K w.params).lookup T = none ∧ (∀ (s : Shared) (u : Value), BindsTo s fd ⟨[u], []⟩ [("_law_script", u)]) ∧ ∀ base : Heap, (K w.params).In base → base.Ns mainGlobals mg → TabB base mg c T → FnG l.prog w (K w.params) mg base 9 fa fd ["_law_script"] (spLaw (K w.params) T)) :
    PySem.W.WalkO q loose XP YP l.row.toRowW d [] (fun f vs => PySem.call f vs) :=
  walkGT (n := 63) (k := 9) (x := "_law_script") (sp := fun w T => spLaw (K w.params) T) hn (by decide) dflt ⟨rfl, by decide, by decide⟩ (Option.isSome_iff_exists.mp recd) inY (by rw [nm]; exact F) fun _ _ a T ns hl _ tb hS => ⟨a, ns, rfl, hS, hl, tb, fun _ => rfl⟩
end GG

open PySem PySem.W PyProof.Rows in
set_option maxRecDepth 100000 in
set_option maxHeartbeats 0 in
theorem PySem.Challenge.cw_allbids_k02_whole_texts_of_ratios_holds : PySem.Challenge.rw_allbids_k02_whole_texts_of_ratios.Holds := by
  w_on; o_law; k_head; (case hw => w_witness2)
  k_fill
  refine GG.walkL (l := PySem.Challenge.rw_allbids_k02_whole_texts_of_ratios) rfl rfl rfl ?R (fun w h Y => PySem.W.km_in_of Y) ?F
  case R => kernel_rfl
  case F =>
    intro w mg fa h KX G hmg
    refine' GG.all_mk KX G hmg (d13 := ?d13) (d14 := ?d14) (d15 := ?d15) (d16 := ?d16) (d17 := ?d17) (d18 := ?d18) (d19 := ?d19) (d20 := ?d20) (d21 := ?d21) (d22 := ?d22) (d23 := ?d23) (d24 := ?d24) (d26 := ?d26) (d27 := ?d27) (d28 := ?d28) (d29 := ?d29) (d30 := ?d30) (d31 := ?d31) (d32 := ?d32) (d33 := ?d33) (d34 := ?d34) (d36 := ?d36) (aN := ?aN) (tN := ?tN) (n1 := ?n1) (n2 := ?n2) (iN := ?iN) (tiN := ?tiN) (lI := ?lI) (cI := ?cI) (kI := ?kI) (a1 := ?a1) (a2 := ?a2) (a4 := ?a4) (a5 := ?a5) (a6 := ?a6) (a7 := ?a7) (tB := ?tB) (n3 := ?n3) (iB := ?iB) (tiB := ?tiB) (lB := ?lB) (cB := ?cB) (kB := ?kB) (aD := ?aD) (aM := ?aM) (x1 := ?x1) (x2 := ?x2) (x3 := ?x3) (x4 := ?x4) (aW := ?aW) (lW := ?lW) (cW := ?cW) (kW := ?kW) (a35 := ?a35) (l35 := ?l35) (c35 := ?c35) (k35 := ?k35) (lc := ?lc) (vT := ?vT) (noT := ?noT) (z_int := ?z_int) (z_list := ?z_list) (z_len := ?z_len) (z_range := ?z_range) (z_abs := ?z_abs) (z_bool := ?z_bool) (z_tuple := ?z_tuple) (z_isinstance := ?z_isinstance) (z_repr := ?z_repr) (z_str := ?z_str) (z_divmod := ?z_divmod) (z_enumerate := ?z_enumerate) (zg := ?zg)
    (case d13 => (refine' GG.def_mk KX G ?a ?l ?c ?k; (case a => k_is); (case l => k_is); (case c => k_is); (case k => k_is)))
    (case d14 => (refine' GG.def_mk KX G ?a ?l ?c ?k; (case a => k_is); (case l => k_is); (case c => k_is); (case k => k_is)))
    (case d15 => (refine' GG.def_mk KX G ?a ?l ?c ?k; (case a => k_is); (case l => k_is); (case c => k_is); (case k => k_is)))
    (case d16 => (refine' GG.def_mk KX G ?a ?l ?c ?k; (case a => k_is); (case l => k_is); (case c => k_is); (case k => k_is)))
    (case d17 => (refine' GG.def_mk KX G ?a ?l ?c ?k; (case a => k_is); (case l => k_is); (case c => k_is); (case k => k_is)))
    (case d18 => (refine' GG.def_mk KX G ?a ?l ?c ?k; (case a => k_is); (case l => k_is); (case c => k_is); (case k => k_is)))
    (case d19 => (refine' GG.def_mk KX G ?a ?l ?c ?k; (case a => k_is); (case l => k_is); (case c => k_is); (case k => k_is)))
    (case d20 => (refine' GG.def_mk KX G ?a ?l ?c ?k; (case a => k_is); (case l => k_is); (case c => k_is); (case k => k_is)))
    (case d21 => (refine' GG.def_mk KX G ?a ?l ?c ?k; (case a => k_is); (case l => k_is); (case c => k_is); (case k => k_is)))
    (case d22 => (refine' GG.def_mk KX G ?a ?l ?c ?k; (case a => k_is); (case l => k_is); (case c => k_is); (case k => k_is)))
    (case d23 => (refine' GG.def_mk KX G ?a ?l ?c ?k; (case a => k_is); (case l => k_is); (case c => k_is); (case k => k_is)))
    (case d24 => (refine' GG.def_mk KX G ?a ?l ?c ?k; (case a => k_is); (case l => k_is); (case c => k_is); (case k => k_is)))
    (case d26 => (refine' GG.def_mk KX G ?a ?l ?c ?k; (case a => k_is); (case l => k_is); (case c => k_is); (case k => k_is)))
    (case d27 => (refine' GG.def_mk KX G ?a ?l ?c ?k; (case a => k_is); (case l => k_is); (case c => k_is); (case k => k_is)))
    (case d28 => (refine' GG.def_mk KX G ?a ?l ?c ?k; (case a => k_is); (case l => k_is); (case c => k_is); (case k => k_is)))
    (case d29 => (refine' GG.def_mk KX G ?a ?l ?c ?k; (case a => k_is); (case l => k_is); (case c => k_is); (case k => k_is)))
    (case d30 => (refine' GG.def_mk KX G ?a ?l ?c ?k; (case a => k_is); (case l => k_is); (case c => k_is); (case k => k_is)))
    (case d31 => (refine' GG.def_mk KX G ?a ?l ?c ?k; (case a => k_is); (case l => k_is); (case c => k_is); (case k => k_is)))
    (case d32 => (refine' GG.def_mk KX G ?a ?l ?c ?k; (case a => k_is); (case l => k_is); (case c => k_is); (case k => k_is)))
    (case d33 => (refine' GG.def_mk KX G ?a ?l ?c ?k; (case a => k_is); (case l => k_is); (case c => k_is); (case k => k_is)))
    (case d34 => (refine' GG.def_mk KX G ?a ?l ?c ?k; (case a => k_is); (case l => k_is); (case c => k_is); (case k => k_is)))
    (case d36 => (refine' GG.def_mk KX G ?a ?l ?c ?k; (case a => k_is); (case l => k_is); (case c => k_is); (case k => k_is)))
    (case aN => k_is)
    (case tN => (refine' GG.ext_mk ?l ?r ?sa ?ex ?ty ?kp ?ga ?gg ?hd ?cl ?mo ?oc ?ot; (case l => k_is); (case r => decide +kernel); (case sa => k_is); (case ex => k_is); (case ty => k_is); (case kp => k_is); (case ga => k_is); (case gg => k_is); (case hd => k_is); (case cl => k_is); (case mo => k_is); (case oc => k_is); (case ot => k_is)))
    (case n1 => k_is)
    (case n2 => k_is)
    (case iN => k_is)
    (case tiN => k_is)
    (case lI => k_is)
    (case cI => k_is)
    (case kI => k_is)
    (case a1 => k_is)
    (case a2 => k_is)
    (case a4 => k_is)
    (case a5 => k_is)
    (case a6 => k_is)
    (case a7 => k_is)
    (case tB => (refine' GG.ext_mk ?l ?r ?sa ?ex ?ty ?kp ?ga ?gg ?hd ?cl ?mo ?oc ?ot; (case l => k_is); (case r => decide +kernel); (case sa => k_is); (case ex => k_is); (case ty => k_is); (case kp => k_is); (case ga => k_is); (case gg => k_is); (case hd => k_is); (case cl => k_is); (case mo => k_is); (case oc => k_is); (case ot => k_is)))
    (case n3 => k_is)
    (case iB => k_is)
    (case tiB => k_is)
    (case lB => k_is)
    (case cB => k_is)
    (case kB => k_is)
    (case aD => (first | exact ⟨_, rfl⟩ | (apply Exists.intro; rfl) | (apply Exists.intro; k_is)))
    (case aM => (first | exact ⟨_, rfl⟩ | (apply Exists.intro; rfl) | (apply Exists.intro; k_is)))
    (case x1 => kernel_rfl)
    (case x2 => kernel_rfl)
    (case x3 => kernel_rfl)
    (case x4 => kernel_rfl)
    (case aW => k_is)
    (case lW => k_is)
    (case cW => k_is)
    (case kW => k_is)
    (case a35 => k_is)
    (case l35 => k_is)
    (case c35 => k_is)
    (case k35 => k_is)
    (case lc => k_is)
    (case vT => rfl)
    (case noT => kernel_rfl)
    (case z_int => k_is)
    (case z_list => k_is)
    (case z_len => k_is)
    (case z_range => k_is)
    (case z_abs => k_is)
    (case z_bool => k_is)
    (case z_tuple => k_is)
    (case z_isinstance => k_is)
    (case z_repr => k_is)
    (case z_str => k_is)
    (case z_divmod => k_is)
    (case z_enumerate => k_is)
    (case zg => k_is)
