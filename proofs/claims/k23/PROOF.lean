import PyProof.Rows.All
import Wide.All
import OpenK.AllK
import Wide.FinOn
import KE.KStateDown
import KE.SortData
import KE.LtData
import PyProof.ReprReads
import PyProof.P3In
import HandS.Base
import HandS.Call
import HandS.List
import HandS.Comp
import HandS.Ends
import HandS.Iter
import HandS.Walk
import HandS.Exc
import HandS.Flow
import HandS.Star
import HandS.TupAny
import HandS.Zip
import HandS.Conv
import HandS.IsInst
import HandS.Deep
import HandS.Style
import HandS.CallSlots
import HandS.TryOnly
import HandS.ExcOwn
import HandS.Words
import HandS.WordsExc
import HandS.Defaults
import HandS.NoneIn
import HandS.Head0
import HandS.Head1
import HandS.Head2
import HandS.HeadEnd
import HandS.HeadHook1
import HandS.HeadHook2
import HandS.TupSets
import KE.KeyNested
import KE.KDictKeyed
import KE.GoesMore
import HandS.SetBool
import HandS.Strs
import KE.KRevSl
import HandS.SetFor
import HandS.GenList
import KE.DataFind
import PySem.Challenge.RW_defaultswaps_k23_whole_cases_by_hand
set_option Elab.async false
set_option linter.all false
set_option maxRecDepth 100000
set_option maxHeartbeats 4000000
/-! Part a: promises of defs that may lean on «nothing is being shown around» (repr asks it). -/
namespace DR
open PySem PySem.Spec PyProof.Rows L2

/-- a def keeps sp; with γ: wherever no repr is under way around the call -/
structure GFn (γ : Bool) (P : Program) (w : World) (K : PySem.W.Frag) (mg : Str → Option Value) (base : Heap) (k : Nat) (f : Addr) (fd : FuncData) (ps : List Str) (sp : Sp) : Prop where
  len : ∀ vs H Q E, sp vs H Q E → vs.length = ps.length
  run : ∀ (A : Around) (out : List Env) (s : Shared) (H : Hp) (args : Args) (us : List Value) (vs : List V) (Q : VK) (E : XK),
    Room k A → (γ = true → A.guards = some []) → Env0 P w K mg base A out s H → BindsTo s fd args (ps.zip us) → Vals vs us → sp vs H Q E →
    codeAny (model P w) A (.call (.ref f) args) (CR (CX P w) out P w H s Q E) s

section
variable {γ : Bool} {P : Program} {w : World} {K : PySem.W.Frag} {mg : Str → Option Value} {base : Heap} {k j : Nat} {f : Addr} {fd : FuncData} {ps : List Str} {sp : Sp}
theorem GFn.mono {δ : Bool} (F : GFn γ P w K mg base j f fd ps sp) (h : j ≤ k) (hg : γ = true → δ = true) : GFn δ P w K mg base k f fd ps sp :=
  ⟨F.len, fun A out s H args us vs Q E hr g => F.run A out s H args us vs Q E (hr.mono h) fun q => g (hg q)⟩

/-- a def by its body -/
theorem GFn.of {N : List Str} {x qual : Str} {params : Arguments} {body : List Stmt} {sc : Scope} {dvs : List V} {kws : List (Str × V)}
    (F : FunD K x qual params body sc dvs kws f fd) (S : FnScope N ps sc) (len : ∀ vs H Q E, sp vs H Q E → vs.length = ps.length)
    (hb : ∀ (cd : Value) (A : Around) (out : List Env) (s : Shared) (H : Hp) (vs : List V) (Q : VK) (E : XK),
      Room k (A.deeper (envOfC qual sc s.heap.objs.size f cd)) → (γ = true → A.guards = some []) → sp vs H Q E →
      ∃ t, PSs (cxOf (CX P w) P w K mg base N qual sc f cd A out s H E) body t ∧ t { nx := fun _ H' => Q .non H', rt := Q } (start N vs) H) :
    GFn γ P w K mg base (k + 1) f fd ps sp := by
  obtain ⟨oc, od, dV, kV, doc, pm, an, cd, ct, osl, rfl, lk, hcd, _, _⟩ := F.ex
  refine ⟨len, fun A out s H args us vs Q E hr hg e0 hbd rv hsp => ?_⟩
  have hlen := len _ _ _ _ hsp
  have old : ∀ b o, base.get? b = some o → s.heap.get? b = some o := fun b o e => (e0.bs b o e).1
  have KX : K.In s.heap := e0.mod.kin.keeps old
  have kinds : ∀ y ∈ ps.zip us, sc.names.lookup y.1 = some .local ∨
      (sc.names.lookup y.1 = some .cell ∧ ((cellsFrom (s.heap.objs.size + 1) sc.names []).lookup y.1).isSome = true) := by
    intro ⟨n, v⟩ hy
    rcases S.par n (List.of_mem_zip hy).1 with q | q
    · exact .inl q
    · exact .inr ⟨q, PySem.W.cellsFrom_some _ _ _ (.inl q)⟩
  refine codeAny_call_function hr.depth (KX _ _ lk) rfl S.co S.gen rfl (PySem.W.codeRec_of KX hcd) (hbd _ _ _ _ ?_)
  refine wpAny_newFunctionEnv_cells S.kind kinds fun env he s1 x => ?_
  subst he
  refine ⟨(e0.mod.nolimit.keeps old).keeps x.toInCall.keep, codeAny_func ?_⟩
  obtain ⟨t, ht, hq⟩ := hb cd A out s H vs Q E (hr.deeper _) hg hsp
  refine wpAny_mono (ht.run [] s1 (start N vs) H _ (inv_start S hr.hd e0 hlen rv x) hq) (fun fl s' hs => ?_) fun _ _ z => z
  cases fl with
  | ret u =>
    obtain ⟨v, σ', H', J, rv, q⟩ := hs
    exact ⟨v, H', J.os, J.bare, J.base, J.hok, rv, q⟩
  | next =>
    obtain ⟨σ', H', J, q⟩ := hs
    exact ⟨V.non, H', J.os, J.bare, J.base, J.hok, rfl, q⟩
  | brk => exact hs.elim fun _ z => z.elim fun _ z => z.2.elim
  | cont => exact hs.elim fun _ z => z.elim fun _ z => z.2.elim
end

section
variable {γ : Bool} {X : Cx} {k : Nat} {f : Addr} {fd : FuncData} {ps : List Str} {sp : Sp} {W : WX} {x : Str} {p pos : Pos} {e : Expr} {es : List Expr} {t : TA}
theorem g_run {pins : List (Addr × Obj)} {σ : L2.St} {H : Hp} {s : Shared} {Q : VK} {us : List Value} {vs : List V} {Eσ : XK}
    (F : GFn γ X.prog X.w X.K X.mg X.base k f fd ps sp) (hr : Room k X.A) (hg : γ = true → X.A.guards = some []) (hb : Binds X.K fd ps [])
    (hx : PassesAt (CX X.prog X.w) X σ Eσ) (I : Inv X pins σ H s) (rv : Vals vs us) (h : sp vs H Q Eσ) :
    wpAny (model X.prog X.w) X.A (call (.ref f) us) (EP X pins σ Q) X.xe s := by
  have hl : (us ++ ([] : List Value)).length = ps.length := by
    rw [List.append_nil, ← rv.length]
    exact F.len _ _ _ _ h
  have hbn := hb s us I.kIn hl
  rw [List.append_nil] at hbn
  refine wpAny_call (codeAny_mono (F.run X.A X.stack s H ⟨us, []⟩ us vs Q Eσ hr hg I.env0 hbn rv h) fun r s' hq => ?_)
  cases r with
  | error e => exact hx pins H s e s' I hq
  | ok fl => cases fl with
    | ret u => exact I.after hq
    | next => exact hq.elim
    | brk => exact hq.elim
    | cont => exact hq.elim

/-- f(e, ..) -/
theorem g_call (F : GFn γ X.prog X.w X.K X.mg X.base k f fd ps sp) (hr : Room k X.A) (hg : γ = true → X.A.guards = some []) (hl : Gl X x) (hm : X.mg x = some (.ref f))
    (hk : PySem.W.keepIn X.K (.ref f) = true) (hb : Binds X.K fd ps []) (tk : Takes X W) (ha : PA X (e :: es) t) (hdb : (x == ("__debug__" : Str)) = false)
    (he : starEach (e :: es) X.env = (false, eval e X.env) :: starEach es X.env) (hpl : (backTo pos (starEach es X.env)).any (·.1) = false) :
    PE X (.Call (.Name x p) (e :: es) [] pos) (fun σ H Q => t σ H fun vs H1 => sp vs H1 Q fun c d H2 => W c d σ H2) := by
  refine ⟨fun pins s σ H Q I h => wpAny_Call_Name_kw (ld_glob I hl hm ?_ hdb)⟩
  refine PySem.W.callWith_K (h₀ := X.base) I.ok.mod.kin hk ?_ he hpl
  exact thn (ha.run pos pins s σ H _ I h) fun us s1 ⟨vs, H1, I1, r, q⟩ => ⟨I1.kIn, g_run F hr hg hb (passAt tk σ) I1 r q⟩
/-- f() -/
theorem g_call0 (F : GFn γ X.prog X.w X.K X.mg X.base k f fd ps sp) (hr : Room k X.A) (hg : γ = true → X.A.guards = some []) (hl : Gl X x) (hm : X.mg x = some (.ref f))
    (hk : PySem.W.keepIn X.K (.ref f) = true) (hb : Binds X.K fd ps []) (tk : Takes X W) (hdb : (x == ("__debug__" : Str)) = false) :
    PE X (.Call (.Name x p) [] [] pos) (fun σ H Q => sp [] H Q fun c d H2 => W c d σ H2) := by
  refine ⟨fun pins s σ H Q I h => wpAny_Call_Name_kw (ld_glob I hl hm ?_ hdb)⟩
  exact PySem.W.callWith_K0 I.kIn hk (g_run (us := []) F hr hg hb (passAt tk σ) I .nil h)
end

/-! the law's end -/
theorem cx_never {P : Program} {w : World} {out : List Env} {H : Hp} {s : Shared} {e : Value} {s' : Shared} (h : CX P w out H s (fun _ _ _ => False) e s') : False := by
  obtain ⟨_, _, _, _, _, _, _, _, _, _, _, _, z⟩ := h
  exact z

/-- what is left behind the law's call: the answer True, all that stood before kept -/
def Kept (s₁ : Shared) (r : Result) (s' : Shared) : Prop := r = .ok (.ret (.bool true)) ∧ OldK s₁.heap s'.heap ∧ s'.os = s₁.os ∧ AllBare s'.gens

theorem g_law_at {P : Program} {w : World} {K : PySem.W.Frag} {mg mb : Str → Option Value} {k : Nat} {fa a : Addr} {fd : FuncData} {x : Str} {sp : Sp} {s₁ : Shared} {vs : List Value} {H : Hp}
    (KX : K.In s₁.heap) (hns : s₁.heap.Ns mainGlobals mg) (hb : s₁.heap.Ns builtinsNs mb) (hbb : ∀ y : Str, y ≠ "__name__" → mb y = bootBuiltins y) (hlim : s₁.heap.NoLimit) (hg : s₁.gens = #[])
    (ha : s₁.heap.get? a = some { cls := .type "list", data := .seq vs.toArray }) (hr : Room k callerA)
    (F : ∀ base : Heap, K.In base → base.Ns mainGlobals mg → GFn true P w K mg base k fa fd [x] sp) (hbind : ∀ (s : Shared) (u : Value), BindsTo s fd ⟨[u], []⟩ [(x, u)])
    (hsp : sp [.ref a] H (fun v _ => v = .bl true) fun _ _ _ => False) (hO : Only H) (hok : HOk P w H s₁.heap) (hA : ∀ b, H b ≠ none → b = a) (hK : H a ≠ none → K.lookup a = none) :
    codeAny (model P w) callerA (.call (.ref fa) ⟨[.ref a], []⟩) (Kept s₁) s₁ := by
  have down : ∀ {b : Addr} {o : Obj}, s₁.heap.get? b = some o → H b = none → (hidT s₁.heap H).get? b = some o := fun e n => hidT_get e n
  have free : ∀ {b : Addr} {o : Obj} {es : Array DictEntry} {ep : Nat}, s₁.heap.get? b = some o → o.data = .dict es ep → H b = none := by
    intro b o es ep e d
    by_cases q : H b = none
    · exact q
    · have := hA b q
      subst this
      rw [ha] at e
      cases e
      cases (show Data.seq vs.toArray _ = Data.dict es ep from d)
  have ns : ∀ {b : Addr} {m : Str → Option Value}, s₁.heap.Ns b m → (hidT s₁.heap H).Ns b m := fun ⟨o, es, ep, e, d, r⟩ => ⟨o, es, ep, down e (free e d), d, r⟩
  have hKb : K.In (hidT s₁.heap H) := by
    intro b o e
    refine down (KX b o e) ?_
    by_cases q : H b = none
    · exact q
    · have := hA b q
      subst this
      rw [hK q] at e
      cases e
  have hM : Mod K mg (hidT s₁.heap H) := ⟨hKb, ns hns, ⟨mb, ns hb, hbb⟩, by
    obtain ⟨mc, h1, h2⟩ := hlim
    exact ⟨mc, ns h1, h2⟩⟩
  have e0 : Env0 P w K mg (hidT s₁.heap H) callerA [] s₁ H :=
    ⟨rfl, hM, fun b o e => of_hidT e, Nat.le_of_eq (hidT_size _ _), trivial, fun b hb => (nomatch (show b ∈ ([] : List Addr) from hb)), hok, .of_eq hg⟩
  refine codeAny_mono ((F _ hKb (ns hns)).run callerA [] s₁ H ⟨[.ref a], []⟩ [.ref a] [.ref a] _ _ hr (fun _ => rfl) e0 (hbind s₁ (.ref a)) (.cons rfl .nil) hsp) fun r s' h => ?_
  match r, h with
  | .error e, h => exact (cx_never h).elim
  | .ok .next, h => exact False.elim h
  | .ok .brk, h => exact False.elim h
  | .ok .cont, h => exact False.elim h
  | .ok (.ret u), h =>
    obtain ⟨v, H', os, bare, un, hok', r', q⟩ := h
    subst q
    obtain rfl : u = Value.bool true := r'
    refine ⟨rfl, OldK.of_keep fun b o e => ?_, os, bare⟩
    rcases hO b with n | ⟨ob, xs, z⟩
    · exact un.keep b o e n (fun z => (nomatch (show b ∈ ([] : List Addr) from z))) (by simp)
    · have e1 := (hok b _ z).1
      rw [e] at e1
      cases e1
      exact (hok' b _ (un.frzs b o _ z)).1

theorem g_law {P : Program} {w : World} {K : PySem.W.Frag} {mg mb : Str → Option Value} {k : Nat} {fa a : Addr} {fd : FuncData} {x : Str} {sp : Sp} {s₁ : Shared} {vs : List Value} {ns : List Int}
    (KX : K.In s₁.heap) (hns : s₁.heap.Ns mainGlobals mg) (hb : s₁.heap.Ns builtinsNs mb) (hbb : ∀ y : Str, y ≠ "__name__" → mb y = bootBuiltins y) (hlim : s₁.heap.NoLimit) (hg : s₁.gens = #[])
    (ha : s₁.heap.get? a = some { cls := .type "list", data := .seq vs.toArray }) (hi : IntsAre vs ns) (hl : ns.length ≤ sizeLine) (hr : Room k callerA)
    (F : ∀ base : Heap, K.In base → base.Ns mainGlobals mg → GFn true P w K mg base k fa fd [x] sp) (hbind : ∀ (s : Shared) (u : Value), BindsTo s fd ⟨[u], []⟩ [(x, u)])
    (hsp : ∀ H : Hp, SqL K H a (ns.map V.int) → sp [.ref a] H (fun v _ => v = .bl true) fun _ _ _ => False) :
    codeAny (model P w) callerA (.call (.ref fa) ⟨[.ref a], []⟩) (Kept s₁) s₁ := by
  have rv := vals_ints hi
  have lenV := hi.length
  have len2 : (ns.map V.int).length ≤ sizeLine := by
    rw [List.length_map]
    exact hl
  cases hk : K.lookup a with
  | some o =>
    have e := KX a o hk
    rw [ha] at e
    cases e
    have sq : SqL K (fun _ => none) a (ns.map V.int) := .inr ⟨_, vs.toArray, _, hk, rfl, rfl, rfl, by rw [List.size_toArray, lenV]; exact hl, by simpa using rv⟩
    exact g_law_at (H := fun _ => none) KX hns hb hbb hlim hg ha hr F hbind (hsp _ sq) (fun _ => .inl rfl) (fun b u z => (nomatch (show (none : Option HO) = some u from z))) (fun b z => absurd rfl z) fun z => absurd rfl z
  | none =>
    let o : Obj := { cls := .type "list", data := .seq vs.toArray }
    let H : Hp := fun b => if b = a then some (.frz o (.lst (ns.map V.int))) else none
    have at_ : ∀ {b u}, H b = some u → b = a ∧ u = .frz o (.lst (ns.map V.int)) := by
      intro b u z
      have z' : (if b = a then some (HO.frz o (.lst (ns.map V.int))) else none) = some u := z
      by_cases q : b = a
      · rw [if_pos q] at z'
        exact ⟨q, (Option.some.inj z').symm⟩
      · rw [if_neg q] at z'
        cases z'
    have here : H a = some (.frz o (.lst (ns.map V.int))) := if_pos rfl
    refine g_law_at (H := H) KX hns hb hbb hlim hg ha hr F hbind (hsp _ (.inl (.inr ⟨o, here⟩))) (fun b => ?_) (fun b u z => ?_) (fun b z => ?_) fun _ => hk
    · cases q : H b with
      | none => exact .inl rfl
      | some u => exact .inr ⟨o, _, congrArg some (at_ q).2⟩
    · obtain ⟨rfl, rfl⟩ := at_ z
      exact ⟨ha, len2, vs, _, rv, ha⟩
    · cases q : H b with
      | none => exact absurd q z
      | some u => exact (at_ q).1

/-- the law's walk, from the head's facts -/
theorem g_walk {l : PySem.W.OpenLaw} {n k : Nat} {q : Program} {loose : List Str} {XP : (Str → Option Value) → Heap → Prop} {YP : World → Heap → Prop} {d : DefRec} {x : Str}
    (hn : l.most = some n) (hn2 : n ≤ sizeLine) (hdf : d.params.defaults = []) (hr : Room k callerA)
    (F : ∀ (w : World) (mg : Str → Option Value) (fa : Addr) (h : Heap), YP w h → h.Ns mainGlobals mg → mg d.name = some (.ref fa) →
      ∃ (K : PySem.W.Frag) (fd : FuncData) (sp : Sp), K.In h ∧ (∀ (s : Shared) (u : Value), BindsTo s fd ⟨[u], []⟩ [(x, u)]) ∧
        (∀ (H : Hp) (a : Addr) (ns : List Int), ns.length ≤ n → SqL K H a (ns.map V.int) → sp [.ref a] H (fun v _ => v = .bl true) fun _ _ _ => False) ∧
        ∀ base : Heap, K.In base → base.Ns mainGlobals mg → GFn true l.prog w K mg base k fa fd [x] sp) :
    PySem.W.WalkO q loose XP YP l.row.toRowW d [] (fun f vs => PySem.call f vs) := by
  refine Att.attach_call hn hdf fun w s₀ s₁ mg mb fa o pm cd doc a vs ns G Y ho hd hcd hmg hobj hints hlen hg => ?_
  obtain ⟨K, fd, sp, KX, hb, hsp, hF⟩ := F w mg fa _ Y G.T.g hmg
  exact g_law KX G.T.g G.T.b G.T.builtins G.T.nolimit hg hobj hints (Nat.le_trans hlen hn2) hr hF hb fun H hS => hsp H a ns hlen hS
end DR
/-! Part b: data in the abstract heap, and what Python's operators do with them. -/
namespace DR
open PySem PySem.Spec PyProof.Rows L2
abbrev D := PyData
abbrev Sg := L2.St

/-! heaps -/
def Le (G G' : Hp) : Prop := ∀ a o, G a = some o → G' a = some o
theorem Le.rfl' {G : Hp} : Le G G := fun _ _ h => h
theorem Le.trans {A B C : Hp} (h : Le A B) (k : Le B C) : Le A C := fun a o e => k a o (h a o e)
theorem Le.upd {H : Hp} {p : Addr} {o : HO} (h : H p = none) : Le H (upd H p o) := fun b x e => by
  rw [upd_ne (ne_of_none e h)]
  exact e
open Classical in
/-- H without the addresses of O -/
noncomputable def hid (O : List Addr) (H : Hp) : Hp := fun a => if a ∈ O then none else H a
theorem hid_some {O : List Addr} {H : Hp} {a : Addr} {o : HO} : hid O H a = some o ↔ a ∉ O ∧ H a = some o := by
  unfold hid
  by_cases h : a ∈ O <;> simp [h]
theorem hid_le {O : List Addr} {H : Hp} : Le (hid O H) H := fun _ _ h => (hid_some.mp h).2
theorem hid_mono {O : List Addr} {H H' : Hp} (h : Le H H') : Le (hid O H) (hid O H') := fun _ _ e => hid_some.mpr ⟨(hid_some.mp e).1, h _ _ (hid_some.mp e).2⟩
theorem hid_nil {H : Hp} : hid [] H = H := by
  funext a
  simp [hid]

/-! data -/
theorem Rd.le {G G' : Hp} (h : Le G G') {a : Addr} {u : HO} (r : Rd G a u) : Rd G' a u := by
  rcases r with r | ⟨o, r⟩
  · exact .inl (h _ _ r)
  · exact .inr ⟨o, h _ _ r⟩
theorem SqT.le {K : PySem.W.Frag} {G G' : Hp} (h : Le G G') {a : Addr} {xs : List V} (r : SqT K G a xs) : SqT K G' a xs := by
  rcases r with r | r
  · exact .inl (Rd.le h r)
  · exact .inr r
mutual
/-- v is the datum d in the heap G -/
inductive Dd (K : PySem.W.Frag) (G : Hp) : V → D → Prop
  | non : Dd K G .non .none
  | bl (b : Bool) : Dd K G (.bl b) (.bool b)
  | int (i : Int) : Dd K G (.int i) (.int i)
  | str (x : Str) : Dd K G (.str x) (.str x)
  | lst {a : Addr} {xs : List V} {ds : List D} : G a = some (.lst xs) → Ds K G xs ds → Dd K G (.ref a) (.list ds)
  | tup {a : Addr} {xs : List V} {ds : List D} : SqT K G a xs → Ds K G xs ds → Dd K G (.ref a) (.tuple ds)
inductive Ds (K : PySem.W.Frag) (G : Hp) : List V → List D → Prop
  | nil : Ds K G [] []
  | cons {v : V} {vs : List V} {d : D} {ds : List D} : Dd K G v d → Ds K G vs ds → Ds K G (v :: vs) (d :: ds)
end
section
variable {K : PySem.W.Frag} {G G' : Hp}
mutual
theorem Dd.le (h : Le G G') : ∀ {v : V} {d : D}, Dd K G v d → Dd K G' v d
  | _, _, .non => .non
  | _, _, .bl b => .bl b
  | _, _, .int i => .int i
  | _, _, .str x => .str x
  | _, _, .lst r t => .lst (h _ _ r) (Ds.le h t)
  | _, _, .tup r t => .tup (SqT.le h r) (Ds.le h t)
theorem Ds.le (h : Le G G') : ∀ {vs : List V} {ds : List D}, Ds K G vs ds → Ds K G' vs ds
  | _, _, .nil => .nil
  | _, _, .cons a t => .cons (Dd.le h a) (Ds.le h t)
end
mutual
theorem Dd.dp : ∀ {v : V} {d : D}, Dd K G v d → Dp K G v d
  | _, _, .non => .non
  | _, _, .bl b => .bl b
  | _, _, .int i => .int i
  | _, _, .str x => .str x
  | _, _, .lst r t => .lst (.inl (.inl r)) (Ds.dp t)
  | _, _, .tup r t => .tup r (Ds.dp t)
theorem Ds.dp : ∀ {vs : List V} {ds : List D}, Ds K G vs ds → DpAll K G vs ds
  | _, _, .nil => .nil
  | _, _, .cons a t => .cons (Dd.dp a) (Ds.dp t)
end
theorem Ds.length : ∀ {vs : List V} {ds : List D}, Ds K G vs ds → vs.length = ds.length
  | _, _, .nil => rfl
  | _, _, .cons _ t => congrArg (· + 1) t.length
theorem Ds.append : ∀ {vs ws : List V} {ds es : List D}, Ds K G vs ds → Ds K G ws es → Ds K G (vs ++ ws) (ds ++ es)
  | _, _, _, _, .nil, h => h
  | _, _, _, _, .cons a t, h => .cons a (t.append h)
theorem Ds.get : ∀ {vs : List V} {ds : List D} {i : Nat} {d : D}, Ds K G vs ds → ds[i]? = some d → ∃ v, vs[i]? = some v ∧ Dd K G v d
  | _, _, _, _, .nil, e => by simp at e
  | _, _, 0, _, .cons a _, e => by
    simp at e
    subst e
    exact ⟨_, rfl, a⟩
  | _, _, i + 1, d, .cons _ t, e => by
    obtain ⟨v, h1, h2⟩ := t.get (i := i) (d := d) (by simpa using e)
    exact ⟨v, by simpa using h1, h2⟩
theorem Ds.get' : ∀ {vs : List V} {ds : List D} {i : Nat} {v : V}, Ds K G vs ds → vs[i]? = some v → ∃ d, ds[i]? = some d ∧ Dd K G v d
  | _, _, _, _, .nil, e => by simp at e
  | _, _, 0, _, .cons a _, e => by
    simp at e
    subst e
    exact ⟨_, rfl, a⟩
  | _, _, i + 1, d, .cons _ t, e => by
    obtain ⟨v, h1, h2⟩ := t.get' (i := i) (v := d) (by simpa using e)
    exact ⟨v, by simpa using h1, h2⟩
theorem Ds.drop : ∀ {vs : List V} {ds : List D} (n : Nat), Ds K G vs ds → Ds K G (vs.drop n) (ds.drop n)
  | _, _, 0, h => h
  | _, _, _ + 1, .nil => .nil
  | _, _, n + 1, .cons _ t => t.drop n
theorem Ds.take : ∀ {vs : List V} {ds : List D} (n : Nat), Ds K G vs ds → Ds K G (vs.take n) (ds.take n)
  | _, _, 0, _ => .nil
  | _, _, _ + 1, .nil => .nil
  | _, _, n + 1, .cons a t => .cons a (t.take n)
theorem Ds.reverse {vs : List V} {ds : List D} (h : Ds K G vs ds) : Ds K G vs.reverse ds.reverse := by
  induction h using Ds.rec (motive_1 := fun _ _ _ => True) with
  | nil => exact .nil
  | cons a t _ ih => simpa using ih.append (.cons a .nil)
  | _ => trivial
theorem Ds.set : ∀ {vs : List V} {ds : List D} {v : V} {d : D} (i : Nat), Ds K G vs ds → Dd K G v d → Ds K G (vs.set i v) (ds.set i d)
  | _, _, _, _, _, .nil, _ => .nil
  | _, _, _, _, 0, .cons _ t, a => .cons a t
  | _, _, _, _, i + 1, .cons b t, a => .cons b (t.set i a)
theorem Ds.nil_iff {vs : List V} {ds : List D} (h : Ds K G vs ds) : vs = [] ↔ ds = [] := by
  cases h <;> simp
theorem Dd.int_inv {v : V} {i : Int} (h : Dd K G v (.int i)) : v = .int i := by cases h; rfl
theorem Dd.bl_inv {v : V} {b : Bool} (h : Dd K G v (.bool b)) : v = .bl b := by cases h; rfl
theorem Dd.str_inv {v : V} {x : Str} (h : Dd K G v (.str x)) : v = .str x := by cases h; rfl
theorem Dd.non_inv {v : V} (h : Dd K G v .none) : v = .non := by cases h; rfl
theorem Dd.tup_inv {v : V} {ds : List D} (h : Dd K G v (.tuple ds)) : ∃ a xs, v = .ref a ∧ SqT K G a xs ∧ Ds K G xs ds := by
  cases h with
  | tup a b => exact ⟨_, _, rfl, a, b⟩
theorem Dd.lst_inv {v : V} {ds : List D} (h : Dd K G v (.list ds)) : ∃ a xs, v = .ref a ∧ G a = some (.lst xs) ∧ Ds K G xs ds := by
  cases h with
  | lst a b => exact ⟨_, _, rfl, a, b⟩
theorem Ds.ints : ∀ {vs : List V} {ns : List Int}, Ds K G vs (ns.map .int) → vs = ns.map V.int
  | vs, [], h => by
    have h' : Ds K G vs [] := h
    cases h'
    rfl
  | vs, n :: ns, h => by
    have h' : Ds K G vs (.int n :: ns.map .int) := h
    cases h' with
    | cons a t => rw [a.int_inv, t.ints]; rfl
theorem Ds.of_ints : ∀ ns : List Int, Ds K G (ns.map V.int) (ns.map .int)
  | [] => .nil
  | n :: ns => .cons (.int n) (Ds.of_ints ns)
theorem Ds.bools : ∀ {vs : List V} {bs : List Bool}, Ds K G vs (bs.map .bool) → vs = bs.map V.bl
  | vs, [], h => by
    have h' : Ds K G vs [] := h
    cases h'
    rfl
  | vs, n :: ns, h => by
    have h' : Ds K G vs (.bool n :: ns.map .bool) := h
    cases h' with
    | cons a t => rw [a.bl_inv, t.bools]; rfl
end

/-- where data are looked for: the heap H but the addresses of O, which are all there -/
structure Hx (O : List Addr) (H : Hp) : Prop where
  there : ∀ a ∈ O, H a ≠ none
theorem Hx.new {O : List Addr} {H : Hp} (h : Hx O H) {p : Addr} (n : H p = none) : p ∉ O := fun m => h.there p m n
theorem Hx.le {O : List Addr} {H H' : Hp} (h : Hx O H) (l : Le H H') : Hx O H' := ⟨fun a m e => by
  cases q : H a with
  | none => exact h.there a m q
  | some o =>
    rw [l a o q] at e
    cases e⟩
theorem hid_at {O : List Addr} {H : Hp} {p : Addr} {o : HO} (h : Hx O H) (n : H p = none) : hid O (upd H p o) p = some o := hid_some.mpr ⟨h.new n, upd_same⟩
section
variable {K : PySem.W.Frag} {O : List Addr} {H : Hp} {p : Addr} {vs : List V} {ds : List D}
theorem Dd.new_tup (h : Hx O H) (n : H p = none) (t : Ds K (hid O H) vs ds) : Dd K (hid O (upd H p (.tup vs))) (.ref p) (.tuple ds) :=
  .tup (.inl (.inl (hid_at h n))) (t.le (hid_mono (Le.upd n)))
theorem Dd.new_lst (h : Hx O H) (n : H p = none) (t : Ds K (hid O H) vs ds) : Dd K (hid O (upd H p (.lst vs))) (.ref p) (.list ds) :=
  .lst (hid_at h n) (t.le (hid_mono (Le.upd n)))
end
/-- data out: behind the operation the heap is larger, the value is d there -/
def Out (K : PySem.W.Frag) (O : List Addr) (H : Hp) (d : D) (Q : VK) : Prop := ∀ v H', Le H H' → Dd K (hid O H') v d → Q v H'
section
variable {K : PySem.W.Frag} {O : List Addr} {H : Hp} {Q : VK}
theorem Out.here {d : D} (h : Out K O H d Q) {v : V} (e : Dd K (hid O H) v d) : Q v H := h v H Le.rfl' e
theorem Out.tup {ds : List D} (h : Out K O H (.tuple ds) Q) (hx : Hx O H) {vs : List V} (t : Ds K (hid O H) vs ds) : ∀ p, H p = none → Q (.ref p) (upd H p (.tup vs)) :=
  fun p n => h _ _ (Le.upd n) (Dd.new_tup hx n t)
theorem Out.lst {ds : List D} (h : Out K O H (.list ds) Q) (hx : Hx O H) {vs : List V} (t : Ds K (hid O H) vs ds) : ∀ p, H p = none → Q (.ref p) (upd H p (.lst vs)) :=
  fun p n => h _ _ (Le.upd n) (Dd.new_lst hx n t)
end
end DR
/-! Part c: operators over data. -/
namespace DR
open PySem PySem.Spec PyProof.Rows L2

theorem line_le {n : Nat} (h : n ≤ 1000000) : n ≤ sizeLine := by
  rw [sizeLine_eq]
  omega
theorem line_lt {n : Nat} (h : n ≤ 1000000) : n < sizeLine := by
  rw [sizeLine_eq]
  omega

/-! two places -/
inductive Bop | add | sub | mul | fdiv | mod | pow | bor
  deriving DecidableEq
def Bop.op : Bop → Operator
  | .add => .Add | .sub => .Sub | .mul => .Mult | .fdiv => .FloorDiv | .mod => .Mod | .pow => .Pow | .bor => .BitOr
def bopAdd : D → D → Option D
  | .int i, .int j => some (.int (i + j))
  | .tuple xs, .tuple ys => if xs.length + ys.length ≤ 1000000 then some (.tuple (xs ++ ys)) else none
  | .list xs, .list ys => if xs.length + ys.length ≤ 1000000 then some (.list (xs ++ ys)) else none
  | .str x, .str y => if x.length + y.length ≤ 1000000 then some (.str (x ++ y)) else none
  | _, _ => none
def bopMul : D → D → Option D
  | .int i, .int j => if (-(2 ^ 64) < i ∧ i < 2 ^ 64) ∨ (-(2 ^ 64) < j ∧ j < 2 ^ 64) then some (.int (i * j)) else none
  | .list xs, .int k => if 0 ≤ k ∧ k ≤ 1000 ∧ xs.length * k.toNat ≤ 1000000 then some (.list (List.replicate k.toNat xs).flatten) else none
  | _, _ => none
def bopInt (o : Bop) (i j : Int) : Option D := match o with
  | .sub => some (.int (i - j))
  | .fdiv => if 0 < j ∧ j < 1073741824 then some (.int (i / j)) else none
  | .mod => if 0 < j then some (.int (i % j)) else none
  | .pow => if 0 ≤ j ∧ j ≤ 1000 ∧ i.natAbs < 2 ^ 64 then some (.int (i ^ j.toNat)) else none
  | .bor => some (.int (Builtin.bitOr i j))
  | _ => none
def bop : Bop → D → D → Option D
  | .add, x, y => bopAdd x y
  | .mul, x, y => bopMul x y
  | o, .int i, .int j => bopInt o i j
  | _, _, _ => none

section
variable {X : Cx}
/-- what a two-place operation of data asks and gives -/
def rD2 (K : PySem.W.Frag) (f : D → D → Option D) : R2 := fun x y H Q => ∃ O d e r, Hx O H ∧ Dd K (hid O H) x d ∧ Dd K (hid O H) y e ∧ f d e = some r ∧ Out K O H r Q

theorem sqT_real {K : PySem.W.Frag} {O : List Addr} {H : Hp} {a : Addr} {xs : List V} (h : SqT K (hid O H) a xs) : SqT K H a xs := SqT.le hid_le h
theorem lst_real {O : List Addr} {H : Hp} {a : Addr} {u : HO} (h : hid O H a = some u) : H a = some u := hid_le _ _ h

theorem bop_add : OpR X (binaryOp .Add) (rD2 X.K bopAdd) := by
  intro pins s σ H x y v u Q I rx ry h
  obtain ⟨O, d, e, r, hx, hd, he, hf, out⟩ := h
  unfold bopAdd at hf
  split at hf
  · cases hf
    exact op_add pins s σ H x y v u Q I rx ry ⟨_, _, hd.int_inv, he.int_inv, out.here (.int _)⟩
  · split at hf
    · cases hf
      rename_i xs ys hz
      obtain ⟨a, vs, rfl, t1, s1⟩ := hd.tup_inv
      obtain ⟨b, ws, rfl, t2, s2⟩ := he.tup_inv
      refine op_catA pins s σ H _ _ v u Q I rx ry ⟨a, b, vs, ws, rfl, rfl, sqT_real t1, sqT_real t2, line_le (by rw [s1.length, s2.length]; exact hz), fun z => ?_, fun z z2 => ?_, fun _ _ => out.tup hx (s1.append s2)⟩
      · have := s1.nil_iff.mp z
        subst this
        exact out.here he
      · have := s2.nil_iff.mp z2
        subst this
        rw [List.append_nil] at out
        exact out.here hd
    · cases hf
  · split at hf
    · cases hf
      rename_i xs ys hz
      obtain ⟨a, vs, rfl, t1, s1⟩ := hd.lst_inv
      obtain ⟨b, ws, rfl, t2, s2⟩ := he.lst_inv
      exact op_cat pins s σ H _ _ v u Q I rx ry ⟨a, b, vs, ws, rfl, rfl, lst_real t1, lst_real t2, line_le (by rw [s1.length, s2.length]; exact hz), out.lst hx (s1.append s2)⟩
    · cases hf
  · split at hf
    · cases hf
      rename_i xs ys hz
      exact op_add_str pins s σ H _ _ v u Q I rx ry ⟨_, _, hd.str_inv, he.str_inv, line_le hz, out.here (.str _)⟩
    · cases hf
  · cases hf

theorem Ds.rep {K : PySem.W.Frag} {G : Hp} {vs : List V} {ds : List D} (h : Ds K G vs ds) : ∀ k : Nat, Ds K G (List.replicate k vs).flatten (List.replicate k ds).flatten
  | 0 => .nil
  | k + 1 => by
    rw [List.replicate_succ, List.replicate_succ, List.flatten_cons, List.flatten_cons]
    exact h.append (Ds.rep h k)
theorem bop_mul : OpR X (binaryOp .Mult) (rD2 X.K bopMul) := by
  intro pins s σ H x y v u Q I rx ry h
  obtain ⟨O, d, e, r, hx, hd, he, hf, out⟩ := h
  unfold bopMul at hf
  split at hf
  · split at hf
    · cases hf
      rename_i hc
      exact op_mul pins s σ H x y v u Q I rx ry ⟨_, _, hd.int_inv, he.int_inv, hc, out.here (.int _)⟩
    · cases hf
  · split at hf
    · cases hf
      rename_i hc
      obtain ⟨a, vs, rfl, t1, s1⟩ := hd.lst_inv
      exact op_rep pins s σ H _ _ v u Q I rx ry ⟨a, _, vs, rfl, he.int_inv, lst_real t1, by omega, by omega, line_le (by rw [s1.length]; exact hc.2.2), out.lst hx (Ds.rep s1 _)⟩
    · cases hf
  · cases hf
theorem bop_ok : ∀ o : Bop, OpR X (binaryOp o.op) (rD2 X.K (bop o))
  | .add => bop_add
  | .mul => bop_mul
  | .sub => fun pins s σ H x y v u Q I rx ry ⟨O, d, e, r, hx, hd, he, hf, out⟩ => by
    unfold bop at hf
    split at hf
    · contradiction
    · contradiction
    · cases hf
      exact op_sub pins s σ H x y v u Q I rx ry ⟨_, _, hd.int_inv, he.int_inv, out.here (.int _)⟩
    · cases hf
  | .fdiv => fun pins s σ H x y v u Q I rx ry ⟨O, d, e, r, hx, hd, he, hf, out⟩ => by
    unfold bop at hf
    split at hf
    · contradiction
    · contradiction
    · simp only [bopInt] at hf
      split at hf
      · cases hf
        rename_i hc
        exact op_fdiv pins s σ H x y v u Q I rx ry ⟨_, _, hd.int_inv, he.int_inv, hc, out.here (.int _)⟩
      · cases hf
    · cases hf
  | .mod => fun pins s σ H x y v u Q I rx ry ⟨O, d, e, r, hx, hd, he, hf, out⟩ => by
    unfold bop at hf
    split at hf
    · contradiction
    · contradiction
    · simp only [bopInt] at hf
      split at hf
      · cases hf
        rename_i hc
        exact op_mod pins s σ H x y v u Q I rx ry ⟨_, _, hd.int_inv, he.int_inv, hc, out.here (.int _)⟩
      · cases hf
    · cases hf
  | .pow => fun pins s σ H x y v u Q I rx ry ⟨O, d, e, r, hx, hd, he, hf, out⟩ => by
    unfold bop at hf
    split at hf
    · contradiction
    · contradiction
    · simp only [bopInt] at hf
      split at hf
      · cases hf
        rename_i hc
        exact op_pow pins s σ H x y v u Q I rx ry ⟨_, _, hd.int_inv, he.int_inv, ⟨hc.1, by omega, hc.2.2⟩, out.here (.int _)⟩
      · cases hf
    · cases hf
  | .bor => fun pins s σ H x y v u Q I rx ry ⟨O, d, e, r, hx, hd, he, hf, out⟩ => by
    unfold bop at hf
    split at hf
    · contradiction
    · contradiction
    · cases hf
      exact op_or pins s σ H x y v u Q I rx ry ⟨_, _, hd.int_inv, he.int_inv, out.here (.int _)⟩
    · cases hf
end
end DR
/-! Part d: comparisons of data. -/
namespace DR
open PySem PySem.Spec PyProof.Rows L2
open PySem.W (alike dataLt)

inductive Cop | eq | ne | lt | le | gt | ge | inn | nin | is | isn
  deriving DecidableEq
def Cop.op : Cop → CmpOp
  | .eq => .Eq | .ne => .NotEq | .lt => .Lt | .le => .LtE | .gt => .Gt | .ge => .GtE | .inn => .In | .nin => .NotIn | .is => .Is | .isn => .IsNot
/-- depth and texts such that == is told -/
abbrev shp (d : D) : Bool := SeqAt.shaped d
/-- two texts -/
def strEq : D → D → Option Bool
  | .str a, .str b => some (decide (a = b))
  | _, _ => none
def copEq (x y : D) : Option Bool := (strEq x y).or (if shp x = true ∧ shp y = true then some (PyData.eqv x y) else none)
theorem copEq_cases {x y : D} {b : Bool} (h : copEq x y = some b) : (∃ s t, x = .str s ∧ y = .str t ∧ b = decide (s = t)) ∨ (shp x = true ∧ shp y = true ∧ b = PyData.eqv x y) := by
  unfold copEq at h
  cases q : strEq x y with
  | some k =>
    rw [q] at h
    have h : some k = some b := h
    unfold strEq at q
    split at q
    · cases q
      cases h
      exact .inl ⟨_, _, rfl, rfl, rfl⟩
    · cases q
  | none =>
    rw [q] at h
    have h : (if shp x = true ∧ shp y = true then some (PyData.eqv x y) else none) = some b := h
    split at h
    · rename_i z
      exact .inr ⟨z.1, z.2, (Option.some.inj h).symm⟩
    · cases h
def copIn (x : D) : D → Option Bool
  | .list ys => if shp x = true ∧ shp (.list ys) = true then some (ys.any fun z => PyData.eqv z x) else none
  | .tuple ys => if shp x = true ∧ shp (.tuple ys) = true then some (ys.any fun z => PyData.eqv z x) else none
  | _ => none
def isNon : D → Bool
  | .none => true
  | _ => false
def copIs (x : D) : D → Option Bool
  | .none => some (isNon x)
  | .bool b => match x with
    | .bool a => some (decide (a = b))
    | _ => none
  | _ => none
def copLt : D → D → Option Bool
  | .int i, .int j => some (decide (i < j))
  | .tuple xs, .tuple ys => if alike (.tuple xs) (.tuple ys) = true ∧ shp (.tuple xs) = true then some (dataLt (.tuple xs) (.tuple ys)) else none
  | _, _ => none
def copI (f : Int → Int → Bool) : D → D → Option Bool
  | .int i, .int j => some (f i j)
  | _, _ => none
def cop : Cop → D → D → Option Bool
  | .eq, x, y => copEq x y
  | .ne, x, y => (copEq x y).map (! ·)
  | .lt, x, y => copLt x y
  | .le, x, y => copI (fun i j => decide (i ≤ j)) x y
  | .gt, x, y => copI (fun i j => decide (j < i)) x y
  | .ge, x, y => copI (fun i j => decide (j ≤ i)) x y
  | .inn, x, y => copIn x y
  | .nin, x, y => (copIn x y).map (! ·)
  | .is, x, y => copIs x y
  | .isn, x, y => (copIs x y).map (! ·)

section
variable {X : Cx}
def rDc (K : PySem.W.Frag) (f : D → D → Option Bool) : R2 := fun x y H Q => ∃ O d e b, Dd K (hid O H) x d ∧ Dd K (hid O H) y e ∧ f d e = some b ∧ Q (.bl b) H
theorem Dd.real {K : PySem.W.Frag} {O : List Addr} {H : Hp} {v : V} {d : D} (h : Dd K (hid O H) v d) : Dd K H v d := h.le hid_le
theorem Dd.isN {K : PySem.W.Frag} {G : Hp} {v : V} {d : D} (h : Dd K G v d) : decide (v = .non) = isNon d := by
  cases h <;> simp [isNon]
theorem cop_in (hu : X.A.units + 65 < cLine) : OpR X (compareOp .In) (rDc X.K copIn) ∧ OpR X (compareOp .NotIn) (rDc X.K fun x y => (copIn x y).map (! ·)) := by
  refine ⟨fun pins s σ H x y v u Q I rx ry ⟨O, d, e, b, hd, he, hf, q⟩ => ?_, fun pins s σ H x y v u Q I rx ry ⟨O, d, e, b, hd, he, hf, q⟩ => ?_⟩
  · obtain ⟨as, r1⟩ := Dp.reads I d x v hd.real.dp rx
    obtain ⟨bs, r2⟩ := Dp.reads I e y u he.real.dp ry
    unfold copIn at hf
    split at hf
    · split at hf
      · rename_i hc
        cases hf
        exact SeqAt.in_list_reads r2 r1 (SeqAt.canLay_of_shaped hc.2) (SeqAt.canLay_of_shaped hc.1) (room_in_shaped hc.1 hu) ⟨.bl _, H, I, rfl, q⟩
      · cases hf
    · split at hf
      · rename_i hc
        cases hf
        exact SeqAt.in_tuple_reads r2 r1 (SeqAt.canLay_of_shaped hc.2) (SeqAt.canLay_of_shaped hc.1) (room_in_shaped hc.1 hu) ⟨.bl _, H, I, rfl, q⟩
      · cases hf
    · cases hf
  · obtain ⟨as, r1⟩ := Dp.reads I d x v hd.real.dp rx
    obtain ⟨bs, r2⟩ := Dp.reads I e y u he.real.dp ry
    obtain ⟨b', hg, rfl⟩ := Option.map_eq_some_iff.mp (show Option.map (! ·) (copIn d e) = some b from hf)
    clear hf
    rename copIn d e = some b' => hf
    unfold copIn at hf
    split at hf
    · split at hf
      · rename_i hc
        cases hf
        exact SeqAt.notIn_list_reads r2 r1 (SeqAt.canLay_of_shaped hc.2) (SeqAt.canLay_of_shaped hc.1) (room_in_shaped hc.1 hu) ⟨.bl _, H, I, rfl, q⟩
      · cases hf
    · split at hf
      · rename_i hc
        cases hf
        exact SeqAt.notIn_tuple_reads r2 r1 (SeqAt.canLay_of_shaped hc.2) (SeqAt.canLay_of_shaped hc.1) (room_in_shaped hc.1 hu) ⟨.bl _, H, I, rfl, q⟩
      · cases hf
    · cases hf
theorem cop_lt (hu : X.A.units + 65 < cLine) : OpR X (compareOp .Lt) (rDc X.K copLt) := by
  intro pins s σ H x y v u Q I rx ry ⟨O, d, e, b, hd, he, hf, q⟩
  unfold copLt at hf
  split at hf
  · cases hf
    exact op_lt pins s σ H x y v u Q I rx ry ⟨_, _, hd.int_inv, he.int_inv, q⟩
  · split at hf
    · rename_i hc
      cases hf
      obtain ⟨as, r1⟩ := Dp.reads I _ x v hd.real.dp rx
      obtain ⟨bs, r2⟩ := Dp.reads I _ y u he.real.dp ry
      exact PySem.W.rcLt_alike _ _ X.A s v u as bs r1 r2 hc.1 (fun z => nomatch z) (SeqAt.room_of_shaped hc.2 (by omega)) _ _ _ _ ⟨.bl _, H, I, rfl, q⟩
    · cases hf
  · cases hf
theorem cop_I {op : CmpOp} {f : Int → Int → Bool} (h : OpR X (compareOp op) (rI0 fun i j => .bl (f i j))) : OpR X (compareOp op) (rDc X.K (copI f)) := by
  intro pins s σ H x y v u Q I rx ry ⟨O, d, e, b, hd, he, hf, q⟩
  unfold copI at hf
  split at hf
  · cases hf
    exact h pins s σ H x y v u Q I rx ry ⟨_, _, hd.int_inv, he.int_inv, q⟩
  · cases hf
theorem cop_is : OpR X (compareOp .Is) (rDc X.K copIs) ∧ OpR X (compareOp .IsNot) (rDc X.K fun x y => (copIs x y).map (! ·)) := by
  refine ⟨fun pins s σ H x y v u Q I rx ry ⟨O, d, e, b, hd, he, hf, q⟩ => ?_, fun pins s σ H x y v u Q I rx ry ⟨O, d, e, b, hd, he, hf, q⟩ => ?_⟩
  · unfold copIs at hf
    split at hf
    · cases hf
      exact op_isN pins s σ H x y v u Q I rx ry ⟨he.non_inv, by rw [hd.isN]; exact q⟩
    · split at hf
      · cases hf
        exact op_isBl pins s σ H x y v u Q I rx ry ⟨_, _, hd.bl_inv, he.bl_inv, q⟩
      · cases hf
    · cases hf
  · obtain ⟨b', hg, rfl⟩ := Option.map_eq_some_iff.mp (show Option.map (! ·) (copIs d e) = some b from hf)
    clear hf
    rename copIs d e = some b' => hf
    unfold copIs at hf
    split at hf
    · cases hf
      exact op_notN pins s σ H x y v u Q I rx ry ⟨he.non_inv, by rw [hd.isN]; exact q⟩
    · split at hf
      · cases hf
        exact op_notBl pins s σ H x y v u Q I rx ry ⟨_, _, hd.bl_inv, he.bl_inv, q⟩
      · cases hf
    · cases hf
theorem cop_ok (hu : X.A.units + 65 < cLine) : ∀ o : Cop, OpR X (compareOp o.op) (rDc X.K (cop o))
  | .eq => fun pins s σ H x y v u Q I rx ry ⟨O, d, e, b, hd, he, hf, q⟩ => by
    simp only [cop] at hf
    rcases copEq_cases hf with ⟨s1, s2, rfl, rfl, rfl⟩ | ⟨h1, h2, rfl⟩
    · have e1 := hd.str_inv
      have e2 := he.str_inv
      subst e1 e2
      refine op_eq pins s σ H _ _ v u Q I rx ry ⟨rfl, ?_⟩
      rw [show decide (V.str s1 = V.str s2) = decide (s1 = s2) by simp]
      exact q
    · exact op_eqD (by omega) pins s σ H x y v u Q I rx ry ⟨d, e, hd.real.dp, he.real.dp, h1, h2, q⟩
  | .ne => fun pins s σ H x y v u Q I rx ry ⟨O, d, e, b, hd, he, hf, q⟩ => by
    simp only [cop] at hf
    obtain ⟨b0, hf0, rfl⟩ := Option.map_eq_some_iff.mp hf
    rcases copEq_cases hf0 with ⟨s1, s2, rfl, rfl, rfl⟩ | ⟨h1, h2, rfl⟩
    · have e1 := hd.str_inv
      have e2 := he.str_inv
      subst e1 e2
      refine op_ne pins s σ H _ _ v u Q I rx ry ⟨rfl, ?_⟩
      rw [show decide (V.str s1 = V.str s2) = decide (s1 = s2) by simp]
      exact q
    · exact op_neD (by omega) pins s σ H x y v u Q I rx ry ⟨d, e, hd.real.dp, he.real.dp, h1, h2, q⟩
  | .lt => cop_lt hu
  | .le => cop_I op_le
  | .gt => cop_I op_gt
  | .ge => cop_I op_ge
  | .inn => (cop_in hu).1
  | .nin => (cop_in hu).2
  | .is => cop_is.1
  | .isn => cop_is.2
end
end DR
/-! Part s: sorted of tuples, an empty one among them or not. -/
namespace DR
open PySem PySem.Spec PyProof.Rows PySem.W PySem.SeqAt

section
variable {prog : Program} {w : World} {A : Around} {E : Value → Shared → Prop} {s : Shared}

/-- two alike tuples, as sorting compares keys of one type -/
theorem oneLt_tup {xs ys : List PyData} {a b : Value} {as bs : List Addr} {Q : Bool → Shared → Prop}
    (ra : Reads s.heap a (.tuple xs) as) (rb : Reads s.heap b (.tuple ys) bs) (h : alike (.tuple xs) (.tuple ys) = true)
    (hu : A.units + min (PyData.tuple xs).depth (PyData.tuple ys).depth < cLine) (hq : Q (dataLt (.tuple xs) (.tuple ys)) s) :
    wpAny (model prog w) A (oneLt' true a b) Q E s := by
  have al : alikeAll xs ys = true := by simpa [alike] using h
  cases ra with
  | @tuple l o vs n _ as₁ h1 h2 h3 h4 =>
    cases rb with
    | @tuple l' o' ws n' _ bs₁ k1 k2 k3 k4 =>
      have n1 : vs.size = xs.length := by simpa using SeqAt.ReadsAll.length _ _ _ h4
      have n2 : ws.size = ys.length := by simpa using SeqAt.ReadsAll.length _ _ _ k4
      have hl : s.heap.IsTuple l vs := ⟨_, h1, h2, _, h3⟩
      have hb : s.heap.IsTuple l' ws := ⟨_, k1, k2, _, k3⟩
      have he : ∀ j (j1 : j < vs.size) (j2 : j < ws.size), EqAt A.in1 s vs[j] ws[j] (pairEq xs ys j) := by
        intro j j1 j2
        have q := eqAt_alikeAll xs ys A.in1 s vs.toList ws.toList _ _ h4 k4 al (room_in hu) j (by simpa using j1) (by simpa using j2)
        rwa [Array.getElem_toList, Array.getElem_toList] at q
      have hr : ∀ j (j1 : j < vs.size) (j2 : j < ws.size), pairEq xs ys j = false → RcLt A.in1 s vs[j] ws[j] (dataLt (xs.getD j .none) (ys.getD j .none)) := by
        intro j j1 j2 hj
        have q := rcLt_alikeAll xs ys A.in1 s vs.toList ws.toList _ _ h4 k4 al (room_in hu) j (by simpa using j1) (by simpa using j2) hj
        rwa [Array.getElem_toList, Array.getElem_toList] at q
      rw [dataLt_tuple, ← firstLt_toks xs ys al, ← n1, ← n2] at hq
      rw [oneLt'_eq]
      simp only [if_true]
      refine wpAny_bind (wpAny_cRoomFor (room_here hu) (wpAny_bind (wpAny_callSpecialIfBound?_slot (T := "tuple") ⟨_, h1, h2⟩ F.slot_tuple_lt ?_)))
      obtain ⟨⟨cls, dd, data, sl⟩, ho, hc, m, hd⟩ := id hl
      obtain ⟨⟨cls2, dd2, data2, sl2⟩, ho2, hc2, m2, hd2⟩ := id hb
      simp only at hc hd hc2 hd2
      subst hc hd hc2 hd2
      exact call_meets F.slot_tuple_lt ⟨_, ho, rfl⟩ F.entry_tuple_lt (F.args_tuple_lt_2 _ _)
        (tuple_ltAt l l' vs ws m m2 dd dd2 sl sl2 (pairEq xs ys) fun j => dataLt (xs.getD j .none) (ys.getD j .none)) ⟨ho, ho2, he, hr, wpAny_truthy_bool hq⟩

/-- the first item of a tuple that reads as data -/
theorem first_tup {v : Value} {xs : List PyData} {as : List Addr} {Q : Option Value → Shared → Prop} (r : Reads s.heap v (.tuple xs) as)
    (h : ∀ o : Option Value, (xs = [] → o = none) → (xs ≠ [] → ∃ f, o = some f) → Q o s) : wpAny (model prog w) A (firstOfTuple' v) Q E s := by
  cases r with
  | @tuple l o vs n _ as₁ h1 h2 h3 h4 =>
    have n1 : vs.size = xs.length := by simpa using SeqAt.ReadsAll.length _ _ _ h4
    rw [kas_first_eq]
    refine wpAny_bind ((looks_reads (Reads.tuple h1 h2 h3 h4)).here ?_)
    rw [if_neg (by simp [dataType])]
    refine wpAny_bind (listItems_at h1 h3 (wpAny_pure (h _ (fun e => ?_) fun e => ?_)))
    · subst e
      exact Array.getElem?_eq_none (Nat.le_of_eq n1)
    · have : 0 < vs.size := by
        rw [n1]
        exact List.length_pos_iff.mpr e
      exact ⟨vs[0], Array.getElem?_eq_getElem this⟩
theorem firsts_tup : ∀ {vs : List Value} {ds : List PyData} {Q : List (Option Value) → Shared → Prop}, EachIs (fun v d => ∃ as, Reads s.heap v d as) vs ds → (∀ d ∈ ds, ∃ xs, d = .tuple xs) →
    (∀ fs : List (Option Value), fs.length = ds.length → ((fs.all (·.isSome)) = true → ∀ d ∈ ds, d ≠ .tuple []) → Q fs s) → wpAny (model prog w) A (vs.mapM firstOfTuple') Q E s
  | _, _, _, .nil, _, h => by
    rw [List.mapM_nil]
    exact wpAny_pure (h [] rfl fun _ _ z => nomatch z)
  | _, _, Q, .cons (b := d) (bs := ds) ⟨as, r⟩ t, ht, h => by
    obtain ⟨xs, rfl⟩ := ht _ (List.mem_cons_self ..)
    rw [List.mapM_cons]
    refine wpAny_bind (first_tup r fun o h1 h2 => wpAny_bind ?_)
    refine firsts_tup t (fun d hd => ht d (List.mem_cons_of_mem _ hd)) fun fs hl hn => wpAny_pure (h (o :: fs) (by simp [hl]) fun ha d hd => ?_)
    rw [List.all_cons, Bool.and_eq_true] at ha
    rcases List.mem_cons.mp hd with rfl | hd
    · rintro ⟨⟩
      rw [h1 rfl] at ha
      exact absurd ha.1 (by simp)
    · exact hn ha.2 d hd
/-- the kind that sorting chooses for tuples of which one is empty: by the first of them -/
theorem kind_tups {v : Value} {vs : List Value} {ys : List PyData} {ds : List PyData} {as : List Addr} {Q : SortKind → Shared → Prop} (r : Reads s.heap v (.tuple ys) as) (e : EachIs (fun v d => ∃ as, Reads s.heap v d as) vs ds)
    (ht : ∀ d ∈ ds, ∃ xs, d = .tuple xs) (hn : ∃ d ∈ .tuple ys :: ds, d = .tuple [])
    (h1 : ys ≠ [] → Q general' s) (h2 : ys = [] → Q oneType' s) : wpAny (model prog w) A (keyKind' (v :: vs).toArray) Q E s := by
  rw [keyKind'_eq, List.mapM_toArray, map_eq_pure_bind, List.mapM_cons]
  refine wpAny_bind (wpAny_bind (wpAny_bind (first_tup r fun o o1 o2 => wpAny_bind (firsts_tup e ht fun fs hl ha => wpAny_pure (wpAny_pure ?_)))))
  have hna : ¬ ((o :: fs).toArray.all fun x => x.isSome) = true := by
    intro z
    obtain ⟨d, hd, e0⟩ := hn
    have z' : o.isSome = true ∧ fs.all (·.isSome) = true := by simpa using z
    rcases List.mem_cons.mp hd with q | hd
    · rw [e0] at q
      cases q
      rw [o1 rfl] at z'
      exact absurd z'.1 (by simp)
    · exact ha z'.2 d hd e0
  rw [if_neg hna]
  have first : (((o :: fs).toArray)[0]?.bind id) = o := by simp
  rw [first]
  by_cases hy : ys = []
  · rw [if_neg (by rw [o1 hy]; simp), oneTypeOnly'_eq, List.mapM_toArray, map_eq_pure_bind]
    refine wpAny_bind (wpAny_bind (wpAny_bind (kas_mapM (r := Value.type "tuple") _ (fun u hu Q' hq => ?_) (wpAny_pure ?_))))
    · rcases List.mem_cons.mp hu with rfl | hu
      · exact (looks_reads r).here hq
      · obtain ⟨d, hd, as, r⟩ := e.left u hu
        obtain ⟨xs, rfl⟩ := ht d hd
        exact (looks_reads r).here hq
    · have h0 : (List.map (fun _ => Value.type "tuple") (v :: vs)).toArray[0]? = some (Value.type "tuple") := by simp
      have hall : ((List.map (fun _ => Value.type "tuple") (v :: vs)).toArray.all fun x => x == Value.type "tuple") = true := by
        simp only [List.all_toArray, List.all_map, List.all_eq_true]
        intro _ _
        rfl
      rw [h0]
      simp only [hall, if_true]
      exact wpAny_pure (wpAny_pure (h2 hy))
  · obtain ⟨f, rfl⟩ := o2 hy
    rw [if_pos (by simp)]
    exact wpAny_pure (h1 hy)
/-- alike tuples can be sorted, empty ones too -/
theorem sorts_tups {vs : List Value} {ds : List PyData} (e : EachIs (fun v d => ∃ as, Reads s.heap v d as) vs ds) (hal : AllAlike ds) (ht : ∀ d ∈ ds, ∃ xs, d = .tuple xs) (hu : ∀ d, d ∈ ds → A.units + d.depth < cLine) :
    SortsAt prog w A s (dataKind s.heap ds) vs := by
  by_cases hn : ∃ d ∈ ds, d = PyData.tuple []
  · have hk : ∀ v, v ∈ vs → ∃ a, (dataKind s.heap ds).keyOf v = some a := fun v hv => by
      obtain ⟨d, hd, as, r⟩ := e.left v hv
      exact ⟨_, dataKind_some hal hd r⟩
    have lt : ∀ f : Bool, ∀ (E : Value → Shared → Prop) (x y : Value) (a b : (dataKind s.heap ds).α) {Q : Bool → Shared → Prop}, (dataKind s.heap ds).keyOf x = some a → (dataKind s.heap ds).keyOf y = some b →
        Q ((dataKind s.heap ds).blt a b) s → wpAny (model prog w) A (oneLt' f x y) Q E s := by
      intro f E x y a b Q ha hb hq
      obtain ⟨d, as, hd, ra, rfl⟩ := dataKind_inv ha
      obtain ⟨d', as', hd', rb, rfl⟩ := dataKind_inv hb
      have al := hal d hd d' hd'
      have room : A.units + min d.depth d'.depth < cLine := Nat.lt_of_le_of_lt (Nat.add_le_add_left (Nat.min_le_left _ _) _) (hu d hd)
      obtain ⟨xs, rfl⟩ := ht d hd
      obtain ⟨ys, rfl⟩ := ht d' hd'
      cases f with
      | true => exact oneLt_tup ra rb al room hq
      | false => exact oneLt_alike (fun z => nomatch z) ra rb al (fun z => nomatch z) room hq
    refine ⟨hk, ?_⟩
    cases e with
    | nil => exact ⟨general', fun E x y a b Q => lt false E x y a b, fun h2 => absurd h2 (by simp)⟩
    | @cons v d vs' ds' r0 t =>
      obtain ⟨ys, rfl⟩ := ht _ (List.mem_cons_self ..)
      obtain ⟨as, r⟩ := r0
      have ht' : ∀ d ∈ ds', ∃ xs, d = PyData.tuple xs := fun d hd => ht d (List.mem_cons_of_mem _ hd)
      by_cases hy : ys = []
      · exact ⟨oneType', fun E x y a b Q => lt true E x y a b, fun _ E Q hq => kind_tups r t ht' hn (fun z => absurd hy z) fun _ => hq⟩
      · exact ⟨general', fun E x y a b Q => lt false E x y a b, fun _ E Q hq => kind_tups r t ht' hn (fun _ => hq) fun z => absurd z hy⟩
  · exact SortsAt.data e hal (.inl fun d hd => by
      obtain ⟨xs, rfl⟩ := ht d hd
      cases xs with
      | nil => exact absurd ⟨_, hd, rfl⟩ hn
      | cons x r => exact ⟨x, r, rfl⟩) hu
end
end DR
/-! Part e: subscripts, slices, built-in functions of data. -/
namespace DR
open PySem PySem.Spec PyProof.Rows L2
open PySem.W (alike dataLt dataLe AllAlike EachIs)

section
variable {X : Cx} {K : PySem.W.Frag} {G : Hp}
/-- a one-place function of data -/
def rD1 (K : PySem.W.Frag) (f : D → Option D) : V → Hp → VK → Prop := fun x H Q => ∃ O d r, Hx O H ∧ Dd K (hid O H) x d ∧ f d = some r ∧ Out K O H r Q
/-- a call of one argument -/
def rC1 (K : PySem.W.Frag) (f : D → Option D) : List V → Hp → VK → Prop := fun xs H Q => ∃ x, xs = [x] ∧ rD1 K f x H Q

/-! -x -/
def unNeg : D → Option D
  | .int i => some (.int (-i))
  | _ => none
theorem un_negD : UnR X (unaryOp .USub) (rD1 X.K unNeg) := by
  intro pins s σ H x v Q I rx ⟨O, d, r, hx, hd, hf, out⟩
  unfold unNeg at hf
  split at hf
  · cases hf
    exact un_neg pins s σ H x v Q I rx ⟨_, hd.int_inv, out.here (.int _)⟩
  · cases hf

/-! truth -/
def tru : D → Option Bool
  | .none => some false
  | .bool b => some b
  | .int i => some (i != 0)
  | .str x => if x.length ≤ 1000000 then some ((x.length : Int) != 0) else none
  | .list xs => some (!xs.isEmpty)
  | .tuple xs => some (!xs.isEmpty)
  | .dict _ => none
theorem isEmpty_ds {vs : List V} {ds : List D} (h : Ds K G vs ds) : vs.isEmpty = ds.isEmpty := by
  cases h <;> rfl
theorem tru_V {O : List Addr} {H : Hp} {v : V} {d : D} {b : Bool} (h : Dd K (hid O H) v d) (e : tru d = some b) : TruV K v H b := by
  unfold tru at e
  split at e
  · rw [h.non_inv]
    exact (Option.some.inj e).symm
  · rw [h.bl_inv]
    exact (Option.some.inj e).symm
  · rw [h.int_inv]
    exact (Option.some.inj e).symm
  · rw [h.str_inv]
    split at e
    · rename_i hz
      exact ⟨line_le hz, (Option.some.inj e).symm⟩
    · cases e
  · obtain ⟨a, xs, rfl, t, s⟩ := h.lst_inv
    exact .inl ⟨xs, .inl (.inl (lst_real t)), by rw [isEmpty_ds s]; exact (Option.some.inj e).symm⟩
  · obtain ⟨a, xs, rfl, t, s⟩ := h.tup_inv
    exact .inr (.inl ⟨xs, sqT_real t, by rw [isEmpty_ds s]; exact (Option.some.inj e).symm⟩)
  · cases e

/-! subscripts -/
def ixD : D → D → Option D
  | .list xs, .int i => atI xs i
  | .tuple xs, .int i => atI xs i
  | _, _ => none
theorem atI_ds {vs : List V} {ds : List D} {i : Int} {d : D} (h : Ds K G vs ds) (e : atI ds i = some d) : ∃ v, atI vs i = some v ∧ Dd K G v d := by
  unfold atI at e ⊢
  rw [h.length]
  cases q : ixN ds.length i with
  | none =>
    rw [q] at e
    cases e
  | some j =>
    rw [q] at e
    exact h.get e
theorem ix_D : IxR X (rD2 X.K ixD) := by
  intro value slice pins s σ H x y v u Q I rx ry ⟨O, d, e, r, hx, hd, he, hf, out⟩ hp
  unfold ixD at hf
  split at hf
  · obtain ⟨a, xs, rfl, t, sd⟩ := hd.lst_inv
    obtain ⟨w, hw, dw⟩ := atI_ds sd hf
    exact ix_list value slice pins s σ H _ _ v u Q I rx ry ⟨a, xs, _, w, rfl, he.int_inv, .inl (.inl (lst_real t)), hw, out.here dw⟩ hp
  · obtain ⟨a, xs, rfl, t, sd⟩ := hd.tup_inv
    obtain ⟨w, hw, dw⟩ := atI_ds sd hf
    exact ix_tup value slice pins s σ H _ _ v u Q I rx ry ⟨a, xs, _, w, rfl, he.int_inv, sqT_real t, hw, out.here dw⟩ hp
  · cases hf

/-! slices -/
def cutD (xs : List D) (lo hi : Option Int) : List D := (xs.drop (HT.sIx xs.length 0 lo)).take (HT.sIx xs.length xs.length hi - HT.sIx xs.length 0 lo)
def slD (d : D) (lo hi : Option Int) : Option D := match d with
  | .list xs => some (.list (cutD xs lo hi))
  | .tuple xs => some (.tuple (cutD xs lo hi))
  | _ => none
theorem cut_ds {vs : List V} {ds : List D} (h : Ds K G vs ds) (lo hi : Option Int) : Ds K G (cutV vs lo hi) (cutD ds lo hi) := by
  unfold cutV cutD
  rw [h.length]
  exact (h.drop _).take _
def rSlD (K : PySem.W.Frag) : V → Option Int → Option Int → Hp → VK → Prop := fun x lo hi H Q => ∃ O d r, Hx O H ∧ Dd K (hid O H) x d ∧ slD d lo hi = some r ∧ Out K O H r Q
theorem cut_whole (xs : List D) (lo hi : Option Int) (h : HT.sIx xs.length 0 lo = 0 ∧ HT.sIx xs.length xs.length hi = xs.length) : cutD xs lo hi = xs := by
  unfold cutD
  rw [h.1, h.2, List.drop_zero, Nat.sub_zero, List.take_length]
theorem sl_D : SlR X (rSlD X.K) := by
  intro pins s σ H x v vl vu lo hi sl Q I rx hs pl pu ⟨O, d, r, hx, hd, hf, out⟩
  unfold slD at hf
  split at hf
  · cases hf
    obtain ⟨a, xs, rfl, t, sd⟩ := hd.lst_inv
    exact sl_list pins s σ H _ v vl vu lo hi sl Q I rx hs pl pu ⟨a, xs, rfl, .inl (.inl (lst_real t)), out.lst hx (cut_ds sd lo hi)⟩
  · cases hf
    obtain ⟨a, xs, rfl, t, sd⟩ := hd.tup_inv
    refine sl_tupA pins s σ H _ v vl vu lo hi sl Q I rx hs pl pu ⟨a, xs, rfl, sqT_real t, fun z => ?_, fun _ => out.tup hx (cut_ds sd lo hi)⟩
    rw [sd.length] at z
    rw [cut_whole _ lo hi z] at out
    exact out.here hd
  · cases hf

/-! len, tuple, list, all, any, max, min -/
def lenD : D → Option D
  | .list xs => some (.int xs.length)
  | .tuple xs => some (.int xs.length)
  | .str x => if x.length ≤ 1000000 then some (.int x.length) else none
  | _ => none
theorem call_lenD1 : CallR X (.builtin "len") (rC1 X.K lenD) := by
  intro pins s σ H xs us Q I rv ⟨x, e, O, d, r, hx, hd, hf, out⟩
  subst e
  unfold lenD at hf
  split at hf
  · cases hf
    obtain ⟨a, vs, rfl, t, sd⟩ := hd.lst_inv
    exact call_len_seq pins s σ H _ us Q I rv ⟨a, vs, rfl, .inl (.inl (.inl (lst_real t))), by rw [sd.length]; exact out.here (.int _)⟩
  · cases hf
    obtain ⟨a, vs, rfl, t, sd⟩ := hd.tup_inv
    exact call_len_seq pins s σ H _ us Q I rv ⟨a, vs, rfl, .inr (sqT_real t), by rw [sd.length]; exact out.here (.int _)⟩
  · split at hf
    · cases hf
      rename_i hz
      exact call_len_str pins s σ H _ us Q I rv ⟨_, congrArg (fun z => [z]) hd.str_inv, line_le hz, out.here (.int _)⟩
    · cases hf
  · cases hf
def tupD : D → Option D
  | .list xs => some (.tuple xs)
  | .tuple xs => some (.tuple xs)
  | _ => none
theorem call_tupD : CallR X (.type "tuple") (rC1 X.K tupD) := by
  intro pins s σ H xs us Q I rv ⟨x, e, O, d, r, hx, hd, hf, out⟩
  subst e
  unfold tupD at hf
  split at hf
  · cases hf
    obtain ⟨a, vs, rfl, t, sd⟩ := hd.lst_inv
    exact call_tuple_of pins s σ H _ us Q I rv ⟨a, vs, rfl, .inl ⟨.inl (.inl (lst_real t)), out.tup hx sd⟩⟩
  · cases hf
    obtain ⟨a, vs, rfl, t, sd⟩ := hd.tup_inv
    exact call_tuple_of pins s σ H _ us Q I rv ⟨a, vs, rfl, .inr ⟨sqT_real t, out.here hd⟩⟩
  · cases hf
def lstD : D → Option D
  | .list xs => some (.list xs)
  | .tuple xs => some (.list xs)
  | _ => none
theorem call_lstD : CallR X (.type "list") (rC1 X.K lstD) := by
  intro pins s σ H xs us Q I rv ⟨x, e, O, d, r, hx, hd, hf, out⟩
  subst e
  unfold lstD at hf
  split at hf
  · cases hf
    obtain ⟨a, vs, rfl, t, sd⟩ := hd.lst_inv
    exact call_list_of pins s σ H _ us Q I rv ⟨a, vs, rfl, .inl (.inl (.inl (lst_real t))), out.lst hx sd⟩
  · cases hf
    obtain ⟨a, vs, rfl, t, sd⟩ := hd.tup_inv
    exact call_list_of pins s σ H _ us Q I rv ⟨a, vs, rfl, .inr (sqT_real t), out.lst hx sd⟩
  · cases hf
/-- a list of truth values -/
def boolsOf : List D → Option (List Bool)
  | [] => some []
  | .bool b :: r => (boolsOf r).map (b :: ·)
  | _ => none
theorem boolsOf_eq : ∀ {ds : List D} {bs : List Bool}, boolsOf ds = some bs → ds = bs.map .bool
  | [], bs, h => by
    cases h
    rfl
  | .bool b :: r, bs, h => by
    obtain ⟨cs, h1, rfl⟩ := Option.map_eq_some_iff.mp (show Option.map (b :: ·) (boolsOf r) = some bs from h)
    rw [boolsOf_eq h1]
    rfl
  | .none :: _, _, h | .int _ :: _, _, h | .str _ :: _, _, h | .list _ :: _, _, h | .tuple _ :: _, _, h | .dict _ :: _, _, h => by cases h
def allD : D → Option D
  | .list xs => (boolsOf xs).map fun bs => .bool (bs.all id)
  | _ => none
def anyD : D → Option D
  | .list xs => (boolsOf xs).map fun bs => .bool (bs.any id)
  | _ => none
theorem call_allD (hc : X.calm = true) : CallR X (.builtin "all") (rC1 X.K allD) := by
  intro pins s σ H xs us Q I rv ⟨x, e, O, d, r, hx, hd, hf, out⟩
  subst e
  unfold allD at hf
  split at hf
  · obtain ⟨bs, h1, rfl⟩ := Option.map_eq_some_iff.mp hf
    obtain ⟨a, vs, rfl, t, sd⟩ := hd.lst_inv
    rw [boolsOf_eq h1] at sd
    have e := sd.bools
    subst e
    exact cr_all hc pins s σ H _ us Q I rv ⟨a, bs, rfl, .inl (.inl (lst_real t)), out.here (.bl _)⟩
  · cases hf
theorem call_anyD (hc : X.calm = true) : CallR X (.builtin "any") (rC1 X.K anyD) := by
  intro pins s σ H xs us Q I rv ⟨x, e, O, d, r, hx, hd, hf, out⟩
  subst e
  unfold anyD at hf
  split at hf
  · obtain ⟨bs, h1, rfl⟩ := Option.map_eq_some_iff.mp hf
    obtain ⟨a, vs, rfl, t, sd⟩ := hd.lst_inv
    rw [boolsOf_eq h1] at sd
    have e := sd.bools
    subst e
    exact cr_any hc pins s σ H _ us Q I rv ⟨a, bs, rfl, .inl (.inl (lst_real t)), out.here (.bl _)⟩
  · cases hf
def intsOf : List D → Option (List Int)
  | [] => some []
  | .int b :: r => (intsOf r).map (b :: ·)
  | _ => none
theorem intsOf_eq : ∀ {ds : List D} {bs : List Int}, intsOf ds = some bs → ds = bs.map .int
  | [], bs, h => by
    cases h
    rfl
  | .int b :: r, bs, h => by
    obtain ⟨cs, h1, rfl⟩ := Option.map_eq_some_iff.mp (show Option.map (b :: ·) (intsOf r) = some bs from h)
    rw [intsOf_eq h1]
    rfl
  | .none :: _, _, h | .bool _ :: _, _, h | .str _ :: _, _, h | .list _ :: _, _, h | .tuple _ :: _, _, h | .dict _ :: _, _, h => by cases h
theorem intsOf_ints : ∀ ns : List Int, intsOf (ns.map .int) = some ns
  | [] => rfl
  | n :: ns => by
    show (intsOf (ns.map .int)).map (n :: ·) = some (n :: ns)
    rw [intsOf_ints ns]
    rfl
/-- the least of a list of ints -/
def minOf : List Int → Option Int
  | [] => none
  | n :: ns => some (ns.foldl min n)
theorem foldl_min : ∀ (ns : List Int) (n : Int), (ns.foldl min n ∈ n :: ns) ∧ ∀ y ∈ n :: ns, ns.foldl min n ≤ y
  | [], n => ⟨by simp, by simp⟩
  | m :: ns, n => by
    obtain ⟨h1, h2⟩ := foldl_min ns (min n m)
    refine ⟨?_, fun y hy => ?_⟩
    · show ns.foldl min (min n m) ∈ n :: m :: ns
      rcases List.mem_cons.mp h1 with e | e
      · rw [e]
        rcases Int.le_total n m with q | q
        · rw [Int.min_eq_left q]; exact List.mem_cons_self ..
        · rw [Int.min_eq_right q]; exact List.mem_cons_of_mem _ (List.mem_cons_self ..)
      · exact List.mem_cons_of_mem _ (List.mem_cons_of_mem _ e)
    · show ns.foldl min (min n m) ≤ y
      have h3 := h2 (min n m) (List.mem_cons_self ..)
      rcases List.mem_cons.mp hy with rfl | hy
      · omega
      · rcases List.mem_cons.mp hy with rfl | hy
        · omega
        · exact h2 y (List.mem_cons_of_mem _ hy)
def minD : D → Option D
  | .list xs => (intsOf xs).bind fun ns => (minOf ns).map .int
  | _ => none
theorem call_minD (hc : X.calm = true) : CallR X (.builtin "min") (rC1 X.K minD) := by
  intro pins s σ H xs us Q I rv ⟨x, e, O, d, r, hx, hd, hf, out⟩
  subst e
  unfold minD at hf
  split at hf
  · obtain ⟨ns, h1, h2⟩ := Option.bind_eq_some_iff.mp hf
    obtain ⟨m, h3, rfl⟩ := Option.map_eq_some_iff.mp h2
    obtain ⟨a, vs, rfl, t, sd⟩ := hd.lst_inv
    rw [intsOf_eq h1] at sd
    have e := sd.ints
    subst e
    cases ns with
    | nil => cases h3
    | cons n ns =>
      cases h3
      refine cr_min hc pins s σ H _ us Q I rv ⟨a, n :: ns, rfl, .inl (.inl (lst_real t)), by simp, fun m hm hle => ?_⟩
      obtain ⟨f1, f2⟩ := foldl_min ns n
      have : m = ns.foldl min n := Int.le_antisymm (hle _ f1) (f2 m hm)
      rw [this]
      exact out.here (.int _)
  · cases hf
/-- max(a, b), min(a, b) -/
def mmD (mx : Bool) : D → D → Option D
  | .int i, .int j => some (.int (if mx then (if j > i then j else i) else (if j < i then j else i)))
  | _, _ => none
def rC2 (K : PySem.W.Frag) (f : D → D → Option D) : List V → Hp → VK → Prop := fun xs H Q => ∃ x y, xs = [x, y] ∧ rD2 K f x y H Q
theorem call_mmD (hc : X.calm = true) (mx : Bool) : CallR X (.builtin (if mx then "max" else "min")) (rC2 X.K (mmD mx)) := by
  intro pins s σ H xs us Q I rv ⟨x, y, e, O, d, e', r, hx, hd, he, hf, out⟩
  subst e
  unfold mmD at hf
  split at hf
  · cases hf
    rw [hd.int_inv, he.int_inv] at rv
    cases mx with
    | true => exact call_max2 hc pins s σ H _ us Q I rv ⟨_, _, rfl, out.here (.int _)⟩
    | false => exact call_min2 hc pins s σ H _ us Q I rv ⟨_, _, rfl, out.here (.int _)⟩
  · cases hf
end
end DR
/-! Part f: isinstance, repr, sorted. -/
namespace DR
open PySem PySem.Spec PyProof.Rows L2
open PySem.W (alike alikeAll dataLt dataLe AllAlike EachIs keyToks)

section
variable {X : Cx} {K : PySem.W.Frag} {G : Hp}
/-! isinstance(x, T) -/
inductive Ty | int | bool | tuple | str | list
  deriving DecidableEq
def Ty.name : Ty → String
  | .int => "int" | .bool => "bool" | .tuple => "tuple" | .str => "str" | .list => "list"
inductive Kd | non | bool | int | str | list | tuple | dict
  deriving DecidableEq
def Kd.name : Kd → String
  | .non => "NoneType" | .bool => "bool" | .int => "int" | .str => "str" | .list => "list" | .tuple => "tuple" | .dict => "dict"
def kd : D → Kd
  | .none => .non | .bool _ => .bool | .int _ => .int | .str _ => .str | .list _ => .list | .tuple _ => .tuple | .dict _ => .dict
def isiK : Ty → Kd → Bool
  | .int, .int => true | .int, .bool => true | .bool, .bool => true | .tuple, .tuple => true | .str, .str => true | .list, .list => true | _, _ => false
def isiD (t : Ty) (d : D) : Bool := isiK t (kd d)
theorem tyX_of {O : List Addr} {H : Hp} {v : V} {d : D} (h : Dd K (hid O H) v d) : TyX K H v (.type (kd d).name) := by
  cases h with
  | non => exact .base .non
  | bl b => exact .base (.bl b)
  | int i => exact .base (.int i)
  | str x => exact .base (.str x)
  | lst t s => exact .base (.lst (lst_real t))
  | tup t s =>
    rcases sqT_real t with (t | ⟨o, t⟩) | ⟨o, its, n, e, c, _⟩
    · exact .base (.tup t)
    · exact .fTuple t
    · exact .kTuple e c
theorem kitB_of (t : Ty) (k : Kd) : kitB k.name t.name = some (isiK t k) := by
  cases t <;> cases k <;> decide +kernel
theorem call_isiD (t : Ty) : CallR X (.builtin "isinstance") (fun xs H Q => ∃ x O d, xs = [x, .ty t.name] ∧ Dd X.K (hid O H) x d ∧ Q (.bl (isiD t d)) H) := by
  intro pins s σ H xs us Q I rv ⟨x, O, d, e, hd, q⟩
  exact call_isi pins s σ H xs us Q I rv ⟨x, .ty t.name, _, _, _, e, .ty _, tyX_of hd, kit_ty (kitB_of t (kd d)), q⟩

/-! repr -/
def reprOk (d : D) : Bool := d.layable0 && (d.intsShort 13 && (d.showable && isDisplay d))
def reprD (d : D) : Option D := if reprOk d = true then some (.str d.shown) else none
theorem call_reprD (hg : X.A.guards = some []) (hu : X.A.units + 66 < cLine) : CallR X (.builtin "repr") (rC1 X.K reprD) := by
  intro pins s σ H xs us Q I rv ⟨x, e, O, d, r, hx, hd, hf, out⟩
  subst e
  unfold reprD at hf
  split at hf
  · rename_i hk
    cases hf
    unfold reprOk at hk
    simp only [Bool.and_eq_true] at hk
    obtain ⟨h1, h2, h3, h4⟩ := hk
    obtain ⟨u, rfl, ru⟩ := Vals.one rv
    obtain ⟨as, rd⟩ := Dp.reads I d x u hd.real.dp ru
    obtain ⟨a, rfl⟩ := isRef_of_reads rd h4
    have dep := PyData.depth_le_of_layable h1
    refine repr_of_reads' rd h3 (PyData.noDict_hsm (PyData.hasDict_of_layable h1)) hg (by omega) (fun _ _ z => z) (fun h' u tk hk => ?_) (PyData.shown_fits_of_layable0 (by omega) (Nat.le_refl 13) h1 h2)
    exact ⟨.str _, H, I.kept hk, ⟨_, rfl⟩, out.here (.str _)⟩
  · cases hf

/-! sorted -/
/-- Python's order of data -/
def leD (a b : D) : Bool := !dataLt b a
def isTup : D → Bool
  | .tuple _ => true
  | _ => false
def isInt : D → Bool
  | .int _ => true
  | _ => false
def sortOk (ds : List D) : Bool := decide (ds.length ≤ 1000000) && (ds.all shp && (ds.all (fun d => ds.all fun e => alike d e) && (ds.all isTup || ds.all isInt)))
/-- a goes before the first one that is not below it -/
def insD (a : D) : List D → List D
  | [] => [a]
  | b :: r => if leD a b = true then a :: b :: r else b :: insD a r
def sortL : List D → List D
  | [] => []
  | a :: r => insD a (sortL r)
theorem leD_trans (a b c : D) (h : leD a b = true) (k : leD b c = true) : leD a c = true := by
  unfold leD at *
  simp only [Bool.not_eq_true'] at *
  exact KeyOrd.kle_trans (O := listOrd itemOrd) h k
theorem leD_total (a b : D) : (leD a b || leD b a) = true := by
  unfold leD
  cases q : dataLt b a with
  | false => rfl
  | true =>
    have z : dataLt a b = false := KeyOrd.klt_asymm (O := listOrd itemOrd) q
    rw [z]
    rfl
theorem insD_at {a : D} : ∀ {l1 l2 : List D}, (∀ b ∈ l1, (!leD a b) = true) → (∀ b ∈ l2, leD a b = true) → insD a (l1 ++ l2) = l1 ++ a :: l2
  | [], [], _, _ => rfl
  | [], b :: r, _, h => by
    show (if leD a b = true then a :: b :: r else b :: insD a r) = _
    rw [if_pos (h b List.mem_cons_self)]
    rfl
  | b :: l1, l2, h1, h2 => by
    have n : ¬ leD a b = true := by simpa using h1 b List.mem_cons_self
    show (if leD a b = true then a :: b :: (l1 ++ l2) else b :: insD a (l1 ++ l2)) = _
    rw [if_neg n, insD_at (fun c m => h1 c (List.mem_cons_of_mem _ m)) h2]
    rfl
theorem sortL_eq : ∀ ds : List D, sortL ds = ds.mergeSort leD
  | [] => by simp [sortL]
  | a :: r => by
    obtain ⟨l1, l2, e1, e2, e3⟩ := List.mergeSort_cons leD_trans leD_total a r
    have p := List.pairwise_mergeSort leD_trans leD_total (a :: r)
    rw [e1] at p
    show insD a (sortL r) = _
    rw [sortL_eq r, e1, e2]
    exact insD_at e3 fun b m => (List.pairwise_cons.mp (List.pairwise_append.mp p).2.1).1 b m
def sortD : D → Option D
  | .list xs => if sortOk xs = true then some (.list (sortL xs)) else none
  | _ => none
theorem vals_each : ∀ {vs : List V} {us : List Value} {ds : List D}, Vals vs us → vs.length = ds.length → EachIs (fun u (p : D × V) => RelV p.2 u) us (ds.zip vs)
  | _, _, [], .nil, _ => .nil
  | _, _, d :: ds, .cons r t, h => .cons r (vals_each t (by simpa using h))
theorem each_vals : ∀ {us : List Value} {ps : List (D × V)}, EachIs (fun u (p : D × V) => RelV p.2 u) us ps → Vals (ps.map Prod.snd) us
  | _, _, .nil => .nil
  | _, _, .cons r t => .cons r (each_vals t)
theorem reads_each : ∀ {us : List Value} {ds : List D} {vs : List V} {as : List Addr} {h : Heap}, ReadsAll h us ds as → us.length = vs.length → EachIs (fun u (p : D × V) => ∃ as, Reads h u p.1 as) us (ds.zip vs)
  | _, [], vs, _, _, r, _ => by
    cases r
    exact .nil
  | _, d :: ds, [], _, _, r, h => by
    cases r
    simp at h
  | _, d :: ds, v :: vs, _, _, r, h => by
    cases r with
    | cons a t => exact .cons ⟨_, a⟩ (reads_each t (by simpa using h))
theorem Ds.pairs : ∀ {vs : List V} {ds : List D}, Ds K G vs ds → ∀ p ∈ ds.zip vs, Dd K G p.2 p.1
  | _, _, .nil, _, h => nomatch h
  | _, _, .cons a t, p, h => by
    rw [List.zip_cons_cons] at h
    rcases List.mem_cons.mp h with rfl | h
    · exact a
    · exact Ds.pairs t p h
theorem Ds.of_pairs : ∀ {ps : List (D × V)}, (∀ p ∈ ps, Dd K G p.2 p.1) → Ds K G (ps.map Prod.snd) (ps.map Prod.fst)
  | [], _ => .nil
  | p :: ps, h => .cons (h p (List.mem_cons_self ..)) (Ds.of_pairs fun q hq => h q (List.mem_cons_of_mem _ hq))
theorem call_sortD (hu : X.A.units + 68 < cLine) : CallR X (.builtin "sorted") (rC1 X.K sortD) := by
  intro pins s σ H xs us Q I rv ⟨x, e, O, d, r, hx, hd, hf, out⟩
  subst e
  unfold sortD at hf
  split at hf
  · rename_i ds
    split at hf
    · rename_i hk
      cases hf
      unfold sortOk at hk
      simp only [Bool.and_eq_true, decide_eq_true_eq, Bool.or_eq_true, List.all_eq_true] at hk
      obtain ⟨hz, hs, hal, hkind⟩ := hk
      obtain ⟨a, vs, rfl, t, sd⟩ := hd.lst_inv
      rw [Vals.ref1 rv]
      obtain ⟨its, rvs, hl, _⟩ := I.list (a := a) (xs := vs) (.inl (.inl (lst_real t)))
      obtain ⟨as, rds⟩ := Dp.readsAll I ds vs its (sd.le hid_le).dp rvs
      have l1 := sd.length
      have l2 := rvs.length
      have eR := vals_each rvs l1
      have hmap : (ds.zip vs).map Prod.fst = ds := List.map_fst_zip (by omega)
      have er : EachIs (fun u (p : D × V) => ∃ as, Reads (PySem.W.sortingHeap (PySem.W.copyHeap s.heap its) (s.heap.objs.size + 1) its) u p.1 as) its (ds.zip vs) :=
        (reads_each rds l2.symm).mono fun _ _ ⟨as, r⟩ => ⟨as, PyProof.Rows.Reads.keeps (fun _ _ => PySem.W.sorting_copy_old) r⟩
      have hal' : AllAlike ((ds.zip vs).map Prod.fst) := by
        rw [hmap]
        exact fun d hd d' hd' => hal d hd d' hd'
      have depth : ∀ d ∈ (ds.zip vs).map Prod.fst, X.A.in1.in1.units + d.depth < cLine := by
        intro d hd
        rw [hmap] at hd
        have := SeqAt.depth_of_shaped (hs d hd)
        show X.A.units + 1 + 1 + d.depth < cLine
        omega
      have ed := PySem.W.each_map (R := fun v d => ∃ as, Reads (PySem.W.sortingHeap (PySem.W.copyHeap s.heap its) (s.heap.objs.size + 1) its) v d as) Prod.fst er
      have S : PySem.W.SortsAt X.prog X.w X.A.in1.in1 { s with heap := PySem.W.sortingHeap (PySem.W.copyHeap s.heap its) (s.heap.objs.size + 1) its } (PySem.W.dataKind (PySem.W.sortingHeap (PySem.W.copyHeap s.heap its) (s.heap.objs.size + 1) its) ((ds.zip vs).map Prod.fst)) its := by
        rcases hkind with ht | hi
        · refine sorts_tups (s := { s with heap := PySem.W.sortingHeap (PySem.W.copyHeap s.heap its) (s.heap.objs.size + 1) its }) ed hal' (fun d hd => ?_) depth
          rw [hmap] at hd
          have := ht d hd
          cases d <;> simp_all [isTup]
        · refine PySem.W.SortsAt.data (s := { s with heap := PySem.W.sortingHeap (PySem.W.copyHeap s.heap its) (s.heap.objs.size + 1) its }) ed hal' (.inr fun d hd => ?_) depth
          rw [hmap] at hd
          obtain ⟨i, rfl⟩ : ∃ i, d = .int i := by
            have := hi d hd
            cases d <;> simp_all [isInt]
          exact ⟨(fun z => nomatch z), (fun _ z => nomatch z)⟩
      refine PySem.W.sorted_vals hl.isList S (line_le (by omega)) ?_
      have so := PySem.W.sortVals_data (h' := PySem.W.sortingHeap (PySem.W.copyHeap s.heap its) (s.heap.objs.size + 1) its) false eR er hal'
      obtain ⟨ep, he'⟩ := PyProof.Rows.sortedAll_at s.heap its (PySem.W.sortVals (PySem.W.dataKind (PySem.W.sortingHeap (PySem.W.copyHeap s.heap its) (s.heap.objs.size + 1) its) ((ds.zip vs).map Prod.fst)) false its its).toArray
      have rv2 := each_vals so
      have sp : Ds X.K (hid O H) (((ds.zip vs).mergeSort (dataLe false Prod.fst)).map Prod.snd) (((ds.zip vs).mergeSort (dataLe false Prod.fst)).map Prod.fst) :=
        Ds.of_pairs fun p hp => sd.pairs p ((List.mergeSort_perm _ _).mem_iff.mp hp)
      have es : ((ds.zip vs).mergeSort (dataLe false Prod.fst)).map Prod.fst = sortL ds := by
        refine (PySem.W.sort_maps (r := dataLe false Prod.fst) (s := leD) Prod.fst (fun a _ b _ => rfl)).trans ?_
        rw [hmap]
        exact (sortL_eq ds).symm
      rw [es] at sp
      have n := I.hok.fresh (Nat.le_succ s.heap.objs.size)
      have lz : (((ds.zip vs).mergeSort (dataLe false Prod.fst)).map Prod.snd).length ≤ sizeLine := by
        rw [sp.length]
        rw [sortL_eq, List.length_mergeSort]
        exact line_le hz
      exact ⟨.ref _, upd H (s.heap.objs.size + 1) (.lst _), I.laid (t' := s.toks) (fun _ _ => PyProof.Rows.sortedAll_old) (Nat.le_succ _) ⟨lz, _, ep, rv2, he'⟩, rfl, out.lst hx sp _ n⟩
    · cases hf
  · cases hf
end
end DR
/-! Part g: a small syntax with slots for names, and what it means over data. -/
namespace DR
open PySem

/-- what a name holds: nothing yet, a datum, a list that this name alone holds, the k-th list lent to the def to be changed, the script -/
inductive Slot where
  | un
  | val (d : D)
  | own (xs : List D)
  | bor (k : Nat) (xs : List D)
  | scr (ns : List Int)
abbrev Env := List Slot
/-- an error: its class and what it carries -/
structure Exn where
  cls : Str
  dat : List (Str × D)
inductive Res (α : Type) where
  | ok (a : α) (ρ : Env)
  | exc (x : Exn) (ρ : Env)
  | bad
def Res.bind {α β : Type} : Res α → (α → Env → Res β) → Res β
  | .ok a ρ, k => k a ρ
  | .exc x ρ, _ => .exc x ρ
  | .bad, _ => .bad
def Res.calm {α : Type} : Res α → Res α
  | .ok a ρ => .ok a ρ
  | _ => .bad
def lift {α : Type} (o : Option α) (ρ : Env) : Res α := match o with
  | some a => .ok a ρ
  | none => .bad
/-- arguments and answers of a def -/
inductive Arg where
  | val (d : D)
  | mut (xs : List D)
  | scr (ns : List Int)
inductive FRes where
  | ok (d : D) (outs : List (List D))
  | new (xs : List D) (outs : List (List D))
  | exc (x : Exn) (outs : List (List D))
  | bad
abbrev Fn := List Arg → FRes

inductive Lit where
  | int (z : Int) | bl (b : Bool) | non | str (s : Str)
def Lit.d : Lit → D
  | .int z => .int z | .bl b => .bool b | .non => .none | .str s => .str s
inductive Bi where
  | len | all | any | tuple | list | min | repr | sorted
  deriving DecidableEq
/-- what a set may hold here: whole numbers, None, and tuples of such -/
def keyOk : Nat → D → Bool
  | _, .int _ => true
  | _, .none => true
  | n + 1, .tuple ds => ds.all (keyOk n)
  | _, _ => false
/-- the different ones, in the order in which they first come -/
def dedup : List D → List D
  | [] => []
  | d :: r => d :: (dedup r).filter fun e => !PyData.eqv d e
def itemsOf : D → Option (List D)
  | .list xs => some xs
  | .tuple xs => some xs
  | _ => none
/-- the different items of a list or tuple of tuples -/
def setL (d : D) : Option (List D) := (itemsOf d).bind fun xs => if xs.all (fun x => isTup x && keyOk 8 x) = true ∧ xs.length ≤ 76 then some (dedup xs) else none
def lenSetD (d : D) : Option D := (setL d).map fun xs => .int (xs.length : Nat)
def sortSetD : D → Option D
  | .tuple xs => if xs.all isInt = true ∧ xs.length < 64 then sortD (.list (dedup xs)) else none
  | _ => none
/-- sorted(a set of whole numbers) -/
def sortIntsD (ds : List D) : Option D := if ds.all isInt = true ∧ ds.length ≤ 600 ∧ (dedup ds).length < 64 then sortD (.list (dedup ds)) else none
/-- xs.count(x) -/
def cntD (ys : List D) (y : D) : Option D := if shp (.list ys) = true ∧ shp y = true then some (.int (ys.countP fun z => PyData.eqv z y : Nat)) else none
/-- x[::-1] -/
def revD : D → Option D
  | .tuple xs => some (.tuple xs.reverse)
  | .list xs => some (.list xs.reverse)
  | _ => none
def biD : Bi → D → Option D
  | .len, d => lenD d
  | .all, d => allD d
  | .any, d => anyD d
  | .tuple, d => tupD d
  | .list, d => lstD d
  | .min, d => minD d
  | .repr, d => reprD d
  | .sorted, d => sortD d

mutual
inductive E where
  | var (i : Nat)
  | lit (c : Lit)
  | gint (x : Str) (z : Int)
  | tup (es : Es)
  | lst (es : Es)
  | bop (o : Bop) (a b : E)
  | neg (a : E)
  | cmp (o : Cop) (a b : E)
  | chain (o o' : Cop) (a b c : E)
  | one (a : E)
  | and (a b : E)
  | or (a b : E)
  | not (a : E)
  | ite (c a b : E)
  | ix (a b : E)
  | ixo (i : Nat) (b : E)
  | sl (a : E) (lo hi : Eo)
  | bi (f : Bi) (a : E)
  | mm (mx : Bool) (a b : E)
  | isi (t : Ty) (a : E)
  | lens (i : Nat)
  | ixs (i : Nat) (b : E)
  | rng (tup : Bool) (a : E)
  | call (f : Nat) (as : As)
  | comp (tg : Tg) (it : It) (c : Eo) (e : E) (vs : List Nat)
  | comp2 (tg : Tg) (it : It) (c : Eo) (tg2 : Tg) (it2 : It) (c2 : Eo) (e : E) (vs vs2 : List Nat)
  | ino (n : Bool) (a : E) (i : Nat)
  | leno (i : Nat)
  | lenset (a : E)
  | sortset (a : E)
  | sortsc (tg : Tg) (it : It) (c : Eo) (e : E) (vs : List Nat)
  | rev (a : E)
  | calltmp (f g : Nat) (as : As) (z : Int)
  | cnt (i : Nat) (b : E)
  | listg (f : Nat) (as : As)
inductive Es where
  | nil
  | cons (e : E) (r : Es)
  | star (e : E) (r : Es)
inductive As where
  | nil
  | val (e : E) (r : As)
  | mut (i : Nat) (r : As)
  | scr (i : Nat) (r : As)
  | lend (i : Nat) (r : As)
inductive It where
  | data (e : E)
  | rng (e : E)
  | zip (a b : E)
  | enum (e : E)
inductive Eo where
  | no
  | yes (e : E)
inductive Tg where
  | nm (i : Nat)
  | tup (ts : Tgs)
inductive Tgs where
  | nil
  | cons (t : Tg) (r : Tgs)
end

/-! environments -/
def Env.at (ρ : Env) (i : Nat) : Slot := ρ.getD i .un
/-- a slot that may be written: its list -/
def wr : Slot → Option (List D)
  | .own xs => some xs
  | .bor _ xs => some xs
  | _ => none
def isScr : Slot → Option (List Int)
  | .scr ns => some ns
  | _ => none
/-- a list that a name holds, to be looked at -/
def cntOf : Slot → Option (List D)
  | .val (.list xs) => some xs
  | _ => none
def isOwn : Slot → Option (List D)
  | .own xs => some xs
  | _ => none
/-- the names vs forgotten -/
def wipeE (ρ : Env) : List Nat → Env
  | [] => ρ
  | v :: vs => (wipeE ρ vs).set v .un
/-- the names vs as they were in ρ -/
def restore (ρ ρ' : Env) : List Nat → Env
  | [] => ρ'
  | v :: vs => (restore ρ ρ' vs).set v (ρ.at v)
def plainAt (ρ : Env) (v : Nat) : Bool := match ρ.at v with
  | .un => true
  | .val _ => true
  | _ => false
mutual
def bindT : Tg → D → Env → Option Env
  | .nm i, d, ρ => if i < ρ.length then some (ρ.set i (.val d)) else none
  | .tup ts, .tuple ds, ρ => bindTs ts ds ρ
  | .tup ts, .list ds, ρ => bindTs ts ds ρ
  | .tup _, _, _ => none
def bindTs : Tgs → List D → Env → Option Env
  | .nil, [], ρ => some ρ
  | .cons t r, d :: ds, ρ => (bindT t d ρ).bind fun ρ1 => bindTs r ds ρ1
  | _, _, _ => none
end
/-- an argument, evaluated: a datum, or a slot -/
inductive Av where
  | v (d : D)
  | m (i : Nat)
  | s (i : Nat)
  | l (i : Nat)
def Av.arg (ρ : Env) : Av → Option Arg
  | .v d => some (.val d)
  | .m i => (wr (ρ.at i)).map .mut
  | .s i => (isScr (ρ.at i)).map .scr
  | .l i => (isOwn (ρ.at i)).map fun xs => .val (.list xs)
def args (ρ : Env) : List Av → Option (List Arg)
  | [] => some []
  | a :: r => (a.arg ρ).bind fun x => (args ρ r).map (x :: ·)
def rew : Slot → List D → Slot
  | .own _, ys => .own ys
  | .bor k _, ys => .bor k ys
  | s, _ => s
def putBack (ρ : Env) : List Av → List (List D) → Option Env
  | [], [] => some ρ
  | .m i :: r, xs :: outs => putBack (ρ.set i (rew (ρ.at i) xs)) r outs
  | .v _ :: r, outs => putBack ρ r outs
  | .s _ :: r, outs => putBack ρ r outs
  | .l _ :: r, outs => putBack ρ r outs
  | _, _ => none
def mutsOf : List Av → List Nat
  | [] => []
  | .m i :: r => i :: mutsOf r
  | _ :: r => mutsOf r
def lends : List Av → Bool
  | [] => false
  | .l _ :: _ => true
  | _ :: r => lends r
def scalar : D → Bool
  | .list _ => false
  | .tuple _ => false
  | .dict _ => false
  | _ => true
/-- a call: the lists that are lent to be changed are all different; what is only lent goes to calls that change nothing and answer no list -/
def callBy (m : Fn) (avs : List Av) (ρ : Env) : Res D := (lift (args ρ avs) ρ).bind fun as _ =>
  if lends avs = true then (if mutsOf avs = [] then (match m as with
    | .ok d _ => if scalar d = true then .ok d ρ else .bad
    | _ => .bad) else .bad)
  else if (mutsOf avs).Nodup then (match m as with
    | .ok d outs => (lift (putBack ρ avs outs) ρ).bind fun ρ' _ => .ok d ρ'
    | .new xs outs => (lift (putBack ρ avs outs) ρ).bind fun ρ' _ => .ok (.list xs) ρ'
    | .exc x outs => (lift (putBack ρ avs outs) ρ).bind fun ρ' _ => .exc x ρ'
    | .bad => .bad) else .bad

/-- a call whose first argument is a new list that another call answers -/
def tmpBy (m g : Fn) (z : Int) (avs : List Av) (ρ : Env) : Res D := (lift (args ρ avs) ρ).bind fun zs _ =>
  if (mutsOf avs).Nodup ∧ lends avs = false then (match g zs with
    | .new xs outs => (lift (putBack ρ avs outs) ρ).bind fun ρ2 _ => (match m [.mut xs, .val (.int z)] with
      | .ok d [_] => .ok d ρ2
      | _ => .bad)
    | _ => .bad) else .bad
/-- list(f(..)) of a generator def, m the tuple whose items it hands out -/
def genBy (m : Fn) (avs : List Av) (ρ : Env) : Res D := (lift (args ρ avs) ρ).bind fun as _ =>
  if mutsOf avs = [] ∧ lends avs = false then (match m as with
    | .ok (.tuple xs) [] => if xs.length ≤ 1000000 then .ok (.list xs) ρ else .bad
    | _ => .bad) else .bad
/-- the loop of a comprehension -/
def loopC (f : D → Env → Res (List D)) : List D → Env → Res (List D)
  | [], ρ => .ok [] ρ
  | x :: xs, ρ => (f x ρ).bind fun ys ρ1 => (loopC f xs ρ1).bind fun zs ρ2 => .ok (ys ++ zs) ρ2
def rngL (n : Int) : List D := (List.range n.toNat).map fun i => .int (i : Nat)
def enumL : List D → Nat → List D
  | [], _ => []
  | d :: r, n => .tuple [.int n, d] :: enumL r (n + 1)
def zipL : List D → List D → List D
  | a :: r, b :: s => .tuple [a, b] :: zipL r s
  | _, _ => []
def dataOf : D → Option (List D)
  | .list xs => some xs
  | .tuple xs => some xs
  | _ => none
def tupOf : D → Option (List D)
  | .tuple xs => some xs
  | _ => none
def rngOk (n : Int) : Bool := decide (-1000000 ≤ n ∧ n ≤ 1000000)
def intOf : D → Option Int
  | .int i => some i
  | _ => none

mutual
def ev (Φ : Nat → Fn) : E → Env → Res D
  | .var i, ρ => match ρ.at i with
    | .val d => .ok d ρ
    | .own xs => .ok (.list xs) (ρ.set i (.val (.list xs)))
    | _ => .bad
  | .lit c, ρ => .ok c.d ρ
  | .gint _ z, ρ => .ok (.int z) ρ
  | .tup es, ρ => (evEs Φ es ρ).bind fun ds ρ1 => if ds.length ≤ 1000000 then .ok (.tuple ds) ρ1 else .bad
  | .lst es, ρ => (evEs Φ es ρ).bind fun ds ρ1 => if ds.length ≤ 1000000 then .ok (.list ds) ρ1 else .bad
  | .bop o a b, ρ => (ev Φ a ρ).bind fun x ρ1 => (ev Φ b ρ1).bind fun y ρ2 => lift (bop o x y) ρ2
  | .neg a, ρ => (ev Φ a ρ).bind fun x ρ1 => lift (unNeg x) ρ1
  | .cmp o a b, ρ => (ev Φ a ρ).bind fun x ρ1 => (ev Φ b ρ1).bind fun y ρ2 => lift ((cop o x y).map .bool) ρ2
  | .chain o o' a b c, ρ => (ev Φ a ρ).bind fun x ρ1 => (ev Φ b ρ1).bind fun y ρ2 => (lift (cop o x y) ρ2).bind fun k ρ2 =>
      if k = true then (ev Φ c ρ2).bind fun z ρ3 => lift ((cop o' y z).map .bool) ρ3 else .ok (.bool false) ρ2
  | .one a, ρ => ev Φ a ρ
  | .and a b, ρ => (ev Φ a ρ).bind fun x ρ1 => (lift (tru x) ρ1).bind fun k ρ1 => if k = true then ev Φ b ρ1 else .ok x ρ1
  | .or a b, ρ => (ev Φ a ρ).bind fun x ρ1 => (lift (tru x) ρ1).bind fun k ρ1 => if k = true then .ok x ρ1 else ev Φ b ρ1
  | .not a, ρ => (ev Φ a ρ).bind fun x ρ1 => (lift (tru x) ρ1).bind fun k ρ1 => .ok (.bool !k) ρ1
  | .ite c a b, ρ => (ev Φ c ρ).bind fun x ρ1 => (lift (tru x) ρ1).bind fun k ρ1 => if k = true then ev Φ a ρ1 else ev Φ b ρ1
  | .ix a b, ρ => (ev Φ a ρ).bind fun x ρ1 => (ev Φ b ρ1).bind fun y ρ2 => lift (ixD x y) ρ2
  | .ixo i b, ρ => (lift (wr (ρ.at i)) ρ).bind fun _ _ => (ev Φ b ρ).bind fun y ρ1 => (lift (wr (ρ1.at i)) ρ1).bind fun xs _ => lift (ixD (.list xs) y) ρ1
  | .sl a lo hi, ρ => (ev Φ a ρ).bind fun x ρ1 => (evO Φ lo ρ1).bind fun l ρ2 => (evO Φ hi ρ2).bind fun h ρ3 => lift (slD x l h) ρ3
  | .bi f a, ρ => (ev Φ a ρ).bind fun x ρ1 => lift (biD f x) ρ1
  | .mm mx a b, ρ => (ev Φ a ρ).bind fun x ρ1 => (ev Φ b ρ1).bind fun y ρ2 => lift (mmD mx x y) ρ2
  | .isi t a, ρ => (ev Φ a ρ).bind fun x ρ1 => .ok (.bool (isiD t x)) ρ1
  | .lens i, ρ => (lift (isScr (ρ.at i)) ρ).bind fun ns _ => .ok (.int ns.length) ρ
  | .ixs i b, ρ => (lift (isScr (ρ.at i)) ρ).bind fun _ _ => (ev Φ b ρ).bind fun y ρ1 => (lift (isScr (ρ1.at i)) ρ1).bind fun ns _ => lift (ixD (.list (ns.map .int)) y) ρ1
  | .rng t a, ρ => (ev Φ a ρ).bind fun x ρ1 => (lift (intOf x) ρ1).bind fun n ρ1 => if rngOk n = true then .ok (if t then .tuple (rngL n) else .list (rngL n)) ρ1 else .bad
  | .call f as, ρ => (evAs Φ as ρ).bind fun avs ρ1 => callBy (Φ f) avs ρ1
  | .comp tg it c e vs, ρ => (evIt Φ it ρ).bind fun xs ρ1 =>
      if vs.all (plainAt ρ1) = true then
        (match loopC (fun x ρ => (lift (bindT tg x ρ) ρ).bind fun ρ' _ => (evC Φ c ρ').bind fun k ρ2 =>
            if k = true then (ev Φ e ρ2).bind fun y ρ3 => .ok [y] (wipeE ρ3 vs) else .ok [] (wipeE ρ2 vs)) xs (wipeE ρ1 vs) with
        | .ok ys ρ2 => if ys.length ≤ 1000000 then .ok (.list ys) (restore ρ1 ρ2 vs) else .bad
        | _ => .bad)
      else .bad
  | .comp2 tg it c tg2 it2 c2 e vs vs2, ρ => (evIt Φ it ρ).bind fun xs ρ1 =>
      if vs.all (plainAt ρ1) = true then
        (match loopC (fun x ρ => (lift (bindT tg x ρ) ρ).bind fun ρ' _ => (evC Φ c ρ').bind fun k ρ2 =>
            if k = true then (evIt Φ it2 ρ2).bind fun zs ρ3 => (loopC (fun z ρ => (lift (bindT tg2 z ρ) ρ).bind fun ρ' _ => (evC Φ c2 ρ').bind fun k ρ4 =>
              if k = true then (ev Φ e ρ4).bind fun y ρ5 => .ok [y] (wipeE ρ5 vs2) else .ok [] (wipeE ρ4 vs2)) zs (wipeE ρ3 vs2)).bind fun ys ρ6 => .ok ys (wipeE ρ6 vs)
            else .ok [] (wipeE ρ2 vs)) xs (wipeE ρ1 vs) with
        | .ok ys ρ2 => if ys.length ≤ 1000000 then .ok (.list ys) (restore ρ1 ρ2 vs) else .bad
        | _ => .bad)
      else .bad
  | .ino n a i, ρ => (ev Φ a ρ).bind fun x ρ1 => (lift (wr (ρ1.at i)) ρ1).bind fun xs _ => (lift (copIn x (.list xs)) ρ1).bind fun k ρ1 => .ok (.bool (if n then !k else k)) ρ1
  | .leno i, ρ => (lift (wr (ρ.at i)) ρ).bind fun xs _ => .ok (.int xs.length) ρ
  | .lenset a, ρ => (ev Φ a ρ).bind fun x ρ1 => lift (lenSetD x) ρ1
  | .sortset a, ρ => (ev Φ a ρ).bind fun x ρ1 => lift (sortSetD x) ρ1
  | .sortsc tg it c e vs, ρ => (evIt Φ it ρ).bind fun xs ρ1 =>
      if vs.all (plainAt ρ1) = true then
        (match loopC (fun x ρ => (lift (bindT tg x ρ) ρ).bind fun ρ' _ => (evC Φ c ρ').bind fun k ρ2 =>
            if k = true then (ev Φ e ρ2).bind fun y ρ3 => .ok [y] (wipeE ρ3 vs) else .ok [] (wipeE ρ2 vs)) xs (wipeE ρ1 vs) with
        | .ok ys ρ2 => lift (sortIntsD ys) (restore ρ1 ρ2 vs)
        | _ => .bad)
      else .bad
  | .rev a, ρ => (ev Φ a ρ).bind fun x ρ1 => lift (revD x) ρ1
  | .calltmp f g as z, ρ => (evAs Φ as ρ).bind fun avs ρ1 => tmpBy (Φ f) (Φ g) z avs ρ1
  | .listg f as, ρ => (evAs Φ as ρ).bind fun avs ρ1 => genBy (Φ (1000 + f)) avs ρ1
  | .cnt i b, ρ => (lift (cntOf (ρ.at i)) ρ).bind fun ys _ => (ev Φ b ρ).bind fun y ρ1 => lift (cntD ys y) ρ1
def evEs (Φ : Nat → Fn) : Es → Env → Res (List D)
  | .nil, ρ => .ok [] ρ
  | .cons e r, ρ => (ev Φ e ρ).bind fun d ρ1 => (evEs Φ r ρ1).bind fun ds ρ2 => .ok (d :: ds) ρ2
  | .star e r, ρ => (ev Φ e ρ).bind fun d ρ1 => (lift (dataOf d) ρ1).bind fun xs ρ1 => (evEs Φ r ρ1).bind fun ds ρ2 => .ok (xs ++ ds) ρ2
def evAs (Φ : Nat → Fn) : As → Env → Res (List Av)
  | .nil, ρ => .ok [] ρ
  | .val e r, ρ => (ev Φ e ρ).bind fun d ρ1 => (evAs Φ r ρ1).bind fun ds ρ2 => .ok (.v d :: ds) ρ2
  | .mut i r, ρ => (lift (wr (ρ.at i)) ρ).bind fun _ _ => (evAs Φ r ρ).bind fun ds ρ2 => .ok (.m i :: ds) ρ2
  | .scr i r, ρ => (lift (isScr (ρ.at i)) ρ).bind fun _ _ => (evAs Φ r ρ).bind fun ds ρ2 => .ok (.s i :: ds) ρ2
  | .lend i r, ρ => (lift (isOwn (ρ.at i)) ρ).bind fun _ _ => (evAs Φ r ρ).bind fun ds ρ2 => .ok (.l i :: ds) ρ2
def evIt (Φ : Nat → Fn) : It → Env → Res (List D)
  | .data e, ρ => (ev Φ e ρ).bind fun d ρ1 => lift (dataOf d) ρ1
  | .rng e, ρ => (ev Φ e ρ).bind fun d ρ1 => (lift (intOf d) ρ1).bind fun n ρ1 => if rngOk n = true then .ok (rngL n) ρ1 else .bad
  | .zip a b, ρ => (ev Φ a ρ).bind fun x ρ1 => (ev Φ b ρ1).bind fun y ρ2 => (lift (tupOf x) ρ2).bind fun xs ρ2 => (lift (tupOf y) ρ2).bind fun ys ρ2 => .ok (zipL xs ys) ρ2
  | .enum e, ρ => (ev Φ e ρ).bind fun d ρ1 => (lift (tupOf d) ρ1).bind fun xs ρ1 => .ok (enumL xs 0) ρ1
def evO (Φ : Nat → Fn) : Eo → Env → Res (Option Int)
  | .no, ρ => .ok none ρ
  | .yes e, ρ => (ev Φ e ρ).bind fun d ρ1 => (lift (intOf d) ρ1).bind fun n ρ1 => .ok (some n) ρ1
def evC (Φ : Nat → Fn) : Eo → Env → Res Bool
  | .no, ρ => .ok true ρ
  | .yes e, ρ => (ev Φ e ρ).bind fun d ρ1 => lift (tru d) ρ1
end
end DR
/-! Part h: statements. -/
namespace DR
open PySem

mutual
inductive S where
  | set (i : Nat) (e : E)
  | seto (i : Nat) (es : Es)
  | setn (i : Nat) (f : Nat) (as : As)
  | unp (t : Tgs) (e : E)
  | par (is : List Nat) (es : Es)
  | ret (e : E)
  | reto (es : Es)
  | retn
  | ex (e : E)
  | app (i : Nat) (e : E)
  | ext (i : Nat) (e : E)
  | sto (i : Nat) (k e : E)
  | ife (c : E) (a b : Ss)
  | for_ (t : Tg) (it : It) (b : Ss)
  | wh (n : Nat) (c : E) (b : Ss)
  | brk
  | cont
  | pass
  | raise (x : Str)
  | never
  | retv (i : Nat)
  | paro (i j : Nat) (e : E)
inductive Ss where
  | nil
  | cons (s : S) (r : Ss)
end
/-- how a statement ends -/
inductive SR where
  | nx (ρ : Env)
  | rt (d : D) (ρ : Env)
  | rn (xs : List D) (ρ : Env)
  | bk (ρ : Env)
  | ct (ρ : Env)
  | exc (x : Exn) (ρ : Env)
  | bad
def Res.sr {α : Type} : Res α → (α → Env → SR) → SR
  | .ok a ρ, k => k a ρ
  | .exc x ρ, _ => .exc x ρ
  | .bad, _ => .bad
def SR.seq : SR → (Env → SR) → SR
  | .nx ρ, k => k ρ
  | r, _ => r
def loopF (f : D → Env → SR) : List D → Env → SR
  | [], ρ => .nx ρ
  | x :: xs, ρ => match f x ρ with
    | .nx ρ' => loopF f xs ρ'
    | .ct ρ' => loopF f xs ρ'
    | .bk ρ' => .nx ρ'
    | r => r
def loopW (c : Env → Res Bool) (f : Env → SR) : Nat → Env → SR
  | 0, _ => .bad
  | n + 1, ρ => (c ρ).sr fun k ρ1 => if k = true then (match f ρ1 with
    | .nx ρ' => loopW c f n ρ'
    | .ct ρ' => loopW c f n ρ'
    | .bk ρ' => .nx ρ'
    | r => r) else .nx ρ1
/-- a parallel assignment's stores -/
def setAll (ρ : Env) : List Nat → List D → Option Env
  | [], [] => some ρ
  | i :: is, d :: ds => if i < ρ.length then setAll (ρ.set i (.val d)) is ds else none
  | _, _ => none
def lstOf : D → Option (List D)
  | .list xs => some xs
  | _ => none
/-- x[k] = v on a list -/
def stoL (xs : List D) (k v : D) : Option (List D) := match k with
  | .int i => (L2.ixN xs.length i).map fun j => xs.set j v
  | _ => none
mutual
def exS (Φ : Nat → Fn) : S → Env → SR
  | .set i e, ρ => (ev Φ e ρ).sr fun d ρ1 => if i < ρ1.length then .nx (ρ1.set i (.val d)) else .bad
  | .seto i es, ρ => (evEs Φ es ρ).sr fun xs ρ1 => if xs.length ≤ 1000000 ∧ i < ρ1.length then .nx (ρ1.set i (.own xs)) else .bad
  | .setn i f as, ρ => (evAs Φ as ρ).sr fun avs ρ1 => (lift (args ρ1 avs) ρ1).sr fun zs _ =>
      if (mutsOf avs).Nodup ∧ lends avs = false ∧ i < ρ1.length then (match Φ f zs with
      | .new xs outs => (lift (putBack ρ1 avs outs) ρ1).sr fun ρ2 _ => .nx (ρ2.set i (.own xs))
      | _ => .bad) else .bad
  | .unp t e, ρ => (ev Φ e ρ).sr fun d ρ1 => match bindT (.tup t) d ρ1 with
    | some ρ2 => .nx ρ2
    | none => .bad
  | .par is es, ρ => (evEs Φ es ρ).sr fun ss ρ1 => match setAll ρ1 is ss with
    | some ρ2 => .nx ρ2
    | none => .bad
  | .ret e, ρ => (ev Φ e ρ).sr fun d ρ1 => .rt d ρ1
  | .reto es, ρ => (evEs Φ es ρ).sr fun xs ρ1 => if xs.length ≤ 1000000 then .rn xs ρ1 else .bad
  | .retn, ρ => .rt .none ρ
  | .ex e, ρ => (ev Φ e ρ).sr fun _ ρ1 => .nx ρ1
  | .app i e, ρ => (lift (wr (ρ.at i)) ρ).sr fun _ _ => (ev Φ e ρ).sr fun d ρ1 => (lift (wr (ρ1.at i)) ρ1).sr fun xs _ => if xs.length < 1000000 then .nx (ρ1.set i (rew (ρ1.at i) (xs ++ [d]))) else .bad
  | .ext i e, ρ => (lift (wr (ρ.at i)) ρ).sr fun _ _ => (ev Φ e ρ).sr fun d ρ1 => (lift (lstOf d) ρ1).sr fun ys _ => (lift (wr (ρ1.at i)) ρ1).sr fun xs _ =>
      if xs.length + ys.length ≤ 1000000 then .nx (ρ1.set i (rew (ρ1.at i) (xs ++ ys))) else .bad
  | .sto i k e, ρ => (ev Φ e ρ).sr fun d ρ1 => (lift (wr (ρ1.at i)) ρ1).sr fun _ _ => (ev Φ k ρ1).sr fun z ρ2 => (lift (wr (ρ2.at i)) ρ2).sr fun xs _ => (lift (stoL xs z d) ρ2).sr fun ys _ => .nx (ρ2.set i (rew (ρ2.at i) ys))
  | .ife c a b, ρ => ((ev Φ c ρ).bind fun x ρ1 => lift (tru x) ρ1).sr fun k ρ1 => if k = true then exSs Φ a ρ1 else exSs Φ b ρ1
  | .for_ t it b, ρ => (evIt Φ it ρ).sr fun xs ρ1 => loopF (fun x ρ => match bindT t x ρ with
    | some ρ' => exSs Φ b ρ'
    | none => .bad) xs ρ1
  | .wh n c b, ρ => loopW (fun ρ => (ev Φ c ρ).bind fun x ρ1 => lift (tru x) ρ1) (fun ρ => exSs Φ b ρ) n ρ
  | .brk, ρ => .bk ρ
  | .cont, ρ => .ct ρ
  | .pass, ρ => .nx ρ
  | .raise x, ρ => .exc ⟨x, []⟩ ρ
  | .never, ρ => .bad
  | .retv i, ρ => (lift (isOwn (ρ.at i)) ρ).sr fun xs _ => .rn xs ρ
  | .paro i j e, ρ => (ev Φ e ρ).calm.sr fun d ρ1 => if i < ρ1.length ∧ j < ρ1.length ∧ i ≠ j then .nx ((ρ1.set i (.own [])).set j (.val d)) else .bad
def exSs (Φ : Nat → Fn) : Ss → Env → SR
  | .nil, ρ => .nx ρ
  | .cons s r, ρ => (exS Φ s ρ).seq fun ρ1 => exSs Φ r ρ1
end
/-- the slots at a def's entry -/
def slotsOf : List Arg → Nat → List Slot
  | [], _ => []
  | .val d :: r, k => .val d :: slotsOf r k
  | .mut xs :: r, k => .bor k xs :: slotsOf r (k + 1)
  | .scr ns :: r, k => .scr ns :: slotsOf r k
/-- the lists that were lent, at its end -/
def outsOf : List Arg → Env → Nat → Option (List (List D))
  | [], _, _ => some []
  | .mut _ :: r, .bor j xs :: ρ, k => if j = k then (outsOf r ρ (k + 1)).map (xs :: ·) else none
  | .val _ :: r, _ :: ρ, k => outsOf r ρ k
  | .scr _ :: r, _ :: ρ, k => outsOf r ρ k
  | _, _, _ => none
def SR.fin (as : List Arg) : SR → FRes
  | .nx ρ => match outsOf as ρ 0 with | some o => .ok .none o | none => .bad
  | .rt d ρ => match outsOf as ρ 0 with | some o => .ok d o | none => .bad
  | .rn xs ρ => match outsOf as ρ 0 with | some o => .new xs o | none => .bad
  | .exc x ρ => match outsOf as ρ 0 with | some o => .exc x o | none => .bad
  | _ => .bad
/-- a def of np parameters and n names in all -/
def run (Φ : Nat → Fn) (np n : Nat) (b : Ss) : Fn := fun as =>
  if as.length = np ∧ np ≤ n then (exSs Φ b (slotsOf as 0 ++ List.replicate (n - np) .un)).fin as else .bad
end DR
/-! Part i: slots and heaps; readings that tell what is evaluated. -/
namespace DR
open PySem PySem.Spec PyProof.Rows L2

/-- the written part; the addresses hidden through the whole body; those among them that may be written -/
structure Ct where
  K : PySem.W.Frag
  Fx : List Addr
  Bs : List Addr
section
variable {c : Ct}
def SlotOk (c : Ct) (H : Hp) (O : List Addr) (v : Option V) : Slot → Prop
  | .un => True
  | .val d => ∃ x, v = some x ∧ Dd c.K (hid O H) x d
  | .own xs => ∃ a ws, v = some (.ref a) ∧ a ∈ O ∧ a ∉ c.Fx ∧ H a = some (.lst ws) ∧ Ds c.K (hid O H) ws xs
  | .bor k xs => ∃ b ws, v = some (.ref b) ∧ c.Bs[k]? = some b ∧ H b = some (.lst ws) ∧ Ds c.K (hid O H) ws xs
  | .scr ns => ∃ a, v = some (.ref a) ∧ SqL c.K (hid O H) a (ns.map V.int)
structure StOk (c : Ct) (H : Hp) (σ : Sg) (ρ : Env) (O : List Addr) : Prop where
  len : ρ.length = σ.length
  hx : Hx O H
  fx : ∀ a ∈ c.Fx, a ∈ O
  bs : ∀ b ∈ c.Bs, b ∈ c.Fx
  bn : c.Bs.Nodup
  sl : ∀ i, SlotOk c H O (σ.getD i none) (ρ.at i)
  oi : ∀ i j xs ys, ρ.at i = .own xs → ρ.at j = .own ys → σ.getD i none = σ.getD j none → i = j
  bi : ∀ i j k xs ys, ρ.at i = .bor k xs → ρ.at j = .bor k ys → i = j
/-- behind a piece of code: what is not hidden is as it was, and what is hidden for the whole body but not to be written -/
structure Post (c : Ct) (O : List Addr) (H : Hp) (O' : List Addr) (H' : Hp) : Prop where
  keep : ∀ a o, H a = some o → (a ∉ O ∨ (a ∈ c.Fx ∧ a ∉ c.Bs)) → H' a = some o
  new : ∀ a ∈ O', a ∈ O ∨ H a = none
theorem Post.refl {O : List Addr} {H : Hp} : Post c O H O H := ⟨fun _ _ e _ => e, fun _ m => .inl m⟩
theorem Post.of_le {O : List Addr} {H H' : Hp} (h : Le H H') : Post c O H O H' := ⟨fun a o e _ => h a o e, fun _ m => .inl m⟩
theorem Post.trans {O O1 O2 : List Addr} {H H1 H2 : Hp} (a : Post c O H O1 H1) (b : Post c O1 H1 O2 H2) (fx : ∀ z ∈ c.Fx, z ∈ O1) : Post c O H O2 H2 := by
  refine ⟨fun z o e h => b.keep z o (a.keep z o e h) ?_, fun z m => ?_⟩
  · rcases h with h | h
    · by_cases q : z ∈ O1
      · rcases a.new z q with r | r
        · exact absurd r h
        · rw [e] at r
          cases r
      · exact .inl q
    · exact .inr h
  · rcases b.new z m with q | q
    · exact a.new z q
    · cases r : H z with
      | none => exact .inr rfl
      | some o =>
        by_cases w : z ∈ O
        · exact .inl w
        · rw [a.keep z o r (.inl w)] at q
          cases q
/-- data that were seen stay -/
theorem Post.hid {O O' : List Addr} {H H' : Hp} (p : Post c O H O' H') : Le (hid O H) (hid O' H') := by
  intro a o e
  obtain ⟨h1, h2⟩ := hid_some.mp e
  refine hid_some.mpr ⟨fun m => ?_, p.keep a o h2 (.inl h1)⟩
  rcases p.new a m with q | q
  · exact h1 q
  · rw [h2] at q
    cases q

theorem SqL.le' {K : PySem.W.Frag} {G G' : Hp} (h : Le G G') {a : Addr} {xs : List V} (r : SqL K G a xs) : SqL K G' a xs := by
  rcases r with r | r
  · exact .inl (Rd.le h r)
  · exact .inr r
/-- the heap grows -/
theorem SlotOk.le {H H' : Hp} {O O' : List Addr} {v : Option V} {s : Slot} (h : SlotOk c H O v s) (l : Le H H') (g : Le (DR.hid O H) (DR.hid O' H')) (m : ∀ a ∈ O, a ∈ O') : SlotOk c H' O' v s := by
  cases s with
  | un => trivial
  | val d =>
    obtain ⟨x, e, t⟩ := h
    exact ⟨x, e, t.le g⟩
  | own xs =>
    obtain ⟨a, ws, e, h1, h2, h3, t⟩ := h
    exact ⟨a, ws, e, m a h1, h2, l _ _ h3, t.le g⟩
  | bor k xs =>
    obtain ⟨a, ws, e, h2, h3, t⟩ := h
    exact ⟨a, ws, e, h2, l _ _ h3, t.le g⟩
  | scr ns =>
    obtain ⟨a, e, t⟩ := h
    exact ⟨a, e, SqL.le' g t⟩
theorem StOk.le {H H' : Hp} {σ : Sg} {ρ : Env} {O : List Addr} (s : StOk c H σ ρ O) (l : Le H H') : StOk c H' σ ρ O :=
  ⟨s.len, s.hx.le l, s.fx, s.bs, s.bn, fun i => (s.sl i).le l (hid_mono l) fun _ m => m, s.oi, s.bi⟩
/-- a new object that is hidden from now on -/
theorem StOk.hide {H : Hp} {σ : Sg} {ρ : Env} {O : List Addr} {p : Addr} {o : HO} (s : StOk c H σ ρ O) (n : H p = none) : StOk c (upd H p o) σ ρ (p :: O) := by
  have l : Le H (upd H p o) := Le.upd n
  have g : Le (DR.hid O H) (DR.hid (p :: O) (upd H p o)) := by
    intro a x e
    obtain ⟨h1, h2⟩ := hid_some.mp e
    refine hid_some.mpr ⟨fun m => ?_, l _ _ h2⟩
    rcases List.mem_cons.mp m with rfl | m
    · rw [n] at h2
      cases h2
    · exact h1 m
  refine ⟨s.len, ⟨fun a m e => ?_⟩, fun a m => List.mem_cons_of_mem _ (s.fx a m), s.bs, s.bn, fun i => (s.sl i).le l g fun _ m => List.mem_cons_of_mem _ m, s.oi, s.bi⟩
  rcases List.mem_cons.mp m with rfl | m
  · rw [upd_same] at e
    cases e
  · exact (s.hx.le l).there a m e
/-- .. and seen again: nobody else holds it -/
theorem hid_cons_le {H : Hp} {O : List Addr} {p : Addr} : Le (DR.hid (p :: O) H) (DR.hid O H) := by
  intro a o e
  obtain ⟨h1, h2⟩ := hid_some.mp e
  exact hid_some.mpr ⟨fun m => h1 (List.mem_cons_of_mem _ m), h2⟩

/-! slots read and set -/
theorem at_set {ρ : Env} {i j : Nat} {s : Slot} (h : i < ρ.length) : Env.at (ρ.set i s) j = if i = j then s else Env.at ρ j := by
  unfold Env.at
  by_cases e : i = j
  · subst e
    simp [List.getD_eq_getElem?_getD, h]
  · simp [List.getD_eq_getElem?_getD, List.getElem?_set_ne e, e]
theorem at_lt {ρ : Env} {i : Nat} (h : Env.at ρ i ≠ .un) : i < ρ.length := by
  unfold Env.at at h
  by_cases q : i < ρ.length
  · exact q
  · rw [List.getD_eq_getElem?_getD, List.getElem?_eq_none (Nat.le_of_not_lt q)] at h
    exact absurd rfl h
theorem sget_set {σ : Sg} {i j : Nat} {v : Option V} (h : i < σ.length) : (σ.set i v).getD j none = if i = j then v else σ.getD j none := by
  by_cases e : i = j
  · subst e
    simp [List.getD_eq_getElem?_getD, h]
  · simp [List.getD_eq_getElem?_getD, List.getElem?_set_ne e, e]
theorem sget_some {σ : Sg} {i : Nat} {v : V} (h : σ.getD i none = some v) : σ[i]? = some (some v) := by
  rw [List.getD_eq_getElem?_getD] at h
  cases q : σ[i]? with
  | none =>
    rw [q] at h
    cases h
  | some o =>
    rw [q] at h
    exact congrArg some h
theorem sget_of {σ : Sg} {i : Nat} {o : Option V} (h : σ[i]? = some o) : σ.getD i none = o := by
  rw [List.getD_eq_getElem?_getD, h]
  rfl
theorem StOk.set_val {H : Hp} {σ : Sg} {ρ : Env} {O : List Addr} (s : StOk c H σ ρ O) {i : Nat} {v : V} {d : D} (hi : i < ρ.length) (h : Dd c.K (hid O H) v d) : StOk c H (σ.set i (some v)) (ρ.set i (.val d)) O := by
  have hi' : i < σ.length := s.len ▸ hi
  refine ⟨by simp [s.len], s.hx, s.fx, s.bs, s.bn, fun j => ?_, fun j k xs ys h1 h2 h3 => ?_, fun j k n xs ys h1 h2 => ?_⟩
  · rw [at_set hi, sget_set hi']
    by_cases e : i = j
    · rw [if_pos e, if_pos e]
      exact ⟨v, rfl, h⟩
    · rw [if_neg e, if_neg e]
      exact s.sl j
  · rw [at_set hi] at h1 h2
    rw [sget_set hi', sget_set hi'] at h3
    by_cases e : i = j
    · rw [if_pos e] at h1; cases h1
    · by_cases e' : i = k
      · rw [if_pos e'] at h2; cases h2
      · rw [if_neg e] at h1 h3
        rw [if_neg e'] at h2 h3
        exact s.oi j k xs ys h1 h2 h3
  · rw [at_set hi] at h1 h2
    by_cases e : i = j
    · rw [if_pos e] at h1; cases h1
    · by_cases e' : i = k
      · rw [if_pos e'] at h2; cases h2
      · rw [if_neg e] at h1
        rw [if_neg e'] at h2
        exact s.bi j k n xs ys h1 h2
/-- a name gets a list that nobody else holds -/
theorem StOk.set_own {H : Hp} {σ : Sg} {ρ : Env} {O : List Addr} (s : StOk c H σ ρ O) {i : Nat} {a : Addr} {ws : List V} {xs : List D} (hi : i < ρ.length) (hO : a ∈ O) (hF : a ∉ c.Fx) (hH : H a = some (.lst ws))
    (h : Ds c.K (hid O H) ws xs) (hn : ∀ j ys, ρ.at j = .own ys → σ.getD j none ≠ some (.ref a)) : StOk c H (σ.set i (some (.ref a))) (ρ.set i (.own xs)) O := by
  have hi' : i < σ.length := s.len ▸ hi
  refine ⟨by simp [s.len], s.hx, s.fx, s.bs, s.bn, fun j => ?_, fun j k xs ys h1 h2 h3 => ?_, fun j k n xs ys h1 h2 => ?_⟩
  · rw [at_set hi, sget_set hi']
    by_cases e : i = j
    · rw [if_pos e, if_pos e]
      exact ⟨a, ws, rfl, hO, hF, hH, h⟩
    · rw [if_neg e, if_neg e]
      exact s.sl j
  · rw [at_set hi] at h1 h2
    rw [sget_set hi', sget_set hi'] at h3
    by_cases e : i = j
    · by_cases e' : i = k
      · exact e.symm.trans e'
      · rw [if_neg e'] at h2 h3
        rw [if_pos e] at h3
        exact absurd h3.symm (hn k ys h2)
    · rw [if_neg e] at h1 h3
      by_cases e' : i = k
      · rw [if_pos e'] at h3
        exact absurd h3 (hn j xs h1)
      · rw [if_neg e'] at h2 h3
        exact s.oi j k xs ys h1 h2 h3
  · rw [at_set hi] at h1 h2
    by_cases e : i = j
    · rw [if_pos e] at h1; cases h1
    · by_cases e' : i = k
      · rw [if_pos e'] at h2; cases h2
      · rw [if_neg e] at h1
        rw [if_neg e'] at h2
        exact s.bi j k n xs ys h1 h2
/-- a name is forgotten -/
theorem StOk.set_un {H : Hp} {σ : Sg} {ρ : Env} {O : List Addr} (s : StOk c H σ ρ O) {i : Nat} {v : Option V} : StOk c H (σ.set i v) (ρ.set i .un) O := by
  by_cases hi : i < ρ.length
  · have hi' : i < σ.length := s.len ▸ hi
    refine ⟨by simp [s.len], s.hx, s.fx, s.bs, s.bn, fun j => ?_, fun j k xs ys h1 h2 h3 => ?_, fun j k n xs ys h1 h2 => ?_⟩
    · rw [at_set hi, sget_set hi']
      by_cases e : i = j
      · rw [if_pos e, if_pos e]
        trivial
      · rw [if_neg e, if_neg e]
        exact s.sl j
    · rw [at_set hi] at h1 h2
      rw [sget_set hi', sget_set hi'] at h3
      by_cases e : i = j
      · rw [if_pos e] at h1; cases h1
      · by_cases e' : i = k
        · rw [if_pos e'] at h2; cases h2
        · rw [if_neg e] at h1 h3
          rw [if_neg e'] at h2 h3
          exact s.oi j k xs ys h1 h2 h3
    · rw [at_set hi] at h1 h2
      by_cases e : i = j
      · rw [if_pos e] at h1; cases h1
      · by_cases e' : i = k
        · rw [if_pos e'] at h2; cases h2
        · rw [if_neg e] at h1
          rw [if_neg e'] at h2
          exact s.bi j k n xs ys h1 h2
  · have h1 : ρ.set i .un = ρ := List.set_eq_of_length_le (Nat.le_of_not_lt hi)
    have h2 : σ.set i v = σ := List.set_eq_of_length_le (by rw [← s.len]; exact Nat.le_of_not_lt hi)
    rw [h1, h2]
    exact s
/-- a list that one name alone holds becomes a datum -/
theorem StOk.freeze {H : Hp} {σ : Sg} {ρ : Env} {O : List Addr} (s : StOk c H σ ρ O) {i : Nat} {xs : List D} (hi : ρ.at i = .own xs) :
    ∃ a ws, σ.getD i none = some (.ref a) ∧ H a = some (.lst ws) ∧ Post c O H (O.filter (· ≠ a)) H ∧ StOk c H σ (ρ.set i (.val (.list xs))) (O.filter (· ≠ a)) ∧ Dd c.K (hid (O.filter (· ≠ a)) H) (.ref a) (.list xs) := by
  have q := s.sl i
  rw [hi] at q
  obtain ⟨a, ws, e, hO, hF, hH, t⟩ := q
  have lt : i < ρ.length := at_lt (by rw [hi]; exact fun z => nomatch z)
  have g : Le (hid O H) (hid (O.filter (· ≠ a)) H) := by
    intro b o e
    obtain ⟨h1, h2⟩ := hid_some.mp e
    exact hid_some.mpr ⟨fun m => h1 (List.mem_filter.mp m).1, h2⟩
  have me : Dd c.K (hid (O.filter (· ≠ a)) H) (.ref a) (.list xs) := .lst (hid_some.mpr ⟨fun m => by simpa using (List.mem_filter.mp m).2, hH⟩) (t.le g)
  refine ⟨a, ws, e, hH, ⟨fun _ _ z _ => z, fun b m => .inl (List.mem_filter.mp m).1⟩, ?_, me⟩
  have other : ∀ j, j ≠ i → SlotOk c H (O.filter (· ≠ a)) (σ.getD j none) (ρ.at j) := by
    intro j hj
    have q := s.sl j
    cases r : ρ.at j with
    | un => trivial
    | val d =>
      rw [r] at q
      obtain ⟨x, e1, t1⟩ := q
      exact ⟨x, e1, t1.le g⟩
    | own ys =>
      rw [r] at q
      obtain ⟨b, us, e1, h1, h2, h3, t1⟩ := q
      refine ⟨b, us, e1, List.mem_filter.mpr ⟨h1, ?_⟩, h2, h3, t1.le g⟩
      have : b ≠ a := by
        rintro rfl
        exact hj (s.oi j i ys xs r hi (e1.trans e.symm))
      simpa using this
    | bor k ys =>
      rw [r] at q
      obtain ⟨b, us, e1, h2, h3, t1⟩ := q
      exact ⟨b, us, e1, h2, h3, t1.le g⟩
    | scr ns =>
      rw [r] at q
      obtain ⟨b, e1, t1⟩ := q
      exact ⟨b, e1, SqL.le' g t1⟩
  refine ⟨by simp [s.len], ⟨fun b m => s.hx.there b (List.mem_filter.mp m).1⟩, fun b m => List.mem_filter.mpr ⟨s.fx b m, ?_⟩, s.bs, s.bn, fun j => ?_, fun j k ys zs h1 h2 h3 => ?_, fun j k n ys zs h1 h2 => ?_⟩
  · have : b ≠ a := by
      rintro rfl
      exact hF m
    simpa using this
  · rw [at_set lt]
    by_cases q : i = j
    · rw [if_pos q, ← q]
      exact ⟨_, e, me⟩
    · rw [if_neg q]
      exact other j fun z => q z.symm
  · rw [at_set lt] at h1 h2
    by_cases q : i = j
    · rw [if_pos q] at h1; cases h1
    · by_cases q' : i = k
      · rw [if_pos q'] at h2; cases h2
      · rw [if_neg q] at h1
        rw [if_neg q'] at h2
        exact s.oi j k ys zs h1 h2 h3
  · rw [at_set lt] at h1 h2
    by_cases q : i = j
    · rw [if_pos q] at h1; cases h1
    · by_cases q' : i = k
      · rw [if_pos q'] at h2; cases h2
      · rw [if_neg q] at h1
        rw [if_neg q'] at h2
        exact s.bi j k n ys zs h1 h2
end
end DR
/-! Part j: lists changed in place; readings. -/
namespace DR
open PySem PySem.Spec PyProof.Rows L2

section
variable {c : Ct} {H : Hp} {σ : Sg} {ρ : Env} {O : List Addr}
theorem wr_cases {s : Slot} {xs : List D} (h : wr s = some xs) : s = .own xs ∨ ∃ k, s = .bor k xs := by
  cases s with
  | own ys => exact .inl (congrArg Slot.own (Option.some.inj h))
  | bor k ys => exact .inr ⟨k, congrArg (Slot.bor k) (Option.some.inj h)⟩
  | _ => cases h
/-- where it stands -/
theorem StOk.cell (s : StOk c H σ ρ O) {i : Nat} {xs : List D} (h : wr (ρ.at i) = some xs) : ∃ a ws, σ.getD i none = some (.ref a) ∧ a ∈ O ∧ (a ∉ c.Fx ∨ a ∈ c.Bs) ∧ H a = some (.lst ws) ∧ Ds c.K (hid O H) ws xs := by
  have q := s.sl i
  rcases wr_cases h with e | ⟨k, e⟩
  · rw [e] at q
    obtain ⟨a, ws, e1, h1, h2, h3, t⟩ := q
    exact ⟨a, ws, e1, h1, .inl h2, h3, t⟩
  · rw [e] at q
    obtain ⟨a, ws, e1, h2, h3, t⟩ := q
    have m := List.mem_of_getElem? h2
    exact ⟨a, ws, e1, s.fx a (s.bs a m), .inr m, h3, t⟩
theorem StOk.cell_ne (s : StOk c H σ ρ O) {i j : Nat} {xs ys : List D} {a : Addr} (h1 : wr (ρ.at i) = some xs) (h2 : wr (ρ.at j) = some ys) (e1 : σ.getD i none = some (.ref a)) (e2 : σ.getD j none = some (.ref a)) : i = j := by
  have q1 := s.sl i
  have q2 := s.sl j
  rcases wr_cases h1 with r1 | ⟨k1, r1⟩
  · rcases wr_cases h2 with r2 | ⟨k2, r2⟩
    · exact s.oi i j _ _ r1 r2 (e1.trans e2.symm)
    · rw [r1] at q1
      rw [r2] at q2
      obtain ⟨b, _, z1, _, n, _⟩ := q1
      obtain ⟨b', _, z2, m, _⟩ := q2
      rw [e1] at z1
      rw [e2] at z2
      cases z1
      cases z2
      exact absurd (s.bs _ (List.mem_of_getElem? m)) n
  · rcases wr_cases h2 with r2 | ⟨k2, r2⟩
    · rw [r1] at q1
      rw [r2] at q2
      obtain ⟨b, _, z1, m, _⟩ := q1
      obtain ⟨b', _, z2, _, n, _⟩ := q2
      rw [e1] at z1
      rw [e2] at z2
      cases z1
      cases z2
      exact absurd (s.bs _ (List.mem_of_getElem? m)) n
    · rw [r1] at q1
      rw [r2] at q2
      obtain ⟨b, _, z1, m1, _⟩ := q1
      obtain ⟨b', _, z2, m2, _⟩ := q2
      rw [e1] at z1
      rw [e2] at z2
      cases z1
      cases z2
      obtain ⟨l1, g1⟩ := List.getElem?_eq_some_iff.mp m1
      obtain ⟨l2, g2⟩ := List.getElem?_eq_some_iff.mp m2
      have : k1 = k2 := (List.getElem_inj s.bn).mp (g1.trans g2.symm)
      subst this
      exact s.bi i j k1 _ _ r1 r2
/-- heaps that differ in writable places alone -/
theorem hid_upd {a : Addr} {o : HO} (m : a ∈ O) : hid O (upd H a o) = hid O H := by
  funext b
  unfold hid
  by_cases q : b ∈ O
  · simp [q]
  · rw [if_neg q, if_neg q, upd_ne]
    rintro rfl
    exact q m
/-- the list of slot i is changed -/
theorem StOk.write (s : StOk c H σ ρ O) {i : Nat} {xs ys : List D} {a : Addr} {us : List V} (h : wr (ρ.at i) = some xs) (e : σ.getD i none = some (.ref a)) (t : Ds c.K (hid O H) us ys) :
    Post c O H O (upd H a (.lst us)) ∧ StOk c (upd H a (.lst us)) σ (ρ.set i (rew (ρ.at i) ys)) O := by
  obtain ⟨a', ws, e', mO, mF, hH, _⟩ := s.cell h
  rw [e] at e'
  cases e'
  have g : hid O (upd H a (.lst us)) = hid O H := hid_upd mO
  have lt : i < ρ.length := at_lt (by rcases wr_cases h with r | ⟨k, r⟩ <;> rw [r] <;> exact fun z => nomatch z)
  refine ⟨⟨fun b o eb hb => ?_, fun _ m => .inl m⟩, by simp [s.len], ⟨fun b m z => ?_⟩, s.fx, s.bs, s.bn, fun j => ?_, fun j k xs' ys' h1 h2 h3 => ?_, fun j k n xs' ys' h1 h2 => ?_⟩
  · rw [upd_ne]
    · exact eb
    · rintro rfl
      rcases hb with q | ⟨q1, q2⟩
      · exact q mO
      · rcases mF with q | q
        · exact q q1
        · exact q2 q
  · by_cases q : b = a
    · subst q
      rw [upd_same] at z
      cases z
    · rw [upd_ne q] at z
      exact s.hx.there b m z
  · rw [at_set lt]
    by_cases q : i = j
    · subst q
      rw [if_pos rfl]
      have q := s.sl i
      rcases wr_cases h with r | ⟨k, r⟩
      · rw [r] at q ⊢
        obtain ⟨b, vs, e1, h1, h2, h3, t1⟩ := q
        rw [e] at e1
        cases e1
        exact ⟨a, us, e, h1, h2, upd_same, by rw [g]; exact t⟩
      · rw [r] at q ⊢
        obtain ⟨b, vs, e1, h2, h3, t1⟩ := q
        rw [e] at e1
        cases e1
        exact ⟨a, us, e, h2, upd_same, by rw [g]; exact t⟩
    · rw [if_neg q]
      have qj := s.sl j
      cases r : ρ.at j with
      | un => trivial
      | val d =>
        rw [r] at qj
        obtain ⟨x, e1, t1⟩ := qj
        exact ⟨x, e1, by rw [g]; exact t1⟩
      | own zs =>
        rw [r] at qj
        obtain ⟨b, vs, e1, h1, h2, h3, t1⟩ := qj
        have nb : b ≠ a := by
          rintro rfl
          exact q (s.cell_ne h (show wr (ρ.at j) = some zs by rw [r]; rfl) e e1)
        exact ⟨b, vs, e1, h1, h2, by rw [upd_ne nb]; exact h3, by rw [g]; exact t1⟩
      | bor k zs =>
        rw [r] at qj
        obtain ⟨b, vs, e1, h2, h3, t1⟩ := qj
        have nb : b ≠ a := by
          rintro rfl
          exact q (s.cell_ne h (show wr (ρ.at j) = some zs by rw [r]; rfl) e e1)
        exact ⟨b, vs, e1, h2, by rw [upd_ne nb]; exact h3, by rw [g]; exact t1⟩
      | scr ns =>
        rw [r] at qj
        obtain ⟨b, e1, t1⟩ := qj
        exact ⟨b, e1, by rw [g]; exact t1⟩
  · rw [at_set lt] at h1 h2
    have back : ∀ {j : Nat} {zs : List D}, (if i = j then rew (ρ.at i) ys else ρ.at j) = .own zs → ∃ zs', ρ.at j = .own zs' := by
      intro j zs z
      by_cases q : i = j
      · subst q
        rw [if_pos rfl] at z
        rcases wr_cases h with r | ⟨k, r⟩
        · exact ⟨_, r⟩
        · rw [r] at z
          cases z
      · rw [if_neg q] at z
        exact ⟨_, z⟩
    obtain ⟨_, z1⟩ := back h1
    obtain ⟨_, z2⟩ := back h2
    exact s.oi j k _ _ z1 z2 h3
  · rw [at_set lt] at h1 h2
    have back : ∀ {j : Nat} {zs : List D}, (if i = j then rew (ρ.at i) ys else ρ.at j) = .bor n zs → ∃ zs', ρ.at j = .bor n zs' := by
      intro j zs z
      by_cases q : i = j
      · subst q
        rw [if_pos rfl] at z
        rcases wr_cases h with r | ⟨k, r⟩
        · rw [r] at z
          cases z
        · rw [r] at z
          cases z
          exact ⟨_, r⟩
      · rw [if_neg q] at z
        exact ⟨_, z⟩
    obtain ⟨_, z1⟩ := back h1
    obtain ⟨_, z2⟩ := back h2
    exact s.bi j k n _ _ z1 z2
end

/-! readings -/
/-- an error as it lies: its class (by the written part), its own dict -/
def XoK (K : PySem.W.Frag) (O : List Addr) (H : Hp) (x : Exn) (cls : Value) (d : Option Addr) : Prop :=
  cls = .ref (He.ga K x.cls) ∧ ((x.dat = [] ∧ d = none) ∨ ∃ p fs, d = some p ∧ H p = some (.xd fs) ∧ fs.map (·.1) = x.dat.map (·.1) ∧ Ds K (hid O H) (fs.map (·.2)) (x.dat.map (·.2)))
abbrev Xo (c : Ct) (O : List Addr) (H : Hp) (x : Exn) (cls : Value) (d : Option Addr) : Prop := XoK c.K O H x cls d
/-- what is asked where r is what is evaluated from O, H -/
def Rp (c : Ct) (W : WX) (σ : Sg) (O : List Addr) (H : Hp) {α : Type} (r : Res α) (P : α → Env → Hp → List Addr → Prop) : Prop := match r with
  | .ok a ρ' => ∀ H' O', Post c O H O' H' → StOk c H' σ ρ' O' → P a ρ' H' O'
  | .exc x ρ' => ∀ H' O', Post c O H O' H' → StOk c H' σ ρ' O' → ∀ cls d, Xo c O' H' x cls d → W cls d σ H'
  | .bad => False
section
variable {c : Ct} {W : WX} {σ : Sg} {O : List Addr} {H : Hp} {α β : Type}
theorem Rp.imp {r : Res α} {P P' : α → Env → Hp → List Addr → Prop} (h : Rp c W σ O H r P) (k : ∀ a ρ' H' O', Post c O H O' H' → StOk c H' σ ρ' O' → P a ρ' H' O' → P' a ρ' H' O') : Rp c W σ O H r P' := by
  cases r with
  | ok a ρ' => exact fun H' O' p s => k a ρ' H' O' p s (h H' O' p s)
  | exc x ρ' => exact h
  | bad => exact h
theorem Rp.from {r : Res α} {P : α → Env → Hp → List Addr → Prop} {O1 : List Addr} {H1 : Hp} (h : Rp c W σ O H r P) (p : Post c O H O1 H1) (fx : ∀ z ∈ c.Fx, z ∈ O1) : Rp c W σ O1 H1 r P := by
  cases r with
  | ok a ρ' => exact fun H' O' q s => h H' O' (p.trans q fx) s
  | exc x ρ' => exact fun H' O' q s => h H' O' (p.trans q fx) s
  | bad => exact h
theorem Rp.bind {r : Res α} {k : α → Env → Res β} {P : β → Env → Hp → List Addr → Prop} (h : Rp c W σ O H (r.bind k) P) : Rp c W σ O H r fun a ρ1 H1 O1 => Rp c W σ O1 H1 (k a ρ1) P := by
  cases r with
  | ok a ρ1 => exact fun H1 O1 p s => Rp.from (show Rp c W σ O H (k a ρ1) P from h) p s.fx
  | exc x ρ' => exact h
  | bad => exact h
theorem Rp.got {o : Option α} {ρ : Env} {P : α → Env → Hp → List Addr → Prop} (h : Rp c W σ O H (lift o ρ) P) : ∃ a, o = some a ∧ ∀ H' O', Post c O H O' H' → StOk c H' σ ρ O' → P a ρ H' O' := by
  cases o with
  | none => exact h.elim
  | some a => exact ⟨a, rfl, h⟩
/-- a datum is evaluated -/
abbrev Pd (c : Ct) (Q : VK) : D → Env → Hp → List Addr → Prop := fun d _ H' O' => ∀ v, Dd c.K (hid O' H') v d → Q v H'
def tD (c : Ct) (W : WX) (f : Env → Res D) : TE := fun σ H Q => ∃ ρ O, StOk c H σ ρ O ∧ Rp c W σ O H (f ρ) (Pd c Q)
def tT (c : Ct) (W : WX) (f : Env → Res Bool) : TT := fun σ H Q => ∃ ρ O, StOk c H σ ρ O ∧ Rp c W σ O H (f ρ) fun b _ H' _ => Q b H'
def tL (c : Ct) (W : WX) (f : Env → Res (List D)) : TA := fun σ H Q => ∃ ρ O, StOk c H σ ρ O ∧ Rp c W σ O H (f ρ) fun ds _ H' O' => ∀ vs, Ds c.K (hid O' H') vs ds → Q vs H'
/-- an option: none or an int -/
def tO (c : Ct) (W : WX) (f : Env → Res (Option Int)) : TO := fun σ H Q => ∃ ρ O, StOk c H σ ρ O ∧ Rp c W σ O H (f ρ) fun o _ H' _ => Q o H'
/-- the values of arguments: data by themselves, slots by what they hold -/
def AvOk (c : Ct) (O : List Addr) (H : Hp) (σ : Sg) (v : V) : Av → Prop
  | .v d => Dd c.K (hid O H) v d
  | .m i => σ.getD i none = some v
  | .s i => σ.getD i none = some v
  | .l i => σ.getD i none = some v
inductive AvsOk (c : Ct) (O : List Addr) (H : Hp) (σ : Sg) : List V → List Av → Prop
  | nil : AvsOk c O H σ [] []
  | cons {v : V} {vs : List V} {a : Av} {as : List Av} : AvOk c O H σ v a → AvsOk c O H σ vs as → AvsOk c O H σ (v :: vs) (a :: as)
theorem AvOk.le {O' : List Addr} {H' : Hp} {v : V} {a : Av} (h : AvOk c O H σ v a) (g : Le (hid O H) (hid O' H')) : AvOk c O' H' σ v a := by
  cases a with
  | v d => exact Dd.le g h
  | _ => exact h
theorem AvsOk.le {O' : List Addr} {H' : Hp} (g : Le (hid O H) (hid O' H')) : ∀ {vs : List V} {as : List Av}, AvsOk c O H σ vs as → AvsOk c O' H' σ vs as
  | _, _, .nil => .nil
  | _, _, .cons a t => .cons (a.le g) (AvsOk.le g t)
def tAv (c : Ct) (W : WX) (f : Env → Res (List Av)) : TA := fun σ H Q => ∃ ρ O, StOk c H σ ρ O ∧ Rp c W σ O H (f ρ) fun as _ H' O' => ∀ vs, AvsOk c O' H' σ vs as → Q vs H'
theorem PE.weak {X : Cx} {e : Expr} {t t' : TE} (h : PE X e t) (w : ∀ σ H Q, t' σ H Q → t σ H Q) : PE X e t' := ⟨fun pins s σ H Q I z => h.run pins s σ H Q I (w σ H Q z)⟩
theorem PT.weak {X : Cx} {e : Expr} {t t' : TT} (h : PT X e t) (w : ∀ σ H Q, t' σ H Q → t σ H Q) : PT X e t' := ⟨fun pins s σ H Q I z => h.run pins s σ H Q I (w σ H Q z)⟩
theorem PW.weak {X : Cx} {e : Expr} {t t' : TT} (h : PW X e t) (w : ∀ σ H Q, t' σ H Q → t σ H Q) : PW X e t' := ⟨fun wh pins s σ H Q I z => h.run wh pins s σ H Q I (w σ H Q z)⟩
theorem PA.weak {X : Cx} {es : List Expr} {t t' : TA} (h : PA X es t) (w : ∀ σ H Q, t' σ H Q → t σ H Q) : PA X es t' := ⟨fun pos pins s σ H Q I z => h.run pos pins s σ H Q I (w σ H Q z)⟩
theorem PO.weak {X : Cx} {e : Option Expr} {t t' : TO} (h : PO X e t) (w : ∀ σ H Q, t' σ H Q → t σ H Q) : PO X e t' := ⟨fun pins s σ H Q I z => h.run pins s σ H Q I (w σ H Q z)⟩
/-- the end of a pure step: r came out, the heap may have grown -/
theorem Rp.out {o : Option D} {ρ : Env} {Q : VK} (h : Rp c W σ O H (lift o ρ) (Pd c Q)) (s : StOk c H σ ρ O) : ∃ r, o = some r ∧ Out c.K O H r Q := by
  obtain ⟨r, e, k⟩ := h.got
  exact ⟨r, e, fun v H' l d => k H' O (Post.of_le l) (s.le l) v d⟩
end
end DR
/-! Part k: what each form of an expression evaluates to. -/
namespace DR
open PySem PySem.Spec PyProof.Rows L2

section
variable {X : Cx} {c : Ct} {W : WX} {a b d : Expr} {fa fb fd : Env → Res D} {pos p : Pos}
theorem k_ok {e : Expr} {f : Env → Res D} {v : V} {r : D} {t : TE} (h : PE X e (tC v)) (hd : ∀ G, Dd c.K G v r) : PE X e (tD c W fun ρ => .ok r ρ) :=
  PE.weak h fun σ H Q ⟨ρ, O, s, h⟩ => h H O .refl s v (hd _)
theorem k_var {i : Nat} {x : Str} (hN : X.N[i]? = some x) (hv : Vis X.env.scope x) (h1 : (x == ("__debug__" : Str)) = false) (h2 : (x == ("__classdict__" : Str)) = false) :
    PE X (.Name x pos) (tD c W fun ρ => match ρ.at i with
      | .val d => .ok d ρ
      | .own xs => .ok (.list xs) (ρ.set i (.val (.list xs)))
      | _ => .bad) := by
  refine PE.weak (pe_var hN hv h1 h2) fun σ H Q ⟨ρ, O, s, h⟩ => ?_
  have q := s.sl i
  cases r : ρ.at i with
  | val d =>
    rw [r] at q
    simp only [r] at h
    obtain ⟨v, e, t⟩ := q
    exact ⟨v, sget_some e, h H O .refl s v t⟩
  | own xs =>
    simp only [r] at h
    obtain ⟨a, ws, e, hH, p, s', t⟩ := s.freeze r
    exact ⟨.ref a, sget_some e, h H _ p s' _ t⟩
  | un => simp only [r] at h; exact h.elim
  | bor k xs => simp only [r] at h; exact h.elim
  | scr ns => simp only [r] at h; exact h.elim
theorem k_bop (hK : c.K = X.K) {o : Bop} (ha : PE X a (tD c W fa)) (hb : PE X b (tD c W fb)) :
    PE X (.BinOp a o.op b pos) (tD c W fun ρ => (fa ρ).bind fun x ρ1 => (fb ρ1).bind fun y ρ2 => lift (bop o x y) ρ2) := by
  refine PE.weak (pe_op (bop_ok o) ha hb) fun σ H Q ⟨ρ, O, s, h⟩ => ?_
  refine ⟨ρ, O, s, h.bind.imp fun x ρ1 H1 O1 p1 s1 h1 v dv => ⟨ρ1, O1, s1, h1.bind.imp fun y ρ2 H2 O2 p2 s2 h2 w dw => ?_⟩⟩
  obtain ⟨r, e, out⟩ := h2.out s2
  rw [hK] at dv dw out
  exact ⟨O2, x, y, r, s2.hx, dv.le p2.hid, dw, e, out⟩
theorem k_neg (hK : c.K = X.K) (ha : PE X a (tD c W fa)) : PE X (.UnaryOp .USub a pos) (tD c W fun ρ => (fa ρ).bind fun x ρ1 => lift (unNeg x) ρ1) := by
  refine PE.weak (pe_un un_negD ha) fun σ H Q ⟨ρ, O, s, h⟩ => ⟨ρ, O, s, h.bind.imp fun x ρ1 H1 O1 p1 s1 h1 v dv => ?_⟩
  obtain ⟨r, e, out⟩ := h1.out s1
  rw [hK] at dv out
  exact ⟨O1, x, r, s1.hx, dv, e, out⟩
/-- a comparison of two data, by values -/
theorem cop_step (hK : c.K = X.K) {o : Cop} {σ : Sg} {O : List Addr} {H : Hp} {x y : D} {v w : V} {ρ : Env} {Q : VK} (s : StOk c H σ ρ O) (dv : Dd c.K (hid O H) v x) (dw : Dd c.K (hid O H) w y)
    (h : Rp c W σ O H (lift ((cop o x y).map .bool) ρ) (Pd c Q)) : rDc X.K (cop o) v w H Q := by
  obtain ⟨r, e, out⟩ := h.out s
  obtain ⟨k, e2, rfl⟩ := Option.map_eq_some_iff.mp e
  rw [hK] at dv dw
  exact ⟨O, x, y, k, dv, dw, e2, out.here (.bl k)⟩
theorem k_cmp (hK : c.K = X.K) (hu : X.A.units + 65 < cLine) {o : Cop} (ha : PE X a (tD c W fa)) (hb : PE X b (tD c W fb)) (hm : behindInMarks o.op b = false) :
    PE X (.Compare a [o.op] [b] pos) (tD c W fun ρ => (fa ρ).bind fun x ρ1 => (fb ρ1).bind fun y ρ2 => lift ((cop o x y).map .bool) ρ2) := by
  refine PE.weak (pe_cmpR (cop_ok hu o) ha hb hm) fun σ H Q ⟨ρ, O, s, h⟩ => ?_
  exact ⟨ρ, O, s, h.bind.imp fun x ρ1 H1 O1 p1 s1 h1 v dv => ⟨ρ1, O1, s1, h1.bind.imp fun y ρ2 H2 O2 p2 s2 h2 w dw => cop_step hK s2 (dv.le p2.hid) dw h2⟩⟩
/-- a comparison's answer as a test -/
theorem bool_got {σ : Sg} {O : List Addr} {H : Hp} {o : Option Bool} {ρ : Env} {P : Bool → Env → Hp → List Addr → Prop} (s : StOk c H σ ρ O)
    (h : Rp c W σ O H (lift (o.map PyData.bool) ρ) fun d ρ1 H1 O1 => Rp c W σ O1 H1 (lift (tru d) ρ1) P) : ∃ k, o = some k ∧ P k ρ H O := by
  obtain ⟨r, e, hk⟩ := h.got
  obtain ⟨k, e2, rfl⟩ := Option.map_eq_some_iff.mp e
  exact ⟨k, e2, (hk H O .refl s) H O .refl s⟩
theorem k_cmpT (hK : c.K = X.K) (hu : X.A.units + 65 < cLine) {o : Cop} (ha : PE X a (tD c W fa)) (hb : PE X b (tD c W fb)) (hm : behindInMarks o.op b = false) :
    PT X (.Compare a [o.op] [b] pos) (tT c W fun ρ => ((fa ρ).bind fun x ρ1 => (fb ρ1).bind fun y ρ2 => lift ((cop o x y).map .bool) ρ2).bind fun d ρ => lift (tru d) ρ) := by
  refine PT.weak (pt_cmpR (cop_ok hu o) ha hb hm) fun σ H Q ⟨ρ, O, s, h⟩ => ?_
  refine ⟨ρ, O, s, h.bind.bind.imp fun x ρ1 H1 O1 p1 s1 h1 v dv => ⟨ρ1, O1, s1, h1.bind.imp fun y ρ2 H2 O2 p2 s2 h2 w dw => ?_⟩⟩
  obtain ⟨k, e, q⟩ := bool_got s2 h2
  rw [hK] at dv dw
  exact ⟨O2, x, y, k, dv.le p2.hid, dw, e, k, rfl, q⟩
/-- a op b op' c -/
def chainE (o o' : Cop) (fa fb fc : Env → Res D) (ρ : Env) : Res D := (fa ρ).bind fun x ρ1 => (fb ρ1).bind fun y ρ2 => (lift (cop o x y) ρ2).bind fun k ρ2 =>
  if k = true then (fc ρ2).bind fun z ρ3 => lift ((cop o' y z).map .bool) ρ3 else .ok (.bool false) ρ2
theorem k_chain (hK : c.K = X.K) (hu : X.A.units + 65 < cLine) {o o' : Cop} (ha : PE X a (tD c W fa)) (hb : PE X b (tD c W fb)) (hd : PE X d (tD c W fd)) (hm : lastMarks [o.op, o'.op] [b, d] = false) :
    PE X (.Compare a [o.op, o'.op] [b, d] pos) (tD c W (chainE o o' fa fb fd)) := by
  refine PE.weak (pe_chain (cop_ok hu o) (cop_ok hu o') ha hb hd hm) fun σ H Q ⟨ρ, O, s, h⟩ => ?_
  refine ⟨ρ, O, s, h.bind.imp fun x ρ1 H1 O1 p1 s1 h1 v dv => ⟨ρ1, O1, s1, h1.bind.imp fun y ρ2 H2 O2 p2 s2 h2 w dw => ?_⟩⟩
  obtain ⟨k, e, h3⟩ := h2.bind.got
  have dv' := dv.le p2.hid
  rw [hK] at dv'
  refine ⟨O2, x, y, k, dv', hK ▸ dw, e, k, rfl, ?_⟩
  have h4 := h3 H2 O2 .refl s2
  cases k with
  | false => exact h4 H2 O2 .refl s2 _ (.bl false)
  | true => exact ⟨ρ2, O2, s2, (show Rp c W σ O2 H2 ((fd ρ2).bind fun z ρ3 => lift ((cop o' y z).map .bool) ρ3) (Pd c Q) from h4).bind.imp fun z ρ3 H3 O3 p3 s3 h5 u du => cop_step hK s3 (dw.le p3.hid) du h5⟩
theorem k_chainT (hK : c.K = X.K) (hu : X.A.units + 65 < cLine) {o o' : Cop} (ha : PE X a (tD c W fa)) (hb : PE X b (tD c W fb)) (hd : PE X d (tD c W fd)) (hm : lastMarks [o.op, o'.op] [b, d] = false) :
    PT X (.Compare a [o.op, o'.op] [b, d] pos) (tT c W fun ρ => (chainE o o' fa fb fd ρ).bind fun d ρ => lift (tru d) ρ) := by
  refine PT.weak (pt_chain (cop_ok hu o) (cop_ok hu o') ha hb hd hm) fun σ H Q ⟨ρ, O, s, h⟩ => ?_
  refine ⟨ρ, O, s, h.bind.bind.imp fun x ρ1 H1 O1 p1 s1 h1 v dv => ⟨ρ1, O1, s1, h1.bind.imp fun y ρ2 H2 O2 p2 s2 h2 w dw => ?_⟩⟩
  obtain ⟨k, e, h3⟩ := h2.bind.got
  have dv' := dv.le p2.hid
  rw [hK] at dv'
  refine ⟨O2, x, y, k, dv', hK ▸ dw, e, k, rfl, ?_⟩
  have h4 := h3 H2 O2 .refl s2
  cases k with
  | false => exact ⟨false, rfl, (h4 H2 O2 .refl s2) H2 O2 .refl s2⟩
  | true =>
    have h4' : Rp c W σ O2 H2 ((fd ρ2).bind fun z ρ3 => lift ((cop o' y z).map PyData.bool) ρ3) (fun a ρ1 H1 O1 => Rp c W σ O1 H1 (lift (tru a) ρ1) fun b _ H' _ => Q b H') := h4
    refine ⟨ρ2, O2, s2, h4'.bind.imp fun z ρ3 H3 O3 p3 s3 h5 u du => ?_⟩
    obtain ⟨k, e, q⟩ := bool_got s3 h5
    exact ⟨O3, y, z, k, hK ▸ dw.le p3.hid, hK ▸ du, e, k, rfl, q⟩
/-! truth -/
theorem tru_got (hK : c.K = X.K) {σ : Sg} {O : List Addr} {H : Hp} {x : D} {ρ : Env} {v : V} {β : Type} {g : Bool → Env → Res β} {P : β → Env → Hp → List Addr → Prop} (s : StOk c H σ ρ O) (dv : Dd c.K (hid O H) v x)
    (h : Rp c W σ O H ((lift (tru x) ρ).bind g) P) : ∃ k, TruV X.K v H k ∧ Rp c W σ O H (g k ρ) P := by
  obtain ⟨k, e, h1⟩ := h.bind.got
  rw [hK] at dv
  exact ⟨k, tru_V dv e, h1 H O .refl s⟩
theorem k_one {op} {f : Env → Res D} (h : PE X a (tD c W f)) : PE X (.BoolOp op [a] pos) (tD c W f) := pe_one h
def andE (fa fb : Env → Res D) (ρ : Env) : Res D := (fa ρ).bind fun x ρ1 => (lift (tru x) ρ1).bind fun k ρ1 => if k = true then fb ρ1 else .ok x ρ1
def orE (fa fb : Env → Res D) (ρ : Env) : Res D := (fa ρ).bind fun x ρ1 => (lift (tru x) ρ1).bind fun k ρ1 => if k = true then .ok x ρ1 else fb ρ1
theorem k_and (hK : c.K = X.K) {rest : List Expr} (ha : PE X a (tD c W fa)) (hb : PE X (.BoolOp .And (b :: rest) pos) (tD c W fb)) : PE X (.BoolOp .And (a :: b :: rest) pos) (tD c W (andE fa fb)) := by
  refine PE.weak (pe_andT ha hb) fun σ H Q ⟨ρ, O, s, h⟩ => ⟨ρ, O, s, h.bind.imp fun x ρ1 H1 O1 p1 s1 h1 v dv => ?_⟩
  obtain ⟨k, e, h2⟩ := tru_got hK s1 dv h1
  refine ⟨k, e, ?_⟩
  cases k with
  | true => exact ⟨ρ1, O1, s1, h2⟩
  | false => exact h2 H1 O1 .refl s1 v dv
theorem k_or (hK : c.K = X.K) {rest : List Expr} (ha : PE X a (tD c W fa)) (hb : PE X (.BoolOp .Or (b :: rest) pos) (tD c W fb)) : PE X (.BoolOp .Or (a :: b :: rest) pos) (tD c W (orE fa fb)) := by
  refine PE.weak (pe_orT ha hb) fun σ H Q ⟨ρ, O, s, h⟩ => ⟨ρ, O, s, h.bind.imp fun x ρ1 H1 O1 p1 s1 h1 v dv => ?_⟩
  obtain ⟨k, e, h2⟩ := tru_got hK s1 dv h1
  refine ⟨k, e, ?_⟩
  cases k with
  | false => exact ⟨ρ1, O1, s1, h2⟩
  | true => exact h2 H1 O1 .refl s1 v dv
theorem k_not (hK : c.K = X.K) (ha : PE X a (tD c W fa)) : PE X (.UnaryOp .Not a pos) (tD c W fun ρ => (fa ρ).bind fun x ρ1 => (lift (tru x) ρ1).bind fun k ρ1 => .ok (.bool !k) ρ1) := by
  refine PE.weak (pe_notT ha) fun σ H Q ⟨ρ, O, s, h⟩ => ⟨ρ, O, s, h.bind.imp fun x ρ1 H1 O1 p1 s1 h1 v dv => ?_⟩
  obtain ⟨k, e, h2⟩ := tru_got hK s1 dv h1
  exact ⟨k, e, h2 H1 O1 .refl s1 _ (.bl _)⟩
/-- an expression's truth -/
abbrev trE (f : Env → Res D) : Env → Res Bool := fun ρ => (f ρ).bind fun x ρ1 => lift (tru x) ρ1
theorem Rp.tr {σ : Sg} {O : List Addr} {H : Hp} {f : Env → Res D} {ρ : Env} {P : Bool → Env → Hp → List Addr → Prop} (h : Rp c W σ O H (trE f ρ) P) : Rp c W σ O H (f ρ) fun x ρ1 H1 O1 => ∃ k, tru x = some k ∧ P k ρ1 H1 O1 :=
  h.bind.imp fun x ρ1 H1 O1 p1 s1 h1 => by
    obtain ⟨k, e, h2⟩ := h1.got
    exact ⟨k, e, h2 H1 O1 .refl s1⟩
theorem k_truth (hK : c.K = X.K) (ha : PE X a (tD c W fa)) (he : ∀ whole, isTrue a X.env whole = (do let v ← whole; standAt a.pos; holding [v] (truthy v))) : PT X a (tT c W (trE fa)) := by
  refine PT.weak (pt_truth ha he) fun σ H Q ⟨ρ, O, s, h⟩ => ⟨ρ, O, s, h.tr.imp fun x ρ1 H1 O1 p1 s1 ⟨k, e, q⟩ v dv => ⟨k, ?_, q⟩⟩
  rw [hK] at dv
  exact tru_V dv e
theorem k_notT (ha : PT X a (tT c W (trE fa))) : PT X (.UnaryOp .Not a pos) (tT c W (trE fun ρ => (fa ρ).bind fun x ρ1 => (lift (tru x) ρ1).bind fun k ρ1 => .ok (.bool !k) ρ1)) := by
  refine PT.weak (pt_not ha) fun σ H Q ⟨ρ, O, s, h⟩ => ⟨ρ, O, s, ?_⟩
  have h' : Rp c W σ O H (trE fa ρ) fun k ρ1 H1 O1 => Rp c W σ O1 H1 (.ok (!k) ρ1) fun b _ H' _ => Q b H' := by
    refine Rp.bind ?_
    cases r : fa ρ with
    | ok x ρ1 =>
      simp only [trE, r, Res.bind] at h ⊢
      cases q : tru x with
      | none => rw [q] at h; exact h.elim
      | some k => rw [q] at h; exact h
    | exc x ρ1 => simp only [trE, r, Res.bind] at h ⊢; exact h
    | bad => simp only [trE, r, Res.bind] at h; exact h.elim
  exact h'.imp fun k ρ1 H1 O1 p1 s1 q => q H1 O1 .refl s1
theorem k_oneW {op} (ha : PT X a (tT c W (trE fa))) : PW X (.BoolOp op [a] pos) (tT c W (trE fa)) := by
  cases op with
  | And => exact pw_and1 ha
  | Or => exact pw_or1 ha
theorem k_andW {rest : List Expr} (ha : PT X a (tT c W (trE fa))) (hb : PW X (.BoolOp .And (b :: rest) pos) (tT c W (trE fb))) : PW X (.BoolOp .And (a :: b :: rest) pos) (tT c W (trE (andE fa fb))) := by
  refine PW.weak (pw_and ha hb) fun σ H Q ⟨ρ, O, s, h⟩ => ⟨ρ, O, s, ?_⟩
  have h' : Rp c W σ O H (trE fa ρ) fun k ρ1 H1 O1 => Rp c W σ O1 H1 (if k = true then trE fb ρ1 else .ok false ρ1) fun b _ H' _ => Q b H' := by
    refine Rp.bind ?_
    cases r : fa ρ with
    | ok x ρ1 =>
      simp only [trE, andE, r, Res.bind] at h ⊢
      cases q : tru x with
      | none => rw [q] at h; exact h.elim
      | some k =>
        rw [q] at h
        cases k with
        | true => exact h
        | false =>
          have h2 : Rp c W σ O H (lift (tru x) ρ1) (fun b _ H' _ => Q b H') := h
          rw [q] at h2
          exact h2
    | exc x ρ1 => simp only [trE, andE, r, Res.bind] at h ⊢; exact h
    | bad => simp only [trE, andE, r, Res.bind] at h; exact h.elim
  refine h'.imp fun k ρ1 H1 O1 p1 s1 q => ?_
  cases k with
  | true => exact ⟨ρ1, O1, s1, q⟩
  | false => exact q H1 O1 .refl s1
theorem k_orW {rest : List Expr} (ha : PT X a (tT c W (trE fa))) (hb : PW X (.BoolOp .Or (b :: rest) pos) (tT c W (trE fb))) : PW X (.BoolOp .Or (a :: b :: rest) pos) (tT c W (trE (orE fa fb))) := by
  refine PW.weak (pw_or ha hb) fun σ H Q ⟨ρ, O, s, h⟩ => ⟨ρ, O, s, ?_⟩
  have h' : Rp c W σ O H (trE fa ρ) fun k ρ1 H1 O1 => Rp c W σ O1 H1 (if k = true then .ok true ρ1 else trE fb ρ1) fun b _ H' _ => Q b H' := by
    refine Rp.bind ?_
    cases r : fa ρ with
    | ok x ρ1 =>
      simp only [trE, orE, r, Res.bind] at h ⊢
      cases q : tru x with
      | none => rw [q] at h; exact h.elim
      | some k =>
        rw [q] at h
        cases k with
        | false => exact h
        | true =>
          have h2 : Rp c W σ O H (lift (tru x) ρ1) (fun b _ H' _ => Q b H') := h
          rw [q] at h2
          exact h2
    | exc x ρ1 => simp only [trE, orE, r, Res.bind] at h ⊢; exact h
    | bad => simp only [trE, orE, r, Res.bind] at h; exact h.elim
  refine h'.imp fun k ρ1 H1 O1 p1 s1 q => ?_
  cases k with
  | false => exact ⟨ρ1, O1, s1, q⟩
  | true => exact q H1 O1 .refl s1
def iteE (fc fa fb : Env → Res D) (ρ : Env) : Res D := (fc ρ).bind fun x ρ1 => (lift (tru x) ρ1).bind fun k ρ1 => if k = true then fa ρ1 else fb ρ1
theorem k_ite {e : Expr} {fc : Env → Res D} (hc : PT X e (tT c W (trE fc))) (ha : PE X a (tD c W fa)) (hb : PE X b (tD c W fb)) : PE X (.IfExp e a b pos) (tD c W (iteE fc fa fb)) := by
  refine PE.weak (pe_ifExp hc ha hb) fun σ H Q ⟨ρ, O, s, h⟩ => ⟨ρ, O, s, ?_⟩
  have h' : Rp c W σ O H (trE fc ρ) fun k ρ1 H1 O1 => Rp c W σ O1 H1 (if k = true then fa ρ1 else fb ρ1) (Pd c Q) := by
    refine Rp.bind ?_
    cases r : fc ρ with
    | ok x ρ1 =>
      simp only [trE, iteE, r, Res.bind] at h ⊢
      cases q : tru x with
      | none => rw [q] at h; exact h.elim
      | some k => rw [q] at h; exact h
    | exc x ρ1 => simp only [trE, iteE, r, Res.bind] at h ⊢; exact h
    | bad => simp only [trE, iteE, r, Res.bind] at h; exact h.elim
  refine h'.imp fun k ρ1 H1 O1 p1 s1 q => ?_
  cases k with
  | true => exact ⟨ρ1, O1, s1, q⟩
  | false => exact ⟨ρ1, O1, s1, q⟩
end
end DR
/-! Part l: subscripts, calls of built-in functions, displays. -/
namespace DR
open PySem PySem.Spec PyProof.Rows L2

/-- no star in front -/
def plainArg : Expr → Bool
  | .Starred .. => false
  | _ => true
theorem star_cons {e : Expr} {es : List Expr} {env : PySem.Env} (h : plainArg e = true) : starEach (e :: es) env = (false, eval e env) :: starEach es env := by
  cases e <;> first | rfl | cases h
theorem star_any {env : PySem.Env} {pos : Pos} : ∀ {es : List Expr}, es.all plainArg = true → (backTo pos (starEach es env)).any (·.1) = false
  | [], _ => rfl
  | e :: es, h => by
    rw [List.all_cons, Bool.and_eq_true] at h
    rw [star_cons h.1]
    show (false || (backTo pos (starEach es env)).any (·.1)) = false
    rw [star_any h.2]
    rfl
def notSlice : Expr → Bool
  | .Slice .. => false
  | _ => true
theorem plainIx_of {b : Expr} (h : notSlice b = true) : PlainIx b := by
  intro o i
  cases b <;> first | rfl | cases h

theorem ixD_list {xs : List D} {y r : D} (h : ixD (.list xs) y = some r) : ∃ i, y = .int i ∧ atI xs i = some r := by
  cases y with
  | int i => exact ⟨i, rfl, h⟩
  | _ => cases h
section
variable {X : Cx} {c : Ct} {W : WX} {a b : Expr} {fa fb : Env → Res D} {pos p p2 q : Pos}
theorem k_ix (hK : c.K = X.K) (ha : PE X a (tD c W fa)) (hb : PE X b (tD c W fb)) (hs : notSlice b = true) :
    PE X (.Subscript a b pos) (tD c W fun ρ => (fa ρ).bind fun x ρ1 => (fb ρ1).bind fun y ρ2 => lift (ixD x y) ρ2) := by
  refine PE.weak (pe_ix ix_D ha hb (plainIx_of hs)) fun σ H Q ⟨ρ, O, s, h⟩ => ?_
  refine ⟨ρ, O, s, h.bind.imp fun x ρ1 H1 O1 p1 s1 h1 v dv => ⟨ρ1, O1, s1, h1.bind.imp fun y ρ2 H2 O2 p2 s2 h2 w dw => ?_⟩⟩
  obtain ⟨r, e, out⟩ := h2.out s2
  rw [hK] at dv dw out
  exact ⟨O2, x, y, r, s2.hx, dv.le p2.hid, dw, e, out⟩
theorem Rp.then {σ : Sg} {O : List Addr} {H : Hp} {α β : Type} {o : Option α} {ρ : Env} {k : α → Env → Res β} {P : β → Env → Hp → List Addr → Prop} (s : StOk c H σ ρ O) (h : Rp c W σ O H ((lift o ρ).bind k) P) :
    ∃ a, o = some a ∧ Rp c W σ O H (k a ρ) P := by
  obtain ⟨x, e, h1⟩ := h.bind.got
  exact ⟨x, e, h1 H O .refl s⟩
theorem k_ixo (hK : c.K = X.K) {i : Nat} {x : Str} (hN : X.N[i]? = some x) (hv : Vis X.env.scope x) (h1 : (x == ("__debug__" : Str)) = false) (h2 : (x == ("__classdict__" : Str)) = false) (hb : PE X b (tD c W fb)) (hs : notSlice b = true) :
    PE X (.Subscript (.Name x p) b pos) (tD c W fun ρ => (lift (wr (ρ.at i)) ρ).bind fun _ _ => (fb ρ).bind fun y ρ1 => (lift (wr (ρ1.at i)) ρ1).bind fun xs _ => lift (ixD (.list xs) y) ρ1) := by
  refine PE.weak (pe_ix ix_list (pe_var hN hv h1 h2) hb (plainIx_of hs)) fun σ H Q ⟨ρ, O, s, h⟩ => ?_
  obtain ⟨xs0, e0, h⟩ := h.then s
  obtain ⟨a, ws0, ea, _⟩ := s.cell e0
  refine ⟨.ref a, sget_some ea, ρ, O, s, h.bind.imp fun y ρ1 H1 O1 p1 s1 h1 w dw => ?_⟩
  obtain ⟨xs, e1, h1⟩ := h1.then s1
  obtain ⟨a', ws, ea', mO, _, hH, t⟩ := s1.cell e1
  rw [ea] at ea'
  cases ea'
  obtain ⟨r, e, out⟩ := h1.out s1
  obtain ⟨n, rfl, e⟩ := ixD_list e
  obtain ⟨u, hu, du⟩ := atI_ds t e
  exact ⟨a, ws, _, u, rfl, dw.int_inv, .inl (.inl hH), hu, out.here du⟩
theorem k_sl (hK : c.K = X.K) {lo hi : Option Expr} {fl fh : Env → Res (Option Int)} (ha : PE X a (tD c W fa)) (hl : PO X lo (tO c W fl)) (hh : PO X hi (tO c W fh)) :
    PE X (.Subscript a (.Slice lo hi none p2) pos) (tD c W fun ρ => (fa ρ).bind fun x ρ1 => (fl ρ1).bind fun l ρ2 => (fh ρ2).bind fun h ρ3 => lift (slD x l h) ρ3) := by
  refine PE.weak (pe_slice sl_D ha hl hh) fun σ H Q ⟨ρ, O, s, h⟩ => ?_
  refine ⟨ρ, O, s, h.bind.imp fun x ρ1 H1 O1 p1 s1 h1 v dv => ⟨ρ1, O1, s1, h1.bind.imp fun l ρ2 H2 O2 p2 s2 h2 => ⟨ρ2, O2, s2, h2.bind.imp fun u ρ3 H3 O3 p3 s3 h3 => ?_⟩⟩⟩
  obtain ⟨r, e, out⟩ := h3.out s3
  rw [hK] at dv out
  exact ⟨O3, x, r, s3.hx, (dv.le p2.hid).le p3.hid, e, out⟩
theorem k_oNo : PO X none (tO c W fun ρ => .ok none ρ) := PO.weak po_none fun σ H Q ⟨ρ, O, s, h⟩ => h H O .refl s
theorem k_oYes (ha : PE X a (tD c W fa)) : PO X (some a) (tO c W fun ρ => (fa ρ).bind fun d ρ1 => (lift (intOf d) ρ1).bind fun n ρ1 => .ok (some n) ρ1) := by
  refine PO.weak (po_some ha) fun σ H Q ⟨ρ, O, s, h⟩ => ⟨ρ, O, s, h.bind.imp fun x ρ1 H1 O1 p1 s1 h1 v dv => ?_⟩
  obtain ⟨n, e, h2⟩ := h1.then s1
  cases x with
  | int i =>
    cases e
    exact ⟨_, dv.int_inv, h2 H1 O1 .refl s1⟩
  | _ => cases e

/-! built-in functions of one argument -/
def Bi.nm : Bi → Str
  | .len => "len" | .all => "all" | .any => "any" | .tuple => "tuple" | .list => "list" | .min => "min" | .repr => "repr" | .sorted => "sorted"
theorem bi_call (hc : X.calm = true) (hu : X.A.units + 68 < cLine) (f : Bi) (hg : f = .repr → X.A.guards = some []) (hl : Gl X f.nm) (hm : X.mg f.nm = none) {ta : TE} (ha : PE X a ta) (hp : plainArg a = true) :
    PE X (.Call (.Name f.nm p) [a] [] pos) (fun σ H Q => ta σ H fun x H1 => rC1 X.K (biD f) [x] H1 Q) := by
  have args : PA X [a] (tCons ta tNil) := pa_cons ha pa_nil (star_cons hp)
  cases f with
  | len => exact pe_callB call_lenD1 hl hm PySem.boot_len args (by decide) (by decide) (star_cons hp) rfl
  | all => exact pe_callB (call_allD hc) hl hm boot_all args (by decide) (by decide) (star_cons hp) rfl
  | any => exact pe_callB (call_anyD hc) hl hm boot_any args (by decide) (by decide) (star_cons hp) rfl
  | tuple => exact pe_callTy call_tupD hl hm PyProof.Rows.boot_tuple args (by decide) (by decide) (star_cons hp) rfl
  | list => exact pe_callTy call_lstD hl hm PyProof.Rows.boot_list args (by decide) (by decide) (star_cons hp) rfl
  | min => exact pe_callB (call_minD hc) hl hm boot_min args (by decide) (by decide) (star_cons hp) rfl
  | repr => exact pe_callB (call_reprD (hg rfl) (by omega)) hl hm bootS_repr args (by decide) (by decide) (star_cons hp) rfl
  | sorted => exact pe_callB (call_sortD (by omega)) hl hm boot_sorted args (by decide) (by decide) (star_cons hp) rfl
theorem k_bi (hK : c.K = X.K) (hc : X.calm = true) (hu : X.A.units + 68 < cLine) {f : Bi} (hg : f = .repr → X.A.guards = some []) (hl : Gl X f.nm) (hm : X.mg f.nm = none) (ha : PE X a (tD c W fa)) (hp : plainArg a = true) :
    PE X (.Call (.Name f.nm p) [a] [] pos) (tD c W fun ρ => (fa ρ).bind fun x ρ1 => lift (biD f x) ρ1) := by
  refine PE.weak (bi_call hc hu f hg hl hm ha hp) fun σ H Q ⟨ρ, O, s, h⟩ => ⟨ρ, O, s, h.bind.imp fun x ρ1 H1 O1 p1 s1 h1 v dv => ?_⟩
  obtain ⟨r, e, out⟩ := h1.out s1
  rw [hK] at dv out
  exact ⟨v, rfl, O1, x, r, s1.hx, dv, e, out⟩
def mmN (mx : Bool) : Str := if mx then "max" else "min"
theorem k_mm (hK : c.K = X.K) (hc : X.calm = true) {mx : Bool} (hl : Gl X (mmN mx)) (hm : X.mg (mmN mx) = none) (ha : PE X a (tD c W fa)) (hb : PE X b (tD c W fb)) (hp : plainArg a = true) (hp2 : plainArg b = true) :
    PE X (.Call (.Name (mmN mx) p) [a, b] [] pos) (tD c W fun ρ => (fa ρ).bind fun x ρ1 => (fb ρ1).bind fun y ρ2 => lift (mmD mx x y) ρ2) := by
  have args : PA X [a, b] (tCons (tD c W fa) (tCons (tD c W fb) tNil)) := pa_cons ha (pa_cons hb pa_nil (star_cons hp2)) (star_cons hp)
  have base : PE X (.Call (.Name (mmN mx) p) [a, b] [] pos) (tCB (rC2 X.K (mmD mx)) (tCons (tD c W fa) (tCons (tD c W fb) tNil))) := by
    have pl : (backTo pos (starEach [b] X.env)).any (·.1) = false := star_any (by simp [hp2])
    cases mx with
    | true => exact pe_callB (call_mmD hc true) hl hm boot_max args (by decide) (by decide) (star_cons hp) pl
    | false => exact pe_callB (call_mmD hc false) hl hm boot_min args (by decide) (by decide) (star_cons hp) pl
  refine PE.weak base fun σ H Q ⟨ρ, O, s, h⟩ => ?_
  refine ⟨ρ, O, s, h.bind.imp fun x ρ1 H1 O1 p1 s1 h1 v dv => ⟨ρ1, O1, s1, h1.bind.imp fun y ρ2 H2 O2 p2 s2 h2 w dw => ?_⟩⟩
  obtain ⟨r, e, out⟩ := h2.out s2
  rw [hK] at dv dw out
  exact ⟨v, w, rfl, O2, x, y, r, s2.hx, dv.le p2.hid, dw, e, out⟩
def Ty.nm : Ty → Str
  | .int => "int" | .bool => "bool" | .tuple => "tuple" | .str => "str" | .list => "list"
theorem ty_val {t : Ty} (hl : Gl X t.nm) (hm : X.mg t.nm = none) : PE X (.Name t.nm p) (tC (.ty t.name)) := by
  cases t with
  | int => exact pe_bltn hl hm PyProof.Rows.boot_int rfl
  | bool => exact pe_bltn hl hm PyProof.Rows.boot_bool rfl
  | tuple => exact pe_bltn hl hm PyProof.Rows.boot_tuple rfl
  | str => exact pe_bltn hl hm (by decide +kernel : bootBuiltins "str" = some (.type "str")) rfl
  | list => exact pe_bltn hl hm PyProof.Rows.boot_list rfl
theorem k_isi (hK : c.K = X.K) {t : Ty} (hl : Gl X "isinstance") (hm : X.mg "isinstance" = none) (hl2 : Gl X t.nm) (hm2 : X.mg t.nm = none) (ha : PE X a (tD c W fa)) (hp : plainArg a = true) :
    PE X (.Call (.Name "isinstance" p) [a, .Name t.nm q] [] pos) (tD c W fun ρ => (fa ρ).bind fun x ρ1 => .ok (.bool (isiD t x)) ρ1) := by
  have args : PA X [a, .Name t.nm q] (tCons (tD c W fa) (tCons (tC (.ty t.name)) tNil)) := pa_cons ha (pa_cons (ty_val hl2 hm2) pa_nil rfl) (star_cons hp)
  refine PE.weak (pe_callB (call_isiD t) hl hm boot_isinstance args (by decide) (by decide) (star_cons hp) rfl) fun σ H Q ⟨ρ, O, s, h⟩ => ?_
  refine ⟨ρ, O, s, h.bind.imp fun x ρ1 H1 O1 p1 s1 h1 v dv => ?_⟩
  rw [hK] at dv
  exact ⟨v, O1, x, rfl, dv, h1 H1 O1 .refl s1 _ (.bl _)⟩
theorem k_lens {i : Nat} {x : Str} (hK : c.K = X.K) (hN : X.N[i]? = some x) (hv : Vis X.env.scope x) (h1 : (x == ("__debug__" : Str)) = false) (h2 : (x == ("__classdict__" : Str)) = false) (hl : Gl X "len") (hm : X.mg "len" = none) :
    PE X (.Call (.Name "len" p) [.Name x q] [] pos) (tD c W fun ρ => (lift (isScr (ρ.at i)) ρ).bind fun ns _ => .ok (.int ns.length) ρ) := by
  refine PE.weak (pe_callB call_len_seq hl hm PySem.boot_len (pa_cons (pe_var hN hv h1 h2) pa_nil rfl) (by decide) (by decide) rfl rfl) fun σ H Q ⟨ρ, O, s, h⟩ => ?_
  obtain ⟨ns, e, h⟩ := h.then s
  have q := s.sl i
  cases r : ρ.at i with
  | scr ms =>
    rw [r] at q e
    cases e
    obtain ⟨a, e1, t⟩ := q
    rw [hK] at t
    refine ⟨.ref a, sget_some e1, a, _, rfl, .inl (SqL.le' hid_le t), ?_⟩
    rw [List.length_map]
    exact h H O .refl s _ (.int _)
  | _ => rw [r] at e; cases e
theorem k_ixs {i : Nat} {x : Str} (hK : c.K = X.K) (hN : X.N[i]? = some x) (hv : Vis X.env.scope x) (h1 : (x == ("__debug__" : Str)) = false) (h2 : (x == ("__classdict__" : Str)) = false) (hb : PE X b (tD c W fb)) (hs : notSlice b = true) :
    PE X (.Subscript (.Name x p) b pos) (tD c W fun ρ => (lift (isScr (ρ.at i)) ρ).bind fun _ _ => (fb ρ).bind fun y ρ1 => (lift (isScr (ρ1.at i)) ρ1).bind fun ns _ => lift (ixD (.list (ns.map .int)) y) ρ1) := by
  refine PE.weak (pe_ix ix_list (pe_var hN hv h1 h2) hb (plainIx_of hs)) fun σ H Q ⟨ρ, O, s, h⟩ => ?_
  obtain ⟨ns, e, h⟩ := h.then s
  have q := s.sl i
  cases r : ρ.at i with
  | scr ms =>
    rw [r] at q
    obtain ⟨a, e1, t⟩ := q
    refine ⟨.ref a, sget_some e1, ρ, O, s, h.bind.imp fun y ρ1 H1 O1 p1 s1 h1 w dw => ?_⟩
    obtain ⟨ns1, e2, h1⟩ := h1.then s1
    have q1 := s1.sl i
    cases r1 : ρ1.at i with
    | scr ks =>
      rw [r1] at q1 e2
      cases e2
      obtain ⟨a', e3, t'⟩ := q1
      rw [e1] at e3
      cases e3
      obtain ⟨r, e4, out⟩ := h1.out s1
      obtain ⟨n, rfl, e4⟩ := ixD_list e4
      obtain ⟨u, hu, du⟩ := atI_ds (Ds.of_ints (K := c.K) (G := hid O1 H1) _) e4
      rw [hK] at t'
      exact ⟨a, _, _, u, rfl, dw.int_inv, SqL.le' hid_le t', hu, out.here du⟩
    | _ => rw [r1] at e2; cases e2
  | _ => rw [r] at e; cases e
theorem Ds.rng {K : PySem.W.Frag} {G : Hp} (n : Int) : Ds K G (rgV 0 n) (rngL n) := by
  have : ∀ l : List Nat, Ds K G (l.map fun i => V.int (0 + (i : Nat))) (l.map fun i => PyData.int (i : Nat)) := by
    intro l
    induction l with
    | nil => exact .nil
    | cons i l ih =>
      refine .cons ?_ ih
      show Dd K G (V.int (0 + (i : Int))) (.int (i : Int))
      rw [Int.zero_add]
      exact .int _
  unfold rgV rngL
  rw [Int.sub_zero]
  exact this _
theorem k_rng (hK : c.K = X.K) (hc : X.calm = true) {t : Bool} {y : Str} (hy : y = if t then "tuple" else "list") (hl : Gl X y) (hm : X.mg y = none) (hl2 : Gl X "range") (hm2 : X.mg "range" = none) (ha : PE X a (tD c W fa)) (hp : plainArg a = true) :
    PE X (.Call (.Name y p) [.Call (.Name "range" p2) [a] [] q] [] pos) (tD c W fun ρ => (fa ρ).bind fun x ρ1 => (lift (intOf x) ρ1).bind fun n ρ1 => if rngOk n = true then .ok (if t then .tuple (rngL n) else .list (rngL n)) ρ1 else .bad) := by
  have step : ∀ {σ : Sg} {H : Hp} {Q : VK} (g : Hp → Addr → List V → Hp), (∀ H1 O1 n q, Hx O1 H1 → H1 q = none → Dd c.K (hid O1 (g H1 q (rgV 0 n))) (.ref q) (if t then .tuple (rngL n) else .list (rngL n)) ∧ Le H1 (g H1 q (rgV 0 n))) →
      tD c W (fun ρ => (fa ρ).bind fun x ρ1 => (lift (intOf x) ρ1).bind fun n ρ1 => if rngOk n = true then .ok (if t then .tuple (rngL n) else .list (rngL n)) ρ1 else .bad) σ H Q →
      tD c W fa σ H fun x H1 => ∃ n, x = .int n ∧ RgOk 0 n ∧ ∀ q, H1 q = none → Q (.ref q) (g H1 q (rgV 0 n)) := by
    intro σ H Q g hg ⟨ρ, O, s, h⟩
    refine ⟨ρ, O, s, h.bind.imp fun x ρ1 H1 O1 p1 s1 h1 v dv => ?_⟩
    obtain ⟨n, e, h2⟩ := h1.then s1
    cases x with
    | int i =>
      cases e
      by_cases hr : rngOk n = true
      · rw [if_pos hr] at h2
        have hb : -1000000 ≤ n ∧ n ≤ 1000000 := of_decide_eq_true hr
        refine ⟨n, dv.int_inv, ⟨by omega, by omega, by omega, by omega, by omega⟩, fun q hq => ?_⟩
        obtain ⟨d1, l1⟩ := hg H1 O1 n q s1.hx hq
        exact h2 _ O1 (Post.of_le l1) (s1.le l1) _ d1
      · rw [if_neg hr] at h2
        exact h2.elim
    | _ => cases e
  cases t with
  | true =>
    subst hy
    refine PE.weak (pe_tupRg hc hl hm (prg_1 hl2 hm2 ha (star_cons hp)) rfl) fun σ H Q h => ?_
    exact step (fun H1 q vs => upd H1 q (.tup vs)) (fun H1 O1 n q hx hq => ⟨Dd.new_tup hx hq (Ds.rng n), Le.upd hq⟩) h
  | false =>
    subst hy
    refine PE.weak (pe_listRg hc hl hm (prg_1 hl2 hm2 ha (star_cons hp)) rfl) fun σ H Q h => ?_
    exact step (fun H1 q vs => upd H1 q (.lst vs)) (fun H1 O1 n q hx hq => ⟨Dd.new_lst hx hq (Ds.rng n), Le.upd hq⟩) h
end
end DR
/-! Part m: displays, arguments, the promise of a def, its call. -/
namespace DR
open PySem PySem.Spec PyProof.Rows L2

section
variable {X : Cx} {c : Ct} {W : WX} {a : Expr} {es : List Expr} {fa : Env → Res D} {fr : Env → Res (List D)} {pos p : Pos} {k0 : Nat}
theorem k_esNil : PA X [] (tL c W fun ρ => .ok [] ρ) := PA.weak pa_nil fun σ H Q ⟨ρ, O, s, h⟩ => h H O .refl s [] .nil
theorem k_esCons (ha : PE X a (tD c W fa)) (hr : PA X es (tL c W fr)) (hp : plainArg a = true) : PA X (a :: es) (tL c W fun ρ => (fa ρ).bind fun d ρ1 => (fr ρ1).bind fun ds ρ2 => .ok (d :: ds) ρ2) := by
  refine PA.weak (pa_cons ha hr (star_cons hp)) fun σ H Q ⟨ρ, O, s, h⟩ => ?_
  exact ⟨ρ, O, s, h.bind.imp fun x ρ1 H1 O1 p1 s1 h1 v dv => ⟨ρ1, O1, s1, h1.bind.imp fun ds ρ2 H2 O2 p2 s2 h2 vs dvs => h2 H2 O2 .refl s2 (v :: vs) (.cons (dv.le p2.hid) dvs)⟩⟩
theorem k_esStar (hK : c.K = X.K) (ha : PE X a (tD c W fa)) (hr : PA X es (tL c W fr)) :
    PA X (.Starred a p :: es) (tL c W fun ρ => (fa ρ).bind fun d ρ1 => (lift (dataOf d) ρ1).bind fun xs ρ1 => (fr ρ1).bind fun ds ρ2 => .ok (xs ++ ds) ρ2) := by
  refine PA.weak (StX.pa_star ha hr rfl) fun σ H Q ⟨ρ, O, s, h⟩ => ⟨ρ, O, s, h.bind.imp fun x ρ1 H1 O1 p1 s1 h1 v dv => ?_⟩
  obtain ⟨xs, e, h2⟩ := h1.then s1
  have fin : ∀ vs0, Ds c.K (hid O1 H1) vs0 xs → tL c W fr σ H1 fun ys H2 => Q (vs0 ++ ys) H2 := fun vs0 d0 =>
    ⟨ρ1, O1, s1, h2.bind.imp fun ds ρ2 H2 O2 p2 s2 h3 vs dvs => h3 H2 O2 .refl s2 (vs0 ++ vs) ((d0.le p2.hid).append dvs)⟩
  cases x with
  | list ys =>
    cases e
    obtain ⟨b, vs0, rfl, t, sd⟩ := dv.lst_inv
    exact ⟨b, vs0, rfl, .inr (.inl (.inl (lst_real t))), fin vs0 sd⟩
  | tuple ys =>
    cases e
    obtain ⟨b, vs0, rfl, t, sd⟩ := dv.tup_inv
    exact ⟨b, vs0, rfl, .inl (hK ▸ sqT_real t), fin vs0 sd⟩
  | _ => cases e
theorem k_tup (hr : PA X es (tL c W fr)) : PE X (.Tuple es k0 pos) (tD c W fun ρ => (fr ρ).bind fun ds ρ1 => if ds.length ≤ 1000000 then .ok (.tuple ds) ρ1 else .bad) := by
  refine PE.weak (pe_tup hr) fun σ H Q ⟨ρ, O, s, h⟩ => ⟨ρ, O, s, h.bind.imp fun ds ρ1 H1 O1 p1 s1 h1 vs dvs => ?_⟩
  by_cases z : ds.length ≤ 1000000
  · rw [if_pos z] at h1
    exact ⟨line_le (by rw [dvs.length]; exact z), fun q hq => h1 _ O1 (Post.of_le (Le.upd hq)) (s1.le (Le.upd hq)) _ (Dd.new_tup s1.hx hq dvs)⟩
  · rw [if_neg z] at h1
    exact h1.elim
theorem k_lst (hr : PA X es (tL c W fr)) : PE X (.List es pos) (tD c W fun ρ => (fr ρ).bind fun ds ρ1 => if ds.length ≤ 1000000 then .ok (.list ds) ρ1 else .bad) := by
  refine PE.weak (pe_lst hr) fun σ H Q ⟨ρ, O, s, h⟩ => ⟨ρ, O, s, h.bind.imp fun ds ρ1 H1 O1 p1 s1 h1 vs dvs => ?_⟩
  by_cases z : ds.length ≤ 1000000
  · rw [if_pos z] at h1
    exact ⟨line_le (by rw [dvs.length]; exact z), fun q hq => h1 _ O1 (Post.of_le (Le.upd hq)) (s1.le (Le.upd hq)) _ (Dd.new_lst s1.hx hq dvs)⟩
  · rw [if_neg z] at h1
    exact h1.elim
/-! arguments -/
variable {fv : Env → Res (List Av)}
theorem k_asNil : PA X [] (tAv c W fun ρ => .ok [] ρ) := PA.weak pa_nil fun σ H Q ⟨ρ, O, s, h⟩ => h H O .refl s [] .nil
theorem k_asVal (ha : PE X a (tD c W fa)) (hr : PA X es (tAv c W fv)) (hp : plainArg a = true) : PA X (a :: es) (tAv c W fun ρ => (fa ρ).bind fun d ρ1 => (fv ρ1).bind fun ds ρ2 => .ok (.v d :: ds) ρ2) := by
  refine PA.weak (pa_cons ha hr (star_cons hp)) fun σ H Q ⟨ρ, O, s, h⟩ => ?_
  exact ⟨ρ, O, s, h.bind.imp fun x ρ1 H1 O1 p1 s1 h1 v dv => ⟨ρ1, O1, s1, h1.bind.imp fun ds ρ2 H2 O2 p2 s2 h2 vs dvs => h2 H2 O2 .refl s2 (v :: vs) (.cons (dv.le p2.hid) dvs)⟩⟩
/-- an argument that is a slot -/
theorem k_asSlot {i : Nat} {x : Str} {α : Type} (g : Slot → Option α) (av : Av) (hg : ∀ {H : Hp} {σ : Sg} {ρ : Env} {O : List Addr} {z : α}, StOk c H σ ρ O → g (ρ.at i) = some z → ∃ v, σ.getD i none = some v)
    (hav : ∀ {O : List Addr} {H : Hp} {σ : Sg} {v : V}, σ.getD i none = some v → AvOk c O H σ v av)
    (hN : X.N[i]? = some x) (hv : Vis X.env.scope x) (h1 : (x == ("__debug__" : Str)) = false) (h2 : (x == ("__classdict__" : Str)) = false) (hr : PA X es (tAv c W fv)) :
    PA X (.Name x p :: es) (tAv c W fun ρ => (lift (g (ρ.at i)) ρ).bind fun _ _ => (fv ρ).bind fun ds ρ2 => .ok (av :: ds) ρ2) := by
  refine PA.weak (pa_cons (pe_var hN hv h1 h2) hr rfl) fun σ H Q ⟨ρ, O, s, h⟩ => ?_
  obtain ⟨z, e, h⟩ := h.then s
  obtain ⟨v, ev⟩ := hg s e
  exact ⟨v, sget_some ev, ρ, O, s, h.bind.imp fun ds ρ2 H2 O2 p2 s2 h2 vs dvs => h2 H2 O2 .refl s2 (v :: vs) (.cons (hav ev) dvs)⟩
theorem slot_wr {i : Nat} {H : Hp} {σ : Sg} {ρ : Env} {O : List Addr} {z : List D} (s : StOk c H σ ρ O) (h : wr (ρ.at i) = some z) : ∃ v, σ.getD i none = some v := by
  obtain ⟨a, _, e, _⟩ := s.cell h
  exact ⟨_, e⟩
theorem slot_scr {i : Nat} {H : Hp} {σ : Sg} {ρ : Env} {O : List Addr} {z : List Int} (s : StOk c H σ ρ O) (h : isScr (ρ.at i) = some z) : ∃ v, σ.getD i none = some v := by
  have q := s.sl i
  cases r : ρ.at i with
  | scr ns =>
    rw [r] at q
    obtain ⟨a, e, _⟩ := q
    exact ⟨_, e⟩
  | _ => rw [r] at h; cases h
theorem slot_own {i : Nat} {H : Hp} {σ : Sg} {ρ : Env} {O : List Addr} {z : List D} (s : StOk c H σ ρ O) (h : isOwn (ρ.at i) = some z) : ∃ v, σ.getD i none = some v := by
  refine slot_wr s (z := z) ?_
  cases r : ρ.at i with
  | own xs => rw [r] at h; exact h
  | _ => rw [r] at h; cases h
end

/-! promises -/
def Ext (Bs : List Addr) (H H' : Hp) : Prop := ∀ a o, H a = some o → a ∉ Bs → H' a = some o
/-- the lent lists behind the call -/
inductive Outs (K : PySem.W.Frag) (O : List Addr) (H : Hp) : List Addr → List (List D) → Prop
  | nil : Outs K O H [] []
  | cons {b : Addr} {bs : List Addr} {ws : List V} {xs : List D} {xss : List (List D)} : H b = some (.lst ws) → Ds K (hid O H) ws xs → Outs K O H bs xss → Outs K O H (b :: bs) (xs :: xss)
/-- arguments and their values -/
inductive ArgV (K : PySem.W.Frag) (O : List Addr) (H : Hp) : List Addr → List V → List Arg → Prop
  | nil : ArgV K O H [] [] []
  | val {bs : List Addr} {v : V} {vs : List V} {d : D} {as : List Arg} : Dd K (hid O H) v d → ArgV K O H bs vs as → ArgV K O H bs (v :: vs) (.val d :: as)
  | mut {b : Addr} {bs : List Addr} {vs : List V} {ws : List V} {xs : List D} {as : List Arg} : H b = some (.lst ws) → Ds K (hid O H) ws xs → ArgV K O H bs vs as → ArgV K O H (b :: bs) (.ref b :: vs) (.mut xs :: as)
  | scr {bs : List Addr} {a : Addr} {vs : List V} {ns : List Int} {as : List Arg} : SqL K (hid O H) a (ns.map V.int) → ArgV K O H bs vs as → ArgV K O H bs (.ref a :: vs) (.scr ns :: as)
/-- what is asked where r is what the def answers -/
def FP (K : PySem.W.Frag) (O Bs : List Addr) (H : Hp) (r : FRes) (Q : VK) (E : XK) : Prop := match r with
  | .ok d outs => ∀ v H', Ext Bs H H' → Outs K O H' Bs outs → Dd K (hid O H') v d → Q v H'
  | .new xs outs => ∀ a ws H', Ext Bs H H' → H a = none → H' a = some (.lst ws) → Outs K (a :: O) H' Bs outs → Ds K (hid (a :: O) H') ws xs → Q (.ref a) H'
  | .exc x outs => ∀ cls d H', Ext Bs H H' → Outs K O H' Bs outs → XoK K O H' x cls d → E cls d H'
  | .bad => False
/-- the promise: the def answers as m does -/
def spD (K : PySem.W.Frag) (m : Fn) : Sp := fun vs H Q E => ∃ O Bs as, Hx O H ∧ Bs.Nodup ∧ (∀ b ∈ Bs, b ∈ O) ∧ ArgV K O H Bs vs as ∧ FP K O Bs H (m as) Q E
theorem ArgV.length {K : PySem.W.Frag} {O : List Addr} {H : Hp} : ∀ {bs : List Addr} {vs : List V} {as : List Arg}, ArgV K O H bs vs as → vs.length = as.length
  | _, _, _, .nil => rfl
  | _, _, _, .val _ t => congrArg (· + 1) t.length
  | _, _, _, .mut _ _ t => congrArg (· + 1) t.length
  | _, _, _, .scr _ t => congrArg (· + 1) t.length
theorem Outs.un {K : PySem.W.Frag} {O : List Addr} {H : Hp} {a : Addr} : ∀ {bs : List Addr} {os : List (List D)}, Outs K (a :: O) H bs os → Outs K O H bs os
  | _, _, .nil => .nil
  | _, _, .cons h1 h2 t => .cons h1 (h2.le hid_cons_le) t.un
theorem Outs.get {K : PySem.W.Frag} {O : List Addr} {H : Hp} : ∀ {bs : List Addr} {os : List (List D)} {k : Nat} {b : Addr}, Outs K O H bs os → bs[k]? = some b → ∃ ws xs, H b = some (.lst ws) ∧ os[k]? = some xs ∧ Ds K (hid O H) ws xs
  | _, _, _, _, .nil, e => by simp at e
  | _, _, 0, _, .cons h1 h2 t, e => by
    simp at e
    subst e
    exact ⟨_, _, h1, rfl, h2⟩
  | _, _, k + 1, b, .cons h1 h2 t, e => by
    obtain ⟨ws, xs, q1, q2, q3⟩ := t.get (k := k) (b := b) (by simpa using e)
    exact ⟨ws, xs, q1, by simpa using q2, q3⟩
/-- behind the call the slots hold what came out -/
theorem putBack_at : ∀ {avs : List Av} {ρ ρ' : Env} {outs : List (List D)}, (mutsOf avs).Nodup → (∀ i ∈ mutsOf avs, i < ρ.length) → putBack ρ avs outs = some ρ' →
    ρ'.length = ρ.length ∧ (∀ i, i ∉ mutsOf avs → ρ'.at i = ρ.at i) ∧ ∀ (k i : Nat), (mutsOf avs)[k]? = some i → ∃ xs, outs[k]? = some xs ∧ ρ'.at i = rew (ρ.at i) xs
  | [], ρ, ρ', [], _, _, h => by
    cases h
    exact ⟨rfl, fun _ _ => rfl, fun k i e => by simp [mutsOf] at e⟩
  | [], _, _, _ :: _, _, _, h => by cases h
  | .m i :: r, ρ, ρ', [], _, _, h => by cases h
  | .m i :: r, ρ, ρ', xs :: outs, hn, hl, h => by
    have hn' : i ∉ mutsOf r ∧ (mutsOf r).Nodup := List.nodup_cons.mp hn
    have li : i < ρ.length := hl i (List.mem_cons_self ..)
    obtain ⟨q1, q2, q3⟩ := putBack_at (avs := r) hn'.2 (fun j hj => by rw [List.length_set]; exact hl j (List.mem_cons_of_mem _ hj)) (show putBack (ρ.set i (rew (ρ.at i) xs)) r outs = some ρ' from h)
    refine ⟨by rw [q1, List.length_set], fun j hj => ?_, fun k j e => ?_⟩
    · have hj' : j ≠ i ∧ j ∉ mutsOf r := ⟨fun z => hj (z ▸ List.mem_cons_self ..), fun z => hj (List.mem_cons_of_mem _ z)⟩
      rw [q2 j hj'.2, at_set li, if_neg fun z => hj'.1 z.symm]
    · cases k with
      | zero =>
        have : i = j := by simpa [mutsOf] using e
        subst this
        exact ⟨xs, rfl, by rw [q2 i hn'.1, at_set li, if_pos rfl]⟩
      | succ k =>
        have e' : (mutsOf r)[k]? = some j := by simpa [mutsOf] using e
        obtain ⟨ys, z1, z2⟩ := q3 k j e'
        have : i ≠ j := fun z => hn'.1 (z ▸ List.mem_of_getElem? e')
        exact ⟨ys, by simpa using z1, by rw [z2, at_set li, if_neg this]⟩
  | .v _ :: r, ρ, ρ', outs, hn, hl, h => putBack_at (avs := r) hn hl (show putBack ρ r outs = some ρ' by cases outs <;> exact h)
  | .s _ :: r, ρ, ρ', outs, hn, hl, h => putBack_at (avs := r) hn hl (show putBack ρ r outs = some ρ' by cases outs <;> exact h)
  | .l _ :: r, ρ, ρ', outs, hn, hl, h => putBack_at (avs := r) hn hl (show putBack ρ r outs = some ρ' by cases outs <;> exact h)

/-- from the arguments' values to the promise's: no list lent to be read alone -/
theorem args_of {c : Ct} {H : Hp} {σ : Sg} {ρ : Env} {O : List Addr} (s : StOk c H σ ρ O) : ∀ {vs : List V} {avs : List Av} {as : List Arg}, AvsOk c O H σ vs avs → args ρ avs = some as → lends avs = false →
    ∃ Bs : List Addr, ArgV c.K O H Bs vs as ∧ Bs.length = (mutsOf avs).length ∧ (∀ b ∈ Bs, b ∈ O ∧ (b ∉ c.Fx ∨ b ∈ c.Bs)) ∧ ∀ (k i : Nat), (mutsOf avs)[k]? = some i → ∃ b xs, Bs[k]? = some b ∧ σ.getD i none = some (.ref b) ∧ wr (ρ.at i) = some xs
  | _, _, _, .nil, h, _ => by
    cases h
    exact ⟨[], .nil, rfl, (fun _ z => nomatch z), fun k i e => by simp [mutsOf] at e⟩
  | _, _, _, .cons (a := a) (as := avs) hv t, h, hl => by
    obtain ⟨x, h1, h2⟩ := Option.bind_eq_some_iff.mp (show (Av.arg ρ a).bind (fun x => (args ρ avs).map (x :: ·)) = some _ from h)
    obtain ⟨as', h3, rfl⟩ := Option.map_eq_some_iff.mp h2
    cases a with
    | v d =>
      cases h1
      obtain ⟨Bs, q1, q2, q3, q4⟩ := args_of s t h3 hl
      exact ⟨Bs, .val hv q1, q2, q3, q4⟩
    | m i =>
      obtain ⟨xs, e, rfl⟩ := Option.map_eq_some_iff.mp (show (wr (ρ.at i)).map Arg.mut = some x from h1)
      obtain ⟨b, ws, e1, mO, mF, hH, dd⟩ := s.cell e
      have hv' : σ.getD i none = some _ := hv
      rw [e1] at hv'
      cases hv'
      obtain ⟨Bs, q1, q2, q3, q4⟩ := args_of s t h3 hl
      refine ⟨b :: Bs, .mut hH dd q1, congrArg (· + 1) q2, fun z hz => ?_, fun k j ej => ?_⟩
      · rcases List.mem_cons.mp hz with rfl | hz
        · exact ⟨mO, mF⟩
        · exact q3 z hz
      · cases k with
        | zero =>
          have : i = j := by simpa [mutsOf] using ej
          subst this
          exact ⟨b, xs, rfl, e1, e⟩
        | succ k =>
          obtain ⟨b', xs', z1, z2, z3⟩ := q4 k j (by simpa [mutsOf] using ej)
          exact ⟨b', xs', by simpa using z1, z2, z3⟩
    | s i =>
      obtain ⟨ns, e, rfl⟩ := Option.map_eq_some_iff.mp (show (isScr (ρ.at i)).map Arg.scr = some x from h1)
      obtain ⟨Bs, q1, q2, q3, q4⟩ := args_of s t h3 hl
      have q := s.sl i
      cases r : ρ.at i with
      | scr ms =>
        rw [r] at q e
        cases e
        obtain ⟨a, e1, sq⟩ := q
        have hv' : σ.getD i none = some _ := hv
        rw [e1] at hv'
        cases hv'
        exact ⟨Bs, .scr sq q1, q2, q3, q4⟩
      | _ => rw [r] at e; cases e
    | l i => cases hl
/-- .. lists lent to be read, none to be changed -/
theorem args_lent {c : Ct} {H : Hp} {σ : Sg} {ρ : Env} {O : List Addr} (s : StOk c H σ ρ O) : ∀ {vs : List V} {avs : List Av} {as : List Arg}, AvsOk c O H σ vs avs → args ρ avs = some as → mutsOf avs = [] → ArgV c.K [] H [] vs as
  | _, _, _, .nil, h, _ => by
    cases h
    exact .nil
  | _, _, _, .cons (a := a) (as := avs) hv t, h, hl => by
    obtain ⟨x, h1, h2⟩ := Option.bind_eq_some_iff.mp (show (Av.arg ρ a).bind (fun x => (args ρ avs).map (x :: ·)) = some _ from h)
    obtain ⟨as', h3, rfl⟩ := Option.map_eq_some_iff.mp h2
    cases a with
    | v d =>
      cases h1
      exact .val (by rw [hid_nil]; exact Dd.le hid_le hv) (args_lent s t h3 hl)
    | m i => cases hl
    | s i =>
      obtain ⟨ns, e, rfl⟩ := Option.map_eq_some_iff.mp (show (isScr (ρ.at i)).map Arg.scr = some x from h1)
      have q := s.sl i
      cases r : ρ.at i with
      | scr ms =>
        rw [r] at q e
        cases e
        obtain ⟨a, e1, sq⟩ := q
        have hv' : σ.getD i none = some _ := hv
        rw [e1] at hv'
        cases hv'
        exact .scr (by rw [hid_nil]; exact SqL.le' hid_le sq) (args_lent s t h3 hl)
      | _ => rw [r] at e; cases e
    | l i =>
      obtain ⟨ns, e, rfl⟩ := Option.map_eq_some_iff.mp (show (isOwn (ρ.at i)).map (fun xs => Arg.val (.list xs)) = some x from h1)
      have q := s.sl i
      cases r : ρ.at i with
      | own xs =>
        rw [r] at q e
        cases e
        obtain ⟨a, ws, e1, _, _, hH, dd⟩ := q
        have hv' : σ.getD i none = some _ := hv
        rw [e1] at hv'
        cases hv'
        exact .val (by rw [hid_nil]; exact .lst hH (dd.le hid_le)) (args_lent s t h3 hl)
      | _ => rw [r] at e; cases e
theorem muts_ok {c : Ct} {H : Hp} {σ : Sg} {ρ : Env} {O : List Addr} (s : StOk c H σ ρ O) {avs : List Av} {Bs : List Addr} (hn : (mutsOf avs).Nodup) (hl : Bs.length = (mutsOf avs).length)
    (hm : ∀ (k i : Nat), (mutsOf avs)[k]? = some i → ∃ b xs, Bs[k]? = some b ∧ σ.getD i none = some (.ref b) ∧ wr (ρ.at i) = some xs) : Bs.Nodup ∧ ∀ i ∈ mutsOf avs, i < ρ.length := by
  constructor
  · rw [List.nodup_iff_pairwise_ne, List.pairwise_iff_getElem]
    intro j k hj hk hjk e
    have hj' : j < (mutsOf avs).length := hl ▸ hj
    have hk' : k < (mutsOf avs).length := hl ▸ hk
    obtain ⟨b, xs, e1, e2, e3⟩ := hm j _ (List.getElem?_eq_getElem hj')
    obtain ⟨b', xs', f1, f2, f3⟩ := hm k _ (List.getElem?_eq_getElem hk')
    rw [List.getElem?_eq_getElem hj] at e1
    rw [List.getElem?_eq_getElem hk] at f1
    have : b = b' := (Option.some.inj e1).symm.trans (e.trans (Option.some.inj f1))
    subst this
    have q := s.cell_ne e3 f3 e2 f2
    exact absurd ((List.getElem_inj hn).mp q) (Nat.ne_of_lt hjk)
  · intro i hi
    obtain ⟨k, hk, e⟩ := List.getElem_of_mem hi
    obtain ⟨b, xs, _, _, e3⟩ := hm k i (by rw [List.getElem?_eq_getElem hk, e])
    refine at_lt fun z => ?_
    rw [z] at e3
    cases e3
/-- the slots and the heap behind a call -/
theorem behind {c : Ct} {H H' : Hp} {σ : Sg} {ρ ρ' : Env} {O O' : List Addr} (s : StOk c H σ ρ O) (oo : ∀ z ∈ O, z ∈ O') (on : ∀ z ∈ O', z ∈ O ∨ (H z = none ∧ H' z ≠ none)) {avs : List Av} {Bs : List Addr} {outs : List (List D)} (hn : (mutsOf avs).Nodup) (hl : Bs.length = (mutsOf avs).length)
    (hB : ∀ b ∈ Bs, b ∈ O ∧ (b ∉ c.Fx ∨ b ∈ c.Bs)) (hm : ∀ (k i : Nat), (mutsOf avs)[k]? = some i → ∃ b xs, Bs[k]? = some b ∧ σ.getD i none = some (.ref b) ∧ wr (ρ.at i) = some xs)
    (ext : Ext Bs H H') (os : Outs c.K O' H' Bs outs) (pb : putBack ρ avs outs = some ρ') : Post c O H O' H' ∧ StOk c H' σ ρ' O' := by
  obtain ⟨_, lt⟩ := muts_ok s hn hl hm
  obtain ⟨q1, q2, q3⟩ := putBack_at hn lt pb
  have there : ∀ b ∈ Bs, H' b ≠ none := by
    intro b hb z
    obtain ⟨k, hk, e⟩ := List.getElem_of_mem hb
    obtain ⟨ws, xs, h1, _⟩ := os.get (k := k) (b := b) (by rw [List.getElem?_eq_getElem hk, e])
    rw [h1] at z
    cases z
  have g : Le (hid O H) (hid O' H') := by
    intro a o e
    obtain ⟨h1, h2⟩ := hid_some.mp e
    refine hid_some.mpr ⟨fun m => ?_, ext a o h2 fun m => h1 (hB a m).1⟩
    rcases on a m with q | q
    · exact h1 q
    · rw [h2] at q
      cases q.1
  have isM : ∀ i xs, wr (ρ.at i) = some xs → i ∉ mutsOf avs → ∀ a, σ.getD i none = some (.ref a) → a ∉ Bs := by
    intro i xs hw hi a ea hb
    obtain ⟨k, hk, e⟩ := List.getElem_of_mem hb
    have hk' : k < (mutsOf avs).length := hl ▸ hk
    obtain ⟨b, ys, e1, e2, e3⟩ := hm k _ (List.getElem?_eq_getElem hk')
    rw [List.getElem?_eq_getElem hk, e] at e1
    cases e1
    exact hi (s.cell_ne hw e3 ea e2 ▸ List.getElem_mem hk')
  refine ⟨⟨fun a o e h => ext a o e fun m => ?_, fun a m => (on a m).imp id And.left⟩, q1.trans s.len, ⟨fun a m z => ?_⟩, fun a m => oo a (s.fx a m), s.bs, s.bn, fun i => ?_, fun i j xs ys h1 h2 h3 => ?_, fun i j k xs ys h1 h2 => ?_⟩
  · obtain ⟨mO, mF⟩ := hB a m
    rcases h with h | ⟨h1, h2⟩
    · exact h mO
    · rcases mF with q | q
      · exact q h1
      · exact h2 q
  · rcases on a m with m | m
    · by_cases q : a ∈ Bs
      · exact there a q z
      · cases r : H a with
        | none => exact s.hx.there a m r
        | some o =>
          rw [ext a o r q] at z
          cases z
    · exact m.2 z
  · by_cases hi : i ∈ mutsOf avs
    · obtain ⟨k, hk, e⟩ := List.getElem_of_mem hi
      have ek : (mutsOf avs)[k]? = some i := by rw [List.getElem?_eq_getElem hk, e]
      obtain ⟨b, xs, e1, e2, e3⟩ := hm k i ek
      obtain ⟨ys, z1, z2⟩ := q3 k i ek
      obtain ⟨ws, xs', w1, w2, w3⟩ := os.get e1
      rw [z1] at w2
      cases w2
      rw [z2]
      have q := s.sl i
      rcases wr_cases e3 with r | ⟨n, r⟩
      · rw [r] at q ⊢
        obtain ⟨a, us, ea, h1, h2, _, _⟩ := q
        rw [e2] at ea
        cases ea
        exact ⟨b, ws, e2, oo _ h1, h2, w1, w3⟩
      · rw [r] at q ⊢
        obtain ⟨a, us, ea, h1, _, _⟩ := q
        rw [e2] at ea
        cases ea
        exact ⟨b, ws, e2, h1, w1, w3⟩
    · rw [q2 i hi]
      have q := s.sl i
      cases r : ρ.at i with
      | un => trivial
      | val d =>
        rw [r] at q
        obtain ⟨x, e1, t1⟩ := q
        exact ⟨x, e1, t1.le g⟩
      | own zs =>
        rw [r] at q
        obtain ⟨b, vs, e1, h1, h2, h3, t1⟩ := q
        exact ⟨b, vs, e1, oo _ h1, h2, ext b _ h3 (isM i zs (by rw [r]; rfl) hi b e1), t1.le g⟩
      | bor k zs =>
        rw [r] at q
        obtain ⟨b, vs, e1, h2, h3, t1⟩ := q
        exact ⟨b, vs, e1, h2, ext b _ h3 (isM i zs (by rw [r]; rfl) hi b e1), t1.le g⟩
      | scr ns =>
        rw [r] at q
        obtain ⟨b, e1, t1⟩ := q
        exact ⟨b, e1, SqL.le' g t1⟩
  · have back : ∀ {i : Nat} {xs : List D}, ρ'.at i = .own xs → ∃ ys, ρ.at i = .own ys := by
      intro i xs e
      by_cases hi : i ∈ mutsOf avs
      · obtain ⟨k, hk, ek⟩ := List.getElem_of_mem hi
        have ek : (mutsOf avs)[k]? = some i := by rw [List.getElem?_eq_getElem hk, ek]
        obtain ⟨_, zs, _, _, e3⟩ := hm k i ek
        obtain ⟨ys, _, z2⟩ := q3 k i ek
        rw [z2] at e
        rcases wr_cases e3 with r | ⟨n, r⟩
        · exact ⟨_, r⟩
        · rw [r] at e
          cases e
      · exact ⟨xs, (q2 i hi).symm.trans e⟩
    obtain ⟨_, z1⟩ := back h1
    obtain ⟨_, z2⟩ := back h2
    exact s.oi i j _ _ z1 z2 h3
  · have back : ∀ {i : Nat} {xs : List D}, ρ'.at i = .bor k xs → ∃ ys, ρ.at i = .bor k ys := by
      intro i xs e
      by_cases hi : i ∈ mutsOf avs
      · obtain ⟨l, hk, ek⟩ := List.getElem_of_mem hi
        have ek : (mutsOf avs)[l]? = some i := by rw [List.getElem?_eq_getElem hk, ek]
        obtain ⟨_, zs, _, _, e3⟩ := hm l i ek
        obtain ⟨ys, _, z2⟩ := q3 l i ek
        rw [z2] at e
        rcases wr_cases e3 with r | ⟨n, r⟩
        · rw [r] at e
          cases e
        · rw [r] at e
          cases e
          exact ⟨_, r⟩
      · exact ⟨xs, (q2 i hi).symm.trans e⟩
    obtain ⟨_, z1⟩ := back h1
    obtain ⟨_, z2⟩ := back h2
    exact s.bi i j k _ _ z1 z2
theorem scalar_dd {K : PySem.W.Frag} {G G' : Hp} {v : V} {d : D} (h : scalar d = true) (t : Dd K G v d) : Dd K G' v d := by
  cases t with
  | non => exact .non
  | bl b => exact .bl b
  | int i => exact .int i
  | str x => exact .str x
  | lst _ _ => cases h
  | tup _ _ => cases h
/-- a call, by values -/
theorem call_step {c : Ct} {W : WX} {H : Hp} {σ : Sg} {ρ : Env} {O : List Addr} {m : Fn} {avs : List Av} {vs : List V} {Q : VK} (s : StOk c H σ ρ O) (hv : AvsOk c O H σ vs avs) (h : Rp c W σ O H (callBy m avs ρ) (Pd c Q)) :
    spD c.K m vs H Q fun cls d H2 => W cls d σ H2 := by
  obtain ⟨as, ea, h⟩ := h.then s
  by_cases hl : lends avs = true
  · rw [if_pos hl] at h
    by_cases hm : mutsOf avs = []
    · rw [if_pos hm] at h
      refine ⟨[], [], as, ⟨fun _ z => nomatch z⟩, List.nodup_nil, (fun _ z => nomatch z), args_lent s hv ea hm, ?_⟩
      cases r : m as with
      | ok d outs =>
        simp only [r] at h
        by_cases hs : scalar d = true
        · rw [if_pos hs] at h
          intro v H' ext _ dv
          have l : Le H H' := fun a o e => ext a o e (by simp)
          exact h H' O (Post.of_le l) (s.le l) v (scalar_dd hs dv)
        · rw [if_neg hs] at h
          exact h.elim
      | new xs outs => simp only [r] at h; exact h.elim
      | exc x outs => simp only [r] at h; exact h.elim
      | bad => simp only [r] at h; exact h.elim
    · rw [if_neg hm] at h
      exact h.elim
  · rw [if_neg hl] at h
    by_cases hn : (mutsOf avs).Nodup
    · rw [if_pos hn] at h
      obtain ⟨Bs, q1, q2, q3, q4⟩ := args_of s hv ea (by simpa using hl)
      refine ⟨O, Bs, as, s.hx, (muts_ok s hn q2 q4).1, fun b hb => (q3 b hb).1, q1, ?_⟩
      cases r : m as with
      | ok d outs =>
        simp only [r] at h
        intro v H' ext os dv
        obtain ⟨ρ', e, h⟩ := h.then s
        obtain ⟨p, s'⟩ := behind s (fun _ m => m) (fun _ m => .inl m) hn q2 q3 q4 ext os e
        exact h H' O p s' v dv
      | new xs outs =>
        simp only [r] at h
        intro a ws H' ext na ha os dws
        obtain ⟨ρ', e, h⟩ := h.then s
        obtain ⟨p, s'⟩ := behind s (fun _ m => m) (fun _ m => .inl m) hn q2 q3 q4 ext os.un e
        exact h H' O p s' _ (.lst (hid_some.mpr ⟨s.hx.new na, ha⟩) (dws.le hid_cons_le))
      | exc x outs =>
        simp only [r] at h
        intro cls d H' ext os xo
        obtain ⟨ρ', e, h⟩ := h.then s
        obtain ⟨p, s'⟩ := behind s (fun _ m => m) (fun _ m => .inl m) hn q2 q3 q4 ext os e
        exact h H' O p s' cls d xo
      | bad => simp only [r] at h; exact h.elim
    · rw [if_neg hn] at h
      exact h.elim
end DR
/-! Part n: the call of a def; lists read in place; what is walked; targets. -/
namespace DR
open PySem PySem.Spec PyProof.Rows L2

section
variable {X : Cx} {c : Ct} {W : WX} {a b : Expr} {es : List Expr} {fa fb : Env → Res D} {fv : Env → Res (List Av)} {pos p p2 q : Pos}
theorem k_call {γ : Bool} {k : Nat} {f : Addr} {fd : FuncData} {ps : List Str} {m : Fn} {x : Str} {e : Expr} (F : GFn γ X.prog X.w X.K X.mg X.base k f fd ps (spD c.K m)) (hr : Room k X.A) (hg : γ = true → X.A.guards = some []) (hl : Gl X x) (hm : X.mg x = some (.ref f))
    (hk : PySem.W.keepIn X.K (.ref f) = true) (hb : Binds X.K fd ps []) (tk : Takes X W) (ha : PA X (e :: es) (tAv c W fv)) (hdb : (x == ("__debug__" : Str)) = false) (hp : (e :: es).all plainArg = true) :
    PE X (.Call (.Name x p) (e :: es) [] pos) (tD c W fun ρ => (fv ρ).bind fun avs ρ1 => callBy m avs ρ1) := by
  rw [List.all_cons, Bool.and_eq_true] at hp
  refine PE.weak (g_call F hr hg hl hm hk hb tk ha hdb (star_cons hp.1) (star_any hp.2)) fun σ H Q ⟨ρ, O, s, h⟩ => ?_
  exact ⟨ρ, O, s, h.bind.imp fun avs ρ1 H1 O1 p1 s1 h1 vs hv => call_step s1 hv h1⟩
theorem k_call0 {γ : Bool} {k : Nat} {f : Addr} {fd : FuncData} {ps : List Str} {m : Fn} {x : Str} (F : GFn γ X.prog X.w X.K X.mg X.base k f fd ps (spD c.K m)) (hr : Room k X.A) (hg : γ = true → X.A.guards = some []) (hl : Gl X x) (hm : X.mg x = some (.ref f))
    (hk : PySem.W.keepIn X.K (.ref f) = true) (hb : Binds X.K fd ps []) (tk : Takes X W) (hdb : (x == ("__debug__" : Str)) = false) :
    PE X (.Call (.Name x p) [] [] pos) (tD c W fun ρ => (Res.ok [] ρ).bind fun avs ρ1 => callBy m avs ρ1) := by
  refine PE.weak (g_call0 F hr hg hl hm hk hb tk hdb) fun σ H Q ⟨ρ, O, s, h⟩ => ?_
  exact call_step s .nil h
theorem k_ino (hK : c.K = X.K) (hu : X.A.units + 65 < cLine) {n : Bool} {i : Nat} {x : Str} {op : CmpOp} (hop : op = if n then .NotIn else .In) (hN : X.N[i]? = some x) (hv : Vis X.env.scope x) (h1 : (x == ("__debug__" : Str)) = false) (h2 : (x == ("__classdict__" : Str)) = false) (ha : PE X a (tD c W fa)) :
    PE X (.Compare a [op] [.Name x p] pos) (tD c W fun ρ => (fa ρ).bind fun x ρ1 => (lift (wr (ρ1.at i)) ρ1).bind fun xs _ => (lift (copIn x (.list xs)) ρ1).bind fun k ρ1 => .ok (.bool (if n then !k else k)) ρ1) := by
  have go : ∀ {σ : Sg} {H : Hp} {Q : VK}, tD c W (fun ρ => (fa ρ).bind fun x ρ1 => (lift (wr (ρ1.at i)) ρ1).bind fun xs _ => (lift (copIn x (.list xs)) ρ1).bind fun k ρ1 => .ok (.bool (if n then !k else k)) ρ1) σ H Q →
      tD c W fa σ H fun v H1 => tVar i σ H1 fun w H2 => ∃ d ds, Dp X.K H2 v d ∧ Dp X.K H2 w (.list ds) ∧ SeqAt.shaped d = true ∧ SeqAt.shaped (.list ds) = true ∧ Q (.bl (if n then !(ds.any fun z => PyData.eqv z d) else ds.any fun z => PyData.eqv z d)) H2 := by
    intro σ H Q ⟨ρ, O, s, h⟩
    refine ⟨ρ, O, s, h.bind.imp fun d ρ1 H1 O1 p1 s1 h1 v dv => ?_⟩
    obtain ⟨xs, e1, h1⟩ := h1.then s1
    obtain ⟨k, e2, h1⟩ := h1.then s1
    obtain ⟨b, ws, eb, _, _, hH, t⟩ := s1.cell e1
    simp only [copIn] at e2
    split at e2
    · rename_i hc
      cases e2
      refine ⟨.ref b, sget_some eb, d, xs, hK ▸ dv.real.dp, hK ▸ (Dd.lst hH (t.le hid_le)).dp, hc.1, hc.2, h1 H1 O1 .refl s1 _ (.bl _)⟩
    · cases e2
  cases n with
  | true =>
    subst hop
    exact PE.weak (pe_cmpR (op_notInD hu) ha (pe_var hN hv h1 h2) rfl) fun σ H Q h => go h
  | false =>
    subst hop
    exact PE.weak (pe_cmpR (op_inD hu) ha (pe_var hN hv h1 h2) rfl) fun σ H Q h => go h
theorem k_leno {i : Nat} {x : Str} (hN : X.N[i]? = some x) (hv : Vis X.env.scope x) (h1 : (x == ("__debug__" : Str)) = false) (h2 : (x == ("__classdict__" : Str)) = false) (hl : Gl X "len") (hm : X.mg "len" = none) :
    PE X (.Call (.Name "len" p) [.Name x q] [] pos) (tD c W fun ρ => (lift (wr (ρ.at i)) ρ).bind fun xs _ => .ok (.int xs.length) ρ) := by
  refine PE.weak (pe_callB call_len_seq hl hm PySem.boot_len (pa_cons (pe_var hN hv h1 h2) pa_nil rfl) (by decide) (by decide) rfl rfl) fun σ H Q ⟨ρ, O, s, h⟩ => ?_
  obtain ⟨xs, e, h⟩ := h.then s
  obtain ⟨b, ws, eb, _, _, hH, t⟩ := s.cell e
  refine ⟨.ref b, sget_some eb, b, ws, rfl, .inl (.inl (.inl hH)), ?_⟩
  rw [t.length]
  exact h H O .refl s _ (.int _)

/-! what is walked -/
/-- J walks the data ds, as long as what could be seen at O, H can be -/
def IterOk (K : PySem.W.Frag) (O : List Addr) (H : Hp) (J : L2.It) (ds : List D) : Prop :=
  ∀ (i : Nat) (O2 : List Addr) (H2 : Hp), Le (hid O H) (hid O2 H2) → Hx O2 H2 →
    (∀ d, ds[i]? = some d → J.go i H2 ∧ ∀ x H3, J.yld i H2 x H3 → Le H2 H3 ∧ Dd K (hid O2 H3) x d) ∧ (ds.length ≤ i → J.stop i H2)
def tI (c : Ct) (W : WX) (f : Env → Res (List D)) : TI := fun σ H R => ∃ ρ O, StOk c H σ ρ O ∧ Rp c W σ O H (f ρ) fun ds _ H' O' => ∀ J, IterOk c.K O' H' J ds → R J H'
theorem PI.weak {tg it : Expr} {t t' : TI} (h : PI X tg it t) (w : ∀ σ H R, t' σ H R → t σ H R) : PI X tg it t' := ⟨fun pins s σ H R I z => h.run pins s σ H R I (w σ H R z)⟩
theorem iter_lst {K : PySem.W.Frag} {O : List Addr} {H : Hp} {a : Addr} {vs : List V} {ds : List D} (t : hid O H a = some (.lst vs)) (s : Ds K (hid O H) vs ds) : IterOk K O H (Itl K a) ds := by
  intro i O2 H2 g hx
  have sq : SqL K H2 a vs := .inl (.inl (lst_real (g _ _ t)))
  refine ⟨fun d e => ?_, fun z => ⟨vs, sq, by rw [s.length]; exact z⟩⟩
  obtain ⟨v, ev, dv⟩ := s.get e
  refine ⟨⟨vs, v, sq, ev⟩, fun x H3 y => ?_⟩
  obtain ⟨rfl, y⟩ := y
  have := y vs sq
  rw [ev] at this
  cases this
  exact ⟨Le.rfl', dv.le g⟩
theorem iter_tup {K : PySem.W.Frag} {O : List Addr} {H : Hp} {a : Addr} {vs : List V} {ds : List D} (t : SqT K (hid O H) a vs) (s : Ds K (hid O H) vs ds) : IterOk K O H (Itt K a) ds := by
  intro i O2 H2 g hx
  have sq : SqT K H2 a vs := sqT_real (SqT.le g t)
  refine ⟨fun d e => ?_, fun z => ⟨vs, sq, by rw [s.length]; exact z⟩⟩
  obtain ⟨v, ev, dv⟩ := s.get e
  refine ⟨⟨vs, v, sq, ev⟩, fun x H3 y => ?_⟩
  obtain ⟨rfl, y⟩ := y
  have := y vs sq
  rw [ev] at this
  cases this
  exact ⟨Le.rfl', dv.le g⟩
theorem iter_rng {K : PySem.W.Frag} {O : List Addr} {H : Hp} {n : Int} : IterOk K O H (Itr 0 n.toNat) (rngL n) := by
  intro i O2 H2 g hx
  have len : (rngL n).length = n.toNat := by simp [rngL]
  refine ⟨fun d e => ?_, fun z => by rw [len] at z; exact z⟩
  obtain ⟨hi, e⟩ := List.getElem?_eq_some_iff.mp e
  refine ⟨by rw [len] at hi; exact hi, fun x H3 y => ?_⟩
  obtain ⟨rfl, rfl⟩ := y
  refine ⟨Le.rfl', ?_⟩
  have : d = .int (i : Int) := by
    rw [← e]
    simp [rngL]
  rw [this, Int.zero_add]
  exact .int _
theorem zipL_get : ∀ (xs ys : List D) (i : Nat) (d : D), (zipL xs ys)[i]? = some d → ∃ x y, xs[i]? = some x ∧ ys[i]? = some y ∧ d = .tuple [x, y]
  | [], _, _, _, h => by simp [zipL] at h
  | _ :: _, [], _, _, h => by simp [zipL] at h
  | x :: xs, y :: ys, 0, d, h => by
    simp [zipL] at h
    exact ⟨x, y, rfl, rfl, h.symm⟩
  | x :: xs, y :: ys, i + 1, d, h => by
    obtain ⟨u, v, h1, h2, h3⟩ := zipL_get xs ys i d (by simpa [zipL] using h)
    exact ⟨u, v, by simpa using h1, by simpa using h2, h3⟩
theorem zipL_len : ∀ (xs ys : List D), (zipL xs ys).length = min xs.length ys.length
  | [], _ => by simp [zipL]
  | _ :: _, [] => by simp [zipL]
  | x :: xs, y :: ys => by simp [zipL, zipL_len xs ys]
theorem iter_zip {K : PySem.W.Frag} {O : List Addr} {H : Hp} {a b : Addr} {vs ws : List V} {xs ys : List D} (t : SqT K (hid O H) a vs) (s : Ds K (hid O H) vs xs) (t2 : SqT K (hid O H) b ws) (s2 : Ds K (hid O H) ws ys) :
    IterOk K O H (RZ.ItzT K a b) (zipL xs ys) := by
  intro i O2 H2 g hx
  have sq : SqT K H2 a vs := sqT_real (SqT.le g t)
  have sq2 : SqT K H2 b ws := sqT_real (SqT.le g t2)
  refine ⟨fun d e => ?_, fun z => ⟨vs, ws, sq, sq2, ?_⟩⟩
  · obtain ⟨x, y, e1, e2, rfl⟩ := zipL_get xs ys i d e
    obtain ⟨v, ev, dv⟩ := s.get e1
    obtain ⟨w, ew, dw⟩ := s2.get e2
    refine ⟨⟨vs, ws, v, w, sq, sq2, ev, ew⟩, fun u H3 hy => ?_⟩
    obtain ⟨T, v', w', rfl, nT, rfl, y1, y2⟩ := hy
    have q1 := y1 vs sq
    have q2 := y2 ws sq2
    rw [ev] at q1
    rw [ew] at q2
    cases q1
    cases q2
    exact ⟨Le.upd nT, Dd.new_tup hx nT (.cons (dv.le g) (.cons (dw.le g) .nil))⟩
  · rw [zipL_len] at z
    rw [s.length, s2.length]
    omega
theorem k_itData (hK : c.K = X.K) {tg : Expr} (ha : PE X a (tD c W fa)) : (PI X tg a (tI c W fun ρ => (fa ρ).bind fun d ρ1 => lift (dataOf d) ρ1)) := by
  have hl : PI X tg a (fun σ H R => tD c W fa σ H fun x H1 => (∃ b, x = .ref b ∧ (∃ xs, SqL X.K H1 b xs) ∧ R (Itl X.K b) H1) ∨ ∃ b, x = .ref b ∧ (∃ xs, SqT X.K H1 b xs) ∧ R (Itt X.K b) H1) := by
    refine ⟨fun pins s σ H R I h => thn (ha.run pins s σ H _ I h) fun v s1 ⟨x, G, J1, r1, q⟩ => ?_⟩
    have fine : ∀ z ∈ [s1.heap.objs.size], FpOk X pins G z := by
      intro z m
      rw [List.mem_singleton.mp m]
      exact J1.fpOk (Nat.le_refl _) (J1.hok.fresh (Nat.le_refl _))
    rcases q with ⟨b, rfl, ⟨xs, sq⟩, q⟩ | ⟨b, rfl, ⟨xs, sq⟩, q⟩
    · cases r1
      obtain ⟨its, _, lst, _⟩ := J1.list sq
      exact wpAny_pyIter_list lst.isList ⟨_, _, _, _, G, rfl, J1.kept (t' := s1.toks) fun z o e => Heap.get?_push_of_some _ e, turn_list b _, ⟨_, Heap.get?_push_size _ rfl, rfl, rfl⟩, fine, q⟩
    · cases r1
      obtain ⟨its, _, tp, _⟩ := J1.tuple sq
      exact wpAny_pyIter_tuple (show s1.heap.IsTuple b its.toArray from tp) ⟨_, _, _, _, G, rfl, J1.kept (t' := s1.toks) fun z o e => Heap.get?_push_of_some _ e, turn_tuple b _, ⟨_, Heap.get?_push_size _ rfl, rfl, rfl⟩, fine, q⟩
  refine PI.weak hl fun σ H R ⟨ρ, O, s, h⟩ => ⟨ρ, O, s, h.bind.imp fun x ρ1 H1 O1 p1 s1 h1 v dv => ?_⟩
  obtain ⟨ds, e, h2⟩ := h1.got
  cases x with
  | list ys =>
    cases e
    obtain ⟨b, vs, rfl, t, sd⟩ := dv.lst_inv
    exact .inl ⟨b, rfl, ⟨vs, .inl (.inl (lst_real t))⟩, hK ▸ h2 H1 O1 .refl s1 _ (iter_lst t sd)⟩
  | tuple ys =>
    cases e
    obtain ⟨b, vs, rfl, t, sd⟩ := dv.tup_inv
    exact .inr ⟨b, rfl, ⟨vs, hK ▸ sqT_real t⟩, hK ▸ h2 H1 O1 .refl s1 _ (iter_tup t sd)⟩
  | _ => cases e
theorem k_itRng {tg : Expr} (ha : PE X a (tD c W fa)) (hl : Gl X "range") (hm : X.mg "range" = none) (hp : plainArg a = true) :
    PI X tg (.Call (.Name "range" p) [a] [] pos) (tI c W fun ρ => (fa ρ).bind fun d ρ1 => (lift (intOf d) ρ1).bind fun n ρ1 => if rngOk n = true then .ok (rngL n) ρ1 else .bad) := by
  refine PI.weak (pi_range1 hl hm (pa_cons ha pa_nil (star_cons hp)) (star_cons hp)) fun σ H R ⟨ρ, O, s, h⟩ => ⟨ρ, O, s, h.bind.imp fun x ρ1 H1 O1 p1 s1 h1 v dv => ?_⟩
  obtain ⟨n, e, h2⟩ := h1.then s1
  cases x with
  | int n' =>
    cases e
    split at h2
    · rename_i hr
      simp [rngOk] at hr
      cases dv
      exact ⟨_, rfl, by omega, by omega, h2 H1 O1 .refl s1 _ iter_rng⟩
    · exact h2.elim
  | _ => cases e
theorem k_itZip {elts : List Expr} {kk : Nat} {tpos : Pos} (hK : c.K = X.K) (ha : PE X a (tD c W fa)) (hb : PE X b (tD c W fb)) (hl : Gl X "zip") (hm : X.mg "zip" = none) (hp : plainArg a = true) (hp2 : plainArg b = true) :
    PI X (.Tuple elts kk tpos) (.Call (.Name "zip" p) [a, b] [] pos) (tI c W fun ρ => (fa ρ).bind fun x ρ1 => (fb ρ1).bind fun y ρ2 => (lift (tupOf x) ρ2).bind fun xs ρ2 => (lift (tupOf y) ρ2).bind fun ys ρ2 => .ok (zipL xs ys) ρ2) := by
  refine PI.weak (RZ.pi_zipA hl hm (pa_cons ha (pa_cons hb pa_nil (star_cons hp2)) (star_cons hp)) (star_cons hp) (star_any (by simp [hp2]))) fun σ H R ⟨ρ, O, s, h⟩ => ⟨ρ, O, s, h.bind.imp fun x ρ1 H1 O1 p1 s1 h1 v dv => ?_⟩
  refine ⟨ρ1, O1, s1, h1.bind.imp fun y ρ2 H2 O2 p2 s2 h2 w dw => ?_⟩
  obtain ⟨xs, e1, h2⟩ := h2.then s2
  obtain ⟨ys, e2, h2⟩ := h2.then s2
  cases x with
  | tuple xs' =>
    cases e1
    cases y with
    | tuple ys' =>
      cases e2
      obtain ⟨a, vs, rfl, t, sd⟩ := dv.tup_inv
      obtain ⟨b, ws, rfl, t2, sd2⟩ := dw.tup_inv
      have t := SqT.le p2.hid t
      have sd := sd.le p2.hid
      exact ⟨a, b, vs, ws, rfl, .inr ⟨hK ▸ sqT_real t, hK ▸ sqT_real t2, hK ▸ h2 H2 O2 .refl s2 _ (iter_zip t sd t2 sd2)⟩⟩
    | _ => cases e2
  | _ => cases e1
end
end DR
/-! Part o: targets, comprehensions. -/
namespace DR
open PySem PySem.Spec PyProof.Rows L2

/-! targets -/
mutual
def tgS : Tg → List Nat
  | .nm i => [i]
  | .tup ts => tgsS ts
def tgsS : Tgs → List Nat
  | .nil => []
  | .cons t r => tgS t ++ tgsS r
end
/-- σ' is σ but for the slots is -/
structure Same (is : List Nat) (σ σ' : Sg) : Prop where
  len : σ'.length = σ.length
  at_ : ∀ j, j ∉ is → σ'.getD j none = σ.getD j none
theorem Same.refl {is : List Nat} {σ : Sg} : Same is σ σ := ⟨rfl, fun _ _ => rfl⟩
theorem Same.trans {is : List Nat} {σ σ1 σ2 : Sg} (a : Same is σ σ1) (b : Same is σ1 σ2) : Same is σ σ2 := ⟨b.len.trans a.len, fun j h => (b.at_ j h).trans (a.at_ j h)⟩
theorem Same.mono {is js : List Nat} {σ σ1 : Sg} (a : Same is σ σ1) (h : ∀ i ∈ is, i ∈ js) : Same js σ σ1 := ⟨a.len, fun j z => a.at_ j fun m => z (h j m)⟩
def tB (c : Ct) (t : Tg) : TG := fun v σ H Q => ∃ ρ O d ρ', StOk c H σ ρ O ∧ Dd c.K (hid O H) v d ∧ bindT t d ρ = some ρ' ∧ ∀ σ', StOk c H σ' ρ' O → Same (tgS t) σ σ' → Q σ' H
def tBs (c : Ct) (t : Tgs) : TGs := fun vs σ H Q => ∃ ρ O ds ρ', StOk c H σ ρ O ∧ Ds c.K (hid O H) vs ds ∧ bindTs t ds ρ = some ρ' ∧ ∀ σ', StOk c H σ' ρ' O → Same (tgsS t) σ σ' → Q σ' H
theorem PG.weak {X : Cx} {e : Expr} {t t' : TG} (h : PG X e t) (w : ∀ v σ H Q, t' v σ H Q → t v σ H Q) : PG X e t' := ⟨fun pins s σ H v u Q I r z => h.run pins s σ H v u Q I r (w v σ H Q z)⟩
theorem PGs.weak {X : Cx} {e : List Expr} {t t' : TGs} (h : PGs X e t) (w : ∀ v σ H Q, t' v σ H Q → t v σ H Q) : PGs X e t' := ⟨fun pins s σ H v u Q I r z => h.run pins s σ H v u Q I r (w v σ H Q z)⟩
section
variable {X : Cx} {c : Ct} {pos : Pos}
theorem g_nm {i : Nat} {x : Str} (hN : X.N.Nodup) (hi : X.N[i]? = some x) (hx : Loc X.env.scope x) (hf : X.fn x = true ∨ X.env.scope.names.lookup x = some .local) : PG X (.Name x pos) (tB c (.nm i)) := by
  refine PG.weak (pg_name hN hi hx hf) fun v σ H Q ⟨ρ, O, d, ρ', s, dv, e, k⟩ => ?_
  simp only [bindT] at e
  split at e
  · rename_i lt
    cases e
    refine k _ (s.set_val lt dv) ⟨by simp, fun j hj => ?_⟩
    rw [sget_set (s.len ▸ lt), if_neg]
    rintro rfl
    exact hj (by simp [tgS])
  · cases e
def plainTg : Expr → Bool
  | .Starred .. => false
  | _ => true
theorem asg_cons {e : Expr} {es : List Expr} {env : PySem.Env} (h : plainTg e = true) : assignEach (e :: es) env = (false, assign e env) :: assignEach es env := by
  cases e <;> first | rfl | cases h
theorem asg_len {env : PySem.Env} : ∀ {es : List Expr}, es.all plainTg = true → (assignEach es env).length = es.length ∧ (assignEach es env).findIdx? (·.1) = none
  | [], _ => ⟨rfl, rfl⟩
  | e :: es, h => by
    rw [List.all_cons, Bool.and_eq_true] at h
    obtain ⟨h1, h2⟩ := asg_len (env := env) h.2
    rw [asg_cons h.1]
    exact ⟨congrArg (· + 1) h1, by rw [List.findIdx?_cons, h2]; rfl⟩
theorem g_nil : PGs X [] (tBs c .nil) := by
  refine PGs.weak pgs_nil fun vs σ H Q ⟨ρ, O, ds, ρ', s, dv, e, k⟩ => ?_
  cases ds with
  | nil =>
    cases e
    cases dv
    exact ⟨rfl, k σ s .refl⟩
  | cons d ds => cases e
theorem g_cons {e : Expr} {es : List Expr} {t : Tg} {ts : Tgs} (hp : plainTg e = true) (h : PG X e (tB c t)) (hs : PGs X es (tBs c ts)) : PGs X (e :: es) (tBs c (.cons t ts)) := by
  refine PGs.weak (pgs_cons h hs (by rw [asg_cons hp]; rfl)) fun vs σ H Q ⟨ρ, O, ds, ρ', s, dv, e, k⟩ => ?_
  cases ds with
  | nil => cases e
  | cons d ds =>
    cases dv with
    | cons hv ht =>
      simp only [bindTs] at e
      obtain ⟨ρ1, e1, e2⟩ := Option.bind_eq_some_iff.mp e
      refine ⟨_, _, rfl, ρ, O, d, ρ1, s, hv, e1, fun σ1 s1 m1 => ⟨ρ1, O, ds, ρ', s1, ht, e2, fun σ2 s2 m2 => k σ2 s2 ?_⟩⟩
      exact (m1.mono fun i m => by simp [tgsS, m]).trans (m2.mono fun i m => by simp [tgsS, m])
def Tgs.n : Tgs → Nat
  | .nil => 0
  | .cons _ r => r.n + 1
theorem bindTs_n : ∀ {ts : Tgs} {ds : List D} {ρ ρ' : Env}, bindTs ts ds ρ = some ρ' → ds.length = ts.n
  | .nil, [], _, _, _ => rfl
  | .nil, _ :: _, _, _, h => by cases h
  | .cons t r, [], _, _, h => by cases h
  | .cons t r, d :: ds, ρ, ρ', h => by
    simp only [bindTs] at h
    obtain ⟨ρ1, e1, e2⟩ := Option.bind_eq_some_iff.mp h
    exact congrArg (· + 1) (bindTs_n e2)
theorem g_tup {es : List Expr} {k : Nat} {ts : Tgs} (hK : c.K = X.K) (hc : X.calm = true) (hp : es.all plainTg = true) (hn : es.length = ts.n) (h : PGs X es (tBs c ts)) : PG X (.Tuple es k pos) (tB c (.tup ts)) := by
  obtain ⟨h1, h2⟩ := asg_len (env := X.env) hp
  refine ⟨fun pins s0 σ H v u Q I r z => ?_⟩
  obtain ⟨ρ, O, d, ρ', s, dv, e, k⟩ := z
  cases d with
  | tuple ds =>
    obtain ⟨a, vs, rfl, t, sd⟩ := dv.tup_inv
    exact (pg_tup hc h (h1.trans hn) h2).run pins s0 σ H _ u Q I r ⟨a, vs, rfl, hK ▸ sqT_real t, sd.length.trans (bindTs_n e), ρ, O, ds, ρ', s, sd, e, fun σ' s' m => k σ' s' m⟩
  | list ds =>
    obtain ⟨a, vs, rfl, t, sd⟩ := dv.lst_inv
    exact (pg_lst hc h (h1.trans hn) h2).run pins s0 σ H _ u Q I r ⟨a, vs, rfl, .inl (.inl (lst_real t)), sd.length.trans (bindTs_n e), ρ, O, ds, ρ', s, sd, e, fun σ' s' m => k σ' s' m⟩
  | _ => cases e
end

/-! the names of a block -/
theorem wipe_get (σ : Sg) : ∀ (vs : List Nat) (j : Nat), (wipe σ vs).getD j none = if j ∈ vs then none else σ.getD j none
  | [], j => by simp [wipe]
  | v :: vs, j => by
    have ih := wipe_get σ vs j
    unfold wipe
    by_cases e : v = j
    · subst e
      by_cases q : v < (wipe σ vs).length
      · rw [sget_set q, if_pos rfl, if_pos List.mem_cons_self]
      · rw [List.getD_eq_getElem?_getD, List.getElem?_eq_none (by simpa using q), if_pos List.mem_cons_self]
        rfl
    · have : ((wipe σ vs).set v none).getD j none = (wipe σ vs).getD j none := by
        simp [List.getD_eq_getElem?_getD, List.getElem?_set_ne e]
      rw [this, ih]
      by_cases q : j ∈ vs
      · rw [if_pos q, if_pos (List.mem_cons_of_mem _ q)]
      · rw [if_neg q, if_neg]
        intro m
        rcases List.mem_cons.mp m with r | r
        · exact e r.symm
        · exact q r
theorem sg_ext {σ τ : Sg} (h : σ.length = τ.length) (k : ∀ j, σ.getD j none = τ.getD j none) : σ = τ := by
  refine List.ext_getElem h fun j h1 h2 => ?_
  have := k j
  rw [List.getD_eq_getElem?_getD, List.getD_eq_getElem?_getD, List.getElem?_eq_getElem h1, List.getElem?_eq_getElem h2] at this
  exact this
theorem wipe_same {σ σ' : Sg} {is vs : List Nat} (m : Same is (wipe σ vs) σ') (h : ∀ i ∈ is, i ∈ vs) : wipe σ' vs = wipe σ vs := by
  refine sg_ext (by rw [wipe_length, m.len]) fun j => ?_
  rw [wipe_get, wipe_get]
  by_cases q : j ∈ vs
  · rw [if_pos q, if_pos q]
  · rw [if_neg q, if_neg q, m.at_ j fun z => q (h j z), wipe_get, if_neg q]
theorem wipeE_len (ρ : Env) : ∀ vs : List Nat, (wipeE ρ vs).length = ρ.length
  | [] => rfl
  | v :: vs => by unfold wipeE; rw [List.length_set, wipeE_len ρ vs]
theorem StOk.wipe {c : Ct} {H : Hp} {σ : Sg} {ρ : Env} {O : List Addr} (s : StOk c H σ ρ O) : ∀ vs : List Nat, StOk c H (L2.wipe σ vs) (wipeE ρ vs) O
  | [] => s
  | _ :: vs => (StOk.wipe s vs).set_un
theorem restore_len (ρ ρ' : Env) : ∀ vs : List Nat, (restore ρ ρ' vs).length = ρ'.length
  | [] => rfl
  | v :: vs => by unfold restore; rw [List.length_set, restore_len ρ ρ' vs]
theorem at_out {ρ : Env} {j : Nat} (h : ¬ j < ρ.length) : ρ.at j = .un := by
  unfold Env.at
  rw [List.getD_eq_getElem?_getD, List.getElem?_eq_none (Nat.le_of_not_lt h)]
  rfl
theorem restore_at {ρ ρ' : Env} (hl : ρ'.length = ρ.length) : ∀ (vs : List Nat) (j : Nat), (restore ρ ρ' vs).at j = if j ∈ vs then ρ.at j else ρ'.at j
  | [], j => by simp [restore]
  | v :: vs, j => by
    have ih := restore_at hl vs j
    unfold restore
    by_cases q : v < (restore ρ ρ' vs).length
    · rw [at_set q]
      by_cases e : v = j
      · subst e
        rw [if_pos rfl, if_pos List.mem_cons_self]
      · rw [if_neg e, ih]
        by_cases w : j ∈ vs
        · rw [if_pos w, if_pos (List.mem_cons_of_mem _ w)]
        · rw [if_neg w, if_neg fun m => (List.mem_cons.mp m).elim (fun z => e z.symm) w]
    · rw [List.set_eq_of_length_le (Nat.le_of_not_lt q), ih]
      by_cases w : j ∈ vs
      · rw [if_pos w, if_pos (List.mem_cons_of_mem _ w)]
      · rw [if_neg w]
        by_cases e : j = v
        · rw [restore_len] at q
          subst e
          rw [if_pos List.mem_cons_self, at_out q, at_out (by rw [← hl]; exact q)]
        · rw [if_neg fun m => (List.mem_cons.mp m).elim e w]
section
variable {c : Ct} {H H1 : Hp} {σ : Sg} {ρ ρ1 : Env} {O O1 : List Addr}
/-- the block is left: its names are again what they were -/
theorem StOk.back (s : StOk c H (L2.wipe σ vs) ρ O) (s1 : StOk c H1 σ ρ1 O1) (g : Le (hid O1 H1) (hid O H)) (pl : vs.all (plainAt ρ1) = true) : StOk c H σ (restore ρ1 ρ vs) O := by
  have hl : ρ.length = ρ1.length := by rw [s.len, wipe_length, s1.len]
  have see : ∀ {j : Nat}, j ∉ vs → (L2.wipe σ vs).getD j none = σ.getD j none := fun {j} h => by rw [wipe_get, if_neg h]
  have pj : ∀ {j : Nat}, j ∈ vs → plainAt ρ1 j = true := fun {j} h => List.all_eq_true.mp pl j h
  refine ⟨by rw [restore_len, s.len, wipe_length], s.hx, s.fx, s.bs, s.bn, fun j => ?_, fun j k xs ys h1 h2 h3 => ?_, fun j k n xs ys h1 h2 => ?_⟩
  · rw [restore_at hl]
    by_cases q : j ∈ vs
    · rw [if_pos q]
      have r := s1.sl j
      have p := pj q
      unfold plainAt at p
      cases e : ρ1.at j with
      | un => trivial
      | val d =>
        rw [e] at r
        obtain ⟨x, e1, t⟩ := r
        exact ⟨x, e1, t.le g⟩
      | own xs => rw [e] at p; cases p
      | bor k xs => rw [e] at p; cases p
      | scr ns => rw [e] at p; cases p
    · rw [if_neg q, ← see q]
      exact s.sl j
  · rw [restore_at hl] at h1 h2
    by_cases q : j ∈ vs
    · rw [if_pos q] at h1
      have p := pj q
      unfold plainAt at p
      rw [h1] at p
      cases p
    · by_cases q' : k ∈ vs
      · rw [if_pos q'] at h2
        have p := pj q'
        unfold plainAt at p
        rw [h2] at p
        cases p
      · rw [if_neg q] at h1
        rw [if_neg q'] at h2
        exact s.oi j k xs ys h1 h2 (by rw [see q, see q']; exact h3)
  · rw [restore_at hl] at h1 h2
    by_cases q : j ∈ vs
    · rw [if_pos q] at h1
      have p := pj q
      unfold plainAt at p
      rw [h1] at p
      cases p
    · by_cases q' : k ∈ vs
      · rw [if_pos q'] at h2
        have p := pj q'
        unfold plainAt at p
        rw [h2] at p
        cases p
      · rw [if_neg q] at h1
        rw [if_neg q'] at h2
        exact s.bi j k n xs ys h1 h2
/-- one more address hidden through a block -/
def Ct.more (c : Ct) (L : Addr) : Ct := ⟨c.K, L :: c.Fx, c.Bs⟩
theorem StOk.enter {L : Addr} {o : HO} (s : StOk c H σ ρ O) (n : H L = none) : StOk (c.more L) (upd H L o) σ ρ (L :: O) := by
  have t := s.hide (o := o) n
  have nO : L ∉ O := fun m => s.hx.there L m n
  refine ⟨t.len, t.hx, fun a m => ?_, fun b m => List.mem_cons_of_mem _ (t.bs b m), t.bn, fun i => ?_, t.oi, t.bi⟩
  · rcases List.mem_cons.mp m with rfl | m
    · exact List.mem_cons_self
    · exact t.fx a m
  · have q := t.sl i
    cases r : ρ.at i with
    | un => trivial
    | val d => rw [r] at q; exact q
    | own xs =>
      have q0 := s.sl i
      rw [r] at q q0
      obtain ⟨a, ws, e, h1, h2, h3, t1⟩ := q
      obtain ⟨a', ws', e', h1', _⟩ := q0
      rw [e] at e'
      cases e'
      refine ⟨a, ws, e, h1, fun m => ?_, h3, t1⟩
      rcases List.mem_cons.mp m with rfl | m
      · exact nO h1'
      · exact h2 m
    | bor k xs => rw [r] at q; exact q
    | scr ns => rw [r] at q; exact q
theorem StOk.leave {L : Addr} (s : StOk (c.more L) H σ ρ O) (hb : ∀ b ∈ c.Bs, b ∈ c.Fx) (nF : L ∉ c.Fx) : StOk c H σ ρ (O.filter (· ≠ L)) := by
  have g : Le (hid O H) (hid (O.filter (· ≠ L)) H) := by
    intro b o e
    obtain ⟨h1, h2⟩ := hid_some.mp e
    exact hid_some.mpr ⟨fun m => h1 (List.mem_filter.mp m).1, h2⟩
  have keep : ∀ {a : Addr}, a ∈ O → a ≠ L → a ∈ O.filter (· ≠ L) := fun {a} m n => List.mem_filter.mpr ⟨m, by simpa using n⟩
  refine ⟨s.len, ⟨fun b m => s.hx.there b (List.mem_filter.mp m).1⟩, fun b m => keep (s.fx b (List.mem_cons_of_mem _ m)) fun e => nF (e ▸ m), hb, s.bn, fun i => ?_, s.oi, s.bi⟩
  have q := s.sl i
  cases r : ρ.at i with
  | un => trivial
  | val d =>
    rw [r] at q
    obtain ⟨x, e, t⟩ := q
    exact ⟨x, e, t.le g⟩
  | own xs =>
    rw [r] at q
    obtain ⟨a, ws, e, h1, h2, h3, t⟩ := q
    exact ⟨a, ws, e, keep h1 fun z => h2 (z ▸ List.mem_cons_self), fun m => h2 (List.mem_cons_of_mem _ m), h3, t.le g⟩
  | bor k xs =>
    rw [r] at q
    obtain ⟨a, ws, e, h2, h3, t⟩ := q
    exact ⟨a, ws, e, h2, h3, t.le g⟩
  | scr ns =>
    rw [r] at q
    obtain ⟨a, e, t⟩ := q
    exact ⟨a, e, SqL.le' g t⟩
theorem StOk.wrFx {L : Addr} {o : HO} (s : StOk c H σ ρ O) (m : L ∈ c.Fx) (n : L ∉ c.Bs) : StOk c (upd H L o) σ ρ O := by
  have g : hid O (upd H L o) = hid O H := hid_upd (s.fx L m)
  refine ⟨s.len, ⟨fun b mb z => ?_⟩, s.fx, s.bs, s.bn, fun i => ?_, s.oi, s.bi⟩
  · by_cases q : b = L
    · subst q
      rw [upd_same] at z
      cases z
    · rw [upd_ne q] at z
      exact s.hx.there b mb z
  · have q := s.sl i
    cases r : ρ.at i with
    | un => trivial
    | val d =>
      rw [r] at q
      obtain ⟨x, e, t⟩ := q
      exact ⟨x, e, by rw [g]; exact t⟩
    | own xs =>
      rw [r] at q
      obtain ⟨a, ws, e, h1, h2, h3, t⟩ := q
      have ne : a ≠ L := fun z => h2 (z ▸ m)
      exact ⟨a, ws, e, h1, h2, by rw [upd_ne ne]; exact h3, by rw [g]; exact t⟩
    | bor k xs =>
      rw [r] at q
      obtain ⟨a, ws, e, h2, h3, t⟩ := q
      have ne : a ≠ L := fun z => n (z ▸ List.mem_of_getElem? h2)
      exact ⟨a, ws, e, h2, by rw [upd_ne ne]; exact h3, by rw [g]; exact t⟩
    | scr ns =>
      rw [r] at q
      obtain ⟨a, e, t⟩ := q
      exact ⟨a, e, by rw [g]; exact t⟩
theorem Post.less {L : Addr} (p : Post (c.more L) O H O1 H1) : Post c O H O1 H1 := ⟨fun a o e h => p.keep a o e (h.imp id fun ⟨h1, h2⟩ => ⟨List.mem_cons_of_mem _ h1, h2⟩), p.new⟩
theorem Post.wrNew {L : Addr} {o : HO} (p : Post c O H O1 H1) (n : H L = none) : Post c O H O1 (upd H1 L o) :=
  ⟨fun a x e h => by rw [upd_ne (ne_of_none e n)]; exact p.keep a x e h, p.new⟩
end
end DR
/-! Part p: list comprehensions. -/
namespace DR
open PySem PySem.Spec PyProof.Rows L2

/-- nothing is raised -/
def W0 : WX := fun _ _ _ _ => False
theorem loopC_ok {f : D → Env → Res (List D)} {x : D} {xs : List D} {ρ ρ2 : Env} {zs : List D} (h : loopC f (x :: xs) ρ = .ok zs ρ2) : ∃ ys ρ1 ws, f x ρ = .ok ys ρ1 ∧ loopC f xs ρ1 = .ok ws ρ2 ∧ zs = ys ++ ws := by
  unfold loopC at h
  cases e : f x ρ with
  | ok ys ρ1 =>
    rw [e] at h
    simp only [Res.bind] at h
    cases e2 : loopC f xs ρ1 with
    | ok ws ρ3 =>
      rw [e2] at h
      cases h
      exact ⟨ys, ρ1, ws, rfl, e2, rfl⟩
    | exc x ρ => rw [e2] at h; cases h
    | bad => rw [e2] at h; cases h
  | exc x ρ => rw [e] at h; cases h
  | bad => rw [e] at h; cases h
theorem Res.bind_ok {α β : Type} {r : Res α} {k : α → Env → Res β} {b : β} {ρ' : Env} (h : r.bind k = .ok b ρ') : ∃ a ρ, r = .ok a ρ ∧ k a ρ = .ok b ρ' := by
  cases r with
  | ok a ρ => exact ⟨a, ρ, rfl, h⟩
  | exc x ρ => cases h
  | bad => cases h
theorem lift_ok {α : Type} {o : Option α} {a : α} {ρ ρ' : Env} (h : lift o ρ = .ok a ρ') : o = some a ∧ ρ' = ρ := by
  cases o with
  | none => cases h
  | some b => cases h; exact ⟨rfl, rfl⟩
/-- one turn of a block with one clause -/
def turn1 (t : Tg) (fc : Env → Res Bool) (fe : Env → Res D) (vs : List Nat) : D → Env → Res (List D) := fun x ρ => (lift (bindT t x ρ) ρ).bind fun ρ' _ => (fc ρ').bind fun k ρ2 =>
  if k = true then (fe ρ2).bind fun y ρ3 => .ok [y] (wipeE ρ3 vs) else .ok [] (wipeE ρ2 vs)
def compF (f : D → Env → Res (List D)) (fi : Env → Res (List D)) (vs : List Nat) : Env → Res D := fun ρ => (fi ρ).bind fun xs ρ1 =>
  if vs.all (plainAt ρ1) = true then
    (match loopC f xs (wipeE ρ1 vs) with
    | .ok ys ρ2 => if ys.length ≤ 1000000 then .ok (.list ys) (restore ρ1 ρ2 vs) else .bad
    | _ => .bad)
  else .bad
/-- a state within the loop of a comprehension: xs is still to come, ds is done -/
structure Mid (c : Ct) (O1 : List Addr) (H1 B : Hp) (σ : Sg) (L : Addr) (H : Hp) (ρ : Env) (O : List Addr) (ds : List D) : Prop where
  st : StOk (c.more L) H σ ρ O
  post : Post c O1 H1 O H
  base : Le B (hid O H)
  acc : ∃ ws, H L = some (.lst ws) ∧ Ds c.K (hid O H) ws ds
theorem sizeLine_ge : 1000000 ≤ sizeLine := by decide
section
variable {c : Ct} {W : WX} {O1 : List Addr} {H1 B : Hp} {σ : Sg} {L : Addr}
theorem Mid.go {τ : Sg} {H H' : Hp} {ρ ρ' : Env} {O O' : List Addr} {ds : List D} (m : Mid c O1 H1 B σ L H ρ O ds) (p : Post (c.more L) O H O' H') (s : StOk (c.more L) H' τ ρ' O') (n1 : H1 L = none) (nB : L ∉ c.Bs) (hx : ∀ a ∈ c.Fx, a ∈ O) : Mid c O1 H1 B τ L H' ρ' O' ds := by
  obtain ⟨ws, h1, h2⟩ := m.acc
  exact ⟨s, m.post.trans p.less hx, m.base.trans p.hid, ws, p.keep L _ h1 (.inr ⟨List.mem_cons_self, nB⟩), h2.le p.hid⟩
theorem Mid.add {H : Hp} {ρ : Env} {O : List Addr} {ds : List D} {y : V} {d : D} (m : Mid c O1 H1 B σ L H ρ O ds) (n1 : H1 L = none) (nB : L ∉ c.Bs) (dy : Dd c.K (hid O H) y d) : ∃ ws, H L = some (.lst ws) ∧ ws.length = ds.length ∧ Mid c O1 H1 B σ L (upd H L (.lst (ws ++ [y]))) ρ O (ds ++ [d]) := by
  obtain ⟨ws, h1, h2⟩ := m.acc
  have g : hid O (upd H L (.lst (ws ++ [y]))) = hid O H := hid_upd (m.st.fx L List.mem_cons_self)
  exact ⟨ws, h1, h2.length, m.st.wrFx List.mem_cons_self nB, m.post.wrNew n1, g ▸ m.base, _, upd_same, by rw [g]; exact h2.append (.cons dy .nil)⟩
theorem Mid.wipe {H : Hp} {ρ : Env} {O : List Addr} {ds : List D} {τ : Sg} {vs : List Nat} (m : Mid c O1 H1 B τ L H ρ O ds) (e : L2.wipe τ vs = L2.wipe σ vs) : Mid c O1 H1 B (L2.wipe σ vs) L H (wipeE ρ vs) O ds := ⟨e ▸ m.st.wipe vs, m.post, m.base, m.acc⟩
end
/-! readings within a block: some address is hidden -/
def gBm (c : Ct) (t : Tg) : TG := fun v σ H Q => ∃ L, tB (c.more L) t v σ H Q
def tTm (c : Ct) (f : Env → Res Bool) : TT := fun σ H Q => ∃ L, tT (c.more L) W0 f σ H Q
def tDm (c : Ct) (f : Env → Res D) : TE := fun σ H Q => ∃ L, tD (c.more L) W0 f σ H Q
def tIm (c : Ct) (f : Env → Res (List D)) : TI := fun σ H Q => ∃ L, tI (c.more L) W0 f σ H Q
/-- one turn, from where the block's names are forgotten -/
theorem lc_turn {c : Ct} {t : Tg} {fc : Env → Res Bool} {fe : Env → Res D} {vs : List Nat} (hv : ∀ i ∈ tgS t, i ∈ vs) {O1 : List Addr} {H1 B : Hp} {τ : Sg} {L : Addr} (nL : H1 L = none) (nB : L ∉ c.Bs)
    {H G : Hp} {ρ ρ4 : Env} {O : List Addr} {ds ys : List D} {x : D} {v : V} {N : Hp → Prop} (mid : Mid c O1 H1 B (wipe τ vs) L H ρ O ds) (et : turn1 t fc fe vs x ρ = .ok ys ρ4) (l : Le H G) (dv : Dd c.K (hid O G) v x) (short : (ds ++ ys).length ≤ 1000000)
    (fin : ∀ G O', Mid c O1 H1 B (wipe τ vs) L G ρ4 O' (ds ++ ys) → N G) :
    gBm c t v (wipe τ vs) G fun σ2 H2 => wipe σ2 vs = wipe τ vs ∧ tTm c fc σ2 H2 fun b H3 => if b = true then tDm c fe σ2 H3 fun y H4 => ∃ acc, H4 L = some (.lst acc) ∧ acc.length < sizeLine ∧ N (upd H4 L (.lst (acc ++ [y]))) else N H3 := by
  unfold turn1 at et
  obtain ⟨ρ5, _, e5, et1⟩ := Res.bind_ok et
  have e5 := (lift_ok e5).1
  obtain ⟨k, ρ6, e6, et2⟩ := Res.bind_ok et1
  have mid1 : Mid c O1 H1 B (wipe τ vs) L G ρ O ds := mid.go (Post.of_le l) (mid.st.le l) nL nB fun a m => mid.st.fx a (List.mem_cons_of_mem _ m)
  refine ⟨L, ρ, O, x, ρ5, mid1.st, dv, e5, fun σ5 s5 same => ⟨wipe_same same hv, L, ρ5, O, s5, ?_⟩⟩
  have mid5 : Mid c O1 H1 B σ5 L G ρ5 O ds := ⟨s5, mid1.post, mid1.base, mid1.acc⟩
  rw [e6]
  intro G6 O6 p6 s6
  have mid6 : Mid c O1 H1 B σ5 L G6 ρ6 O6 ds := mid5.go p6 s6 nL nB fun a m => mid5.st.fx a (List.mem_cons_of_mem _ m)
  cases k with
  | false =>
    simp only [Bool.false_eq_true, if_false] at et2 ⊢
    cases et2
    exact fin _ O6 (by rw [List.append_nil]; exact mid6.wipe (wipe_same same hv))
  | true =>
    simp only [if_true] at et2 ⊢
    obtain ⟨y, ρ7, e7, et3⟩ := Res.bind_ok et2
    cases et3
    refine ⟨L, ρ6, O6, s6, ?_⟩
    rw [e7]
    intro G7 O7 p7 s7 v7 d7
    have mid7 : Mid c O1 H1 B σ5 L G7 ρ7 O7 ds := mid6.go p7 s7 nL nB fun a m => mid6.st.fx a (List.mem_cons_of_mem _ m)
    obtain ⟨ws, a1, a2, mid8⟩ := mid7.add nL nB d7
    refine ⟨ws, a1, ?_, fin _ O7 (mid8.wipe (wipe_same same hv))⟩
    simp at short
    have := sizeLine_ge
    omega
theorem loopC_at {f : D → Env → Res (List D)} {xs : List D} {i : Nat} {x : D} {ρ ρ2 : Env} {zs : List D} (hx : xs[i]? = some x) (h : loopC f (xs.drop i) ρ = .ok zs ρ2) : ∃ ys ρ1 ws, f x ρ = .ok ys ρ1 ∧ loopC f (xs.drop (i + 1)) ρ1 = .ok ws ρ2 ∧ zs = ys ++ ws := by
  obtain ⟨hi, e⟩ := List.getElem?_eq_some_iff.mp hx
  refine loopC_ok (x := x) ?_
  rw [← h, ← e, ← List.drop_eq_getElem_cons hi]
theorem loopC_end {f : D → Env → Res (List D)} {xs : List D} {i : Nat} {ρ ρ2 : Env} {zs : List D} (hi : xs.length ≤ i) (h : loopC f (xs.drop i) ρ = .ok zs ρ2) : zs = [] ∧ ρ2 = ρ := by
  rw [List.drop_eq_nil_of_le hi] at h
  cases h
  exact ⟨rfl, rfl⟩
/-- the second clause of a block -/
theorem lc_inner {c : Ct} {t : Tg} {fc : Env → Res Bool} {fe : Env → Res D} {vs : List Nat} (hv : ∀ i ∈ tgS t, i ∈ vs) {O1 : List Addr} {H1 B : Hp} {τ : Sg} {L : Addr} (nL : H1 L = none) (nB : L ∉ c.Bs)
    {H : Hp} {ρ ρ6 : Env} {O : List Addr} {ds zs ws : List D} {J : L2.It} {Nx : Hp → Prop} (mid : Mid c O1 H1 B τ L H ρ O ds) (hJ : IterOk c.K O H J zs) (lp : loopC (turn1 t fc fe vs) zs (wipeE ρ vs) = .ok ws ρ6) (short : (ds ++ ws).length ≤ 1000000)
    (fin : ∀ G O', Mid c O1 H1 B (wipe τ vs) L G ρ6 O' (ds ++ ws) → Nx G) :
    ∃ W1 : Nat → Nat → Hp → Prop, (∃ m, W1 0 m H) ∧ ∀ j k G, W1 j k G →
      (J.stop j G ∧ Nx G) ∨ (J.go j G ∧ ∃ N1 : Hp → Prop, (∀ G', N1 G' → ∃ k', k' < k ∧ W1 (j + 1) k' G') ∧ ∀ x G', J.yld j G x G' → gBm c t x (wipe τ vs) G' fun σ3 H5 => wipe σ3 vs = wipe τ vs ∧ tTm c fc σ3 H5 fun b H6 =>
        if b = true then tDm c fe σ3 H6 fun y H7 => ∃ acc, H7 L = some (.lst acc) ∧ acc.length < sizeLine ∧ N1 (upd H7 L (.lst (acc ++ [y]))) else N1 H6) := by
  refine ⟨fun i m G => i + m = zs.length ∧ ∃ ρ' O' es us, Mid c O1 H1 (hid O H) (wipe τ vs) L G ρ' O' (ds ++ es) ∧ loopC (turn1 t fc fe vs) (zs.drop i) ρ' = .ok us ρ6 ∧ es ++ us = ws, ⟨zs.length, by omega, wipeE ρ vs, O, [], ws, ?_, lp, rfl⟩, ?_⟩
  · rw [List.append_nil]
    exact ⟨mid.st.wipe vs, mid.post, Le.rfl', mid.acc⟩
  · rintro i m G ⟨im, ρ', O', es, us, mid', lp', ews⟩
    have it := hJ i O' G mid'.base mid'.st.hx
    cases hx : zs[i]? with
    | none =>
      have hi : zs.length ≤ i := List.getElem?_eq_none_iff.mp hx
      obtain ⟨rfl, rfl⟩ := loopC_end hi lp'
      rw [List.append_nil] at ews
      subst ews
      exact .inl ⟨it.2 hi, fin G O' ⟨mid'.st, mid'.post, mid.base.trans mid'.base, mid'.acc⟩⟩
    | some x =>
      have hi : i < zs.length := (List.getElem?_eq_some_iff.mp hx).1
      obtain ⟨go, yl⟩ := it.1 x hx
      obtain ⟨ys1, ρ4, us2, et, lp2, rfl⟩ := loopC_at hx lp'
      refine .inr ⟨go, fun G' => ∃ ρ' O' es us, Mid c O1 H1 (hid O H) (wipe τ vs) L G' ρ' O' (ds ++ es) ∧ loopC (turn1 t fc fe vs) (zs.drop (i + 1)) ρ' = .ok us ρ6 ∧ es ++ us = ws, fun G' w => ⟨m - 1, by omega, by omega, w⟩, fun v G1 hy => ?_⟩
      obtain ⟨l1, dv⟩ := yl v G1 hy
      refine lc_turn hv nL nB mid' et l1 dv ?_ fun G7 O7 mid7 => ⟨ρ4, O7, es ++ ys1, us2, by rw [← List.append_assoc]; exact mid7, lp2, by rw [List.append_assoc]; exact ews⟩
      rw [← ews] at short
      simp at short ⊢
      omega
/-- the loop of the first clause, whatever a turn does -/
theorem lc_outer {c : Ct} {W : WX} {f : D → Env → Res (List D)} {vs : List Nat} {σ : Sg} {Q : VK} {xs ys : List D} {ρ1 ρ2 : Env} {H1 : Hp} {O1 : List Addr} {J : L2.It} {L : Addr} {step : Hp → (Hp → Prop) → V → Prop}
    (s1 : StOk c H1 σ ρ1 O1) (hJ : IterOk c.K O1 H1 J xs) (nL : H1 L = none) (pl : vs.all (plainAt ρ1) = true) (eq : loopC f xs (wipeE ρ1 vs) = .ok ys ρ2) (short : ys.length ≤ 1000000)
    (h1 : Rp c W σ O1 H1 (.ok (.list ys) (restore ρ1 ρ2 vs)) (Pd c Q))
    (turn : ∀ {H G : Hp} {ρ ρ4 : Env} {O : List Addr} {ds zs : List D} {x : D} {v : V} {N : Hp → Prop}, Mid c O1 H1 (hid O1 H1) (wipe σ vs) L H ρ O ds → f x ρ = .ok zs ρ4 → Le H G → Dd c.K (hid O G) v x → (ds ++ zs).length ≤ 1000000 →
      (∀ G O', Mid c O1 H1 (hid O1 H1) (wipe σ vs) L G ρ4 O' (ds ++ zs) → N G) → step G N v) :
    ∃ W : Nat → Nat → Hp → Prop, (∃ m, W 0 m (upd H1 L (.lst []))) ∧ ∀ i m H, W i m H → (J.stop i H ∧ Q (.ref L) H) ∨ (J.go i H ∧ ∃ Nx : Hp → Prop, (∀ H', Nx H' → ∃ m', m' < m ∧ W (i + 1) m' H') ∧ ∀ x H', J.yld i H x H' → step H' Nx x) := by
  have nO : L ∉ O1 := fun m => s1.hx.there L m nL
  have nF : L ∉ c.Fx := fun m => nO (s1.fx L m)
  have nB : L ∉ c.Bs := fun m => nF (s1.bs L m)
  have start : Post c O1 H1 (L :: O1) (upd H1 L (.lst [])) := by
    refine ⟨fun a o e _ => Le.upd nL a o e, fun a m => ?_⟩
    rcases List.mem_cons.mp m with rfl | m
    · exact .inr nL
    · exact .inl m
  refine ⟨fun i m G => i + m = xs.length ∧ ∃ ρ O ds zs, Mid c O1 H1 (hid O1 H1) (wipe σ vs) L G ρ O ds ∧ loopC f (xs.drop i) ρ = .ok zs ρ2 ∧ ds ++ zs = ys, ⟨xs.length, by omega, wipeE ρ1 vs, L :: O1, [], ys, ⟨(s1.enter nL).wipe vs, start, start.hid, [], upd_same, .nil⟩, eq, rfl⟩, ?_⟩
  rintro i m G ⟨im, ρ3, O3, ds, zs, mid, lp, eys⟩
  have it := hJ i O3 G mid.post.hid mid.st.hx
  cases hx : xs[i]? with
  | none =>
    have hi : xs.length ≤ i := List.getElem?_eq_none_iff.mp hx
    obtain ⟨rfl, rfl⟩ := loopC_end hi lp
    rw [List.append_nil] at eys
    subst eys
    obtain ⟨ws, a1, a2⟩ := mid.acc
    have pp : Post c O1 H1 (O3.filter (· ≠ L)) G := ⟨mid.post.keep, fun a m => mid.post.new a (List.mem_filter.mp m).1⟩
    refine .inl ⟨it.2 hi, h1 G _ pp (StOk.back (mid.st.leave s1.bs nF) s1 pp.hid pl) _ (.lst (hid_some.mpr ⟨fun m => by simpa using (List.mem_filter.mp m).2, a1⟩) (a2.le ?_))⟩
    intro b o e
    obtain ⟨q1, q2⟩ := hid_some.mp e
    exact hid_some.mpr ⟨fun m => q1 (List.mem_filter.mp m).1, q2⟩
  | some x =>
    have hi : i < xs.length := (List.getElem?_eq_some_iff.mp hx).1
    obtain ⟨go, yl⟩ := it.1 x hx
    obtain ⟨ys1, ρ4, zs2, et, lp2, rfl⟩ := loopC_at hx lp
    refine .inr ⟨go, fun G' => ∃ ρ O ds zs, Mid c O1 H1 (hid O1 H1) (wipe σ vs) L G' ρ O ds ∧ loopC f (xs.drop (i + 1)) ρ = .ok zs ρ2 ∧ ds ++ zs = ys, fun G' w => ⟨m - 1, by omega, by omega, w⟩, fun v G1 hy => ?_⟩
    obtain ⟨l1, dv⟩ := yl v G1 hy
    refine turn mid et l1 dv ?_ fun G7 O7 mid7 => ⟨ρ4, O7, ds ++ ys1, zs2, mid7, lp2, by rw [List.append_assoc]; exact eys⟩
    rw [← eys] at short
    simp at short ⊢
    omega
theorem compF_inv {c : Ct} {W : WX} {f : D → Env → Res (List D)} {vs : List Nat} {σ : Sg} {xs : List D} {ρ1 : Env} {H1 : Hp} {O1 : List Addr} {P : D → Env → Hp → List Addr → Prop}
    (h1 : Rp c W σ O1 H1 (if vs.all (plainAt ρ1) = true then (match loopC f xs (wipeE ρ1 vs) with
      | .ok ys ρ2 => if ys.length ≤ 1000000 then .ok (.list ys) (restore ρ1 ρ2 vs) else .bad
      | _ => .bad) else .bad) P) : vs.all (plainAt ρ1) = true ∧ ∃ ys ρ2, loopC f xs (wipeE ρ1 vs) = .ok ys ρ2 ∧ ys.length ≤ 1000000 ∧ Rp c W σ O1 H1 (.ok (.list ys) (restore ρ1 ρ2 vs)) P := by
  split at h1
  · rename_i pl
    refine ⟨pl, ?_⟩
    cases eq : loopC f xs (wipeE ρ1 vs) with
    | exc x ρ => rw [eq] at h1; exact h1.elim
    | bad => rw [eq] at h1; exact h1.elim
    | ok ys ρ2 =>
      rw [eq] at h1
      simp only at h1
      split at h1
      · rename_i short
        exact ⟨ys, ρ2, rfl, short, h1⟩
      · exact h1.elim
  · exact h1.elim
theorem lc_reads {c : Ct} {W : WX} {fi : Env → Res (List D)} {t : Tg} {fc : Env → Res Bool} {fe : Env → Res D} {vs : List Nat} (hv : ∀ i ∈ tgS t, i ∈ vs) {σ : Sg} {H : Hp} {Q : VK} (h : tD c W (compF (turn1 t fc fe vs) fi vs) σ H Q) :
    tLc (tI c W fi) (gBm c t) (tTm c fc) (tDm c fe) vs σ H Q := by
  obtain ⟨ρ, O, s, h⟩ := h
  refine ⟨ρ, O, s, h.bind.imp fun xs ρ1 H1 O1 p1 s1 h1 J hJ L nL => ?_⟩
  obtain ⟨pl, ys, ρ2, eq, short, h1⟩ := compF_inv h1
  have nB : L ∉ c.Bs := fun m => s1.hx.there L (s1.fx L (s1.bs L m)) nL
  exact lc_outer s1 hJ nL pl eq short h1 fun mid et l dv sh fin => lc_turn hv nL nB mid et l dv sh fin
/-- one turn of a block with two clauses -/
def turn2 (t : Tg) (fc : Env → Res Bool) (fi : Env → Res (List D)) (t2 : Tg) (fc2 : Env → Res Bool) (fe : Env → Res D) (vs vs2 : List Nat) : D → Env → Res (List D) := fun x ρ => (lift (bindT t x ρ) ρ).bind fun ρ' _ => (fc ρ').bind fun k ρ2 =>
  if k = true then (fi ρ2).bind fun zs ρ3 => (loopC (turn1 t2 fc2 fe vs2) zs (wipeE ρ3 vs2)).bind fun ys ρ6 => .ok ys (wipeE ρ6 vs) else .ok [] (wipeE ρ2 vs)
theorem wipe_wipe {σ : Sg} {vs ws : List Nat} (h : ∀ i ∈ ws, i ∈ vs) : wipe (wipe σ ws) vs = wipe σ vs := by
  refine sg_ext (by rw [wipe_length, wipe_length, wipe_length]) fun j => ?_
  rw [wipe_get, wipe_get, wipe_get]
  by_cases q : j ∈ vs
  · rw [if_pos q, if_pos q]
  · rw [if_neg q, if_neg q, if_neg fun m => q (h j m)]
theorem lc2_reads {c : Ct} {W : WX} {fi fi2 : Env → Res (List D)} {t t2 : Tg} {fc fc2 : Env → Res Bool} {fe : Env → Res D} {vs vs2 : List Nat} (hv : ∀ i ∈ tgS t, i ∈ vs) (hv2 : ∀ i ∈ tgS t2, i ∈ vs2) (hvv : ∀ i ∈ vs2, i ∈ vs) {σ : Sg} {H : Hp} {Q : VK}
    (h : tD c W (compF (turn2 t fc fi2 t2 fc2 fe vs vs2) fi vs) σ H Q) : tLc2 (tI c W fi) (gBm c t) (tTm c fc) (tIm c fi2) (gBm c t2) (tTm c fc2) (tDm c fe) vs vs2 σ H Q := by
  obtain ⟨ρ, O, s, h⟩ := h
  refine ⟨ρ, O, s, h.bind.imp fun xs ρ1 H1 O1 p1 s1 h1 J hJ L nL => ?_⟩
  obtain ⟨pl, ys, ρ2, eq, short, h1⟩ := compF_inv h1
  have nB : L ∉ c.Bs := fun m => s1.hx.there L (s1.fx L (s1.bs L m)) nL
  refine lc_outer s1 hJ nL pl eq short h1 fun {H G ρ ρ4 O ds zs x v N} mid et l dv sh fin => ?_
  unfold turn2 at et
  obtain ⟨ρ5, _, e5, et1⟩ := Res.bind_ok et
  have e5 := (lift_ok e5).1
  obtain ⟨k, ρ6, e6, et2⟩ := Res.bind_ok et1
  have mid1 := mid.go (Post.of_le l) (mid.st.le l) nL nB fun a m => mid.st.fx a (List.mem_cons_of_mem _ m)
  refine ⟨L, ρ, O, x, ρ5, mid1.st, dv, e5, fun σ5 s5 same => ⟨wipe_same same hv, L, ρ5, O, s5, ?_⟩⟩
  have mid5 : Mid c O1 H1 (hid O1 H1) σ5 L G ρ5 O ds := ⟨s5, mid1.post, mid1.base, mid1.acc⟩
  rw [e6]
  intro G6 O6 p6 s6
  have mid6 := mid5.go p6 s6 nL nB fun a m => mid5.st.fx a (List.mem_cons_of_mem _ m)
  cases k with
  | false =>
    simp only [Bool.false_eq_true, if_false] at et2 ⊢
    cases et2
    exact fin _ O6 (by rw [List.append_nil]; exact mid6.wipe (wipe_same same hv))
  | true =>
    simp only [if_true] at et2 ⊢
    obtain ⟨us, ρ7, e7, et3⟩ := Res.bind_ok et2
    obtain ⟨ws, ρ8, e8, et4⟩ := Res.bind_ok et3
    cases et4
    refine ⟨L, ρ6, O6, s6, ?_⟩
    rw [e7]
    intro G7 O7 p7 s7 J2 hJ2
    have mid7 := mid6.go p7 s7 nL nB fun a m => mid6.st.fx a (List.mem_cons_of_mem _ m)
    refine lc_inner hv2 nL nB mid7 hJ2 e8 sh fun G8 O8 mid8 => fin G8 O8 (mid8.wipe ?_)
    rw [wipe_wipe hvv]
    exact wipe_same same hv
end DR
/-! Sets of nested tuples, part a: what is asked of a key. -/
namespace DS
open PySem PySem.Spec PyProof.Rows L2
section
variable {P : Program} {w : World}
/-- v is of no class statement, n levels down -/
def Bare (P : Program) (w : World) (n : Nat) (s : Shared) (v : Value) : Prop := ∀ (A : Around) (E : Value → Shared → Prop) (Q : Bool → Shared → Prop), Q false s → wpAny (model P w) A (ofAClassStatement n v) Q E s
theorem Bare.tuple {n : Nat} {s : Shared} {a : Addr} {o : Obj} {vs : Array Value} {m : Nat} (ho : s.heap.get? a = some o) (hc : o.cls = .type "tuple") (hd : o.data = .seq vs m) (hq : ∀ v ∈ vs.toList, Bare P w n s v) : Bare P w (n + 1) s (.ref a) := by
  intro A E Q hQ
  have hT : s.TypeIs (.ref a) "tuple" := ⟨o, ho, hc⟩
  unfold ofAClassStatement
  refine wpAny_bind (wpAny_typeOf hT ?_)
  dsimp only
  rw [if_pos (by decide)]
  refine wpAny_bind (wpAny_pure ?_)
  rw [if_neg (by decide)]
  refine wpAny_bind (wpAny_seqItems ho hd ?_)
  refine wpAny_bind ?_
  show wpAny _ _ (forIn vs _ _) _ _ s
  rw [← Array.forIn_toList]
  refine wpAny_forIn_list _ (fun todo st s2 => st.1 = none ∧ s2 = s ∧ ∀ u ∈ todo, Bare P w n s u) _ ?_ ?_ _ _ ⟨rfl, rfl, hq⟩
  · rintro u todo st s2 ⟨e1, rfl, all⟩
    refine wpAny_bind (all u List.mem_cons_self _ _ _ ?_)
    rw [if_neg (by decide)]
    exact wpAny_pure ⟨rfl, rfl, fun z hz => all z (List.mem_cons_of_mem _ hz)⟩
  · rintro ⟨x1, x2⟩ s2 ⟨e1, rfl, _⟩
    cases e1
    exact wpAny_pure hQ
mutual
theorem bare_key : ∀ (k : NestedKey) (v : Value) (n : Nat) (s : Shared), NestedIs s.heap k v → k.depth ≤ n → Bare P w n s v
  | .none, _, n, s, .none, _ => fun A E Q hQ => by cases n <;> exact wpAny_pure hQ
  | .num _, _, n, s, .bool _, _ => fun A E Q hQ => by cases n <;> exact wpAny_pure hQ
  | .num _, _, n, s, .int _ _, _ => fun A E Q hQ => by cases n <;> exact wpAny_pure hQ
  | .text _, _, n, s, .text _ _, _ => fun A E Q hQ => by cases n <;> exact wpAny_pure hQ
  | .tup ks, _, 0, s, .tup _ _ _ _, h => absurd h (by simp [NestedKey.depth])
  | .tup ks, _, n + 1, s, .tup ho hc hd hk, h => Bare.tuple ho hc hd (bare_keys ks _ n s hk (by simp [NestedKey.depth] at h; exact h))
theorem bare_keys : ∀ (ks : List NestedKey) (vs : List Value) (n : Nat) (s : Shared), NestedAll s.heap ks vs → NestedKey.depthAll ks ≤ n → ∀ v ∈ vs, Bare P w n s v
  | [], _, n, s, .nil, _ => fun v hv => nomatch hv
  | k :: ks, _, n, s, .cons hk ht, h => fun v hv => by
    simp only [NestedKey.depthAll] at h
    rcases List.mem_cons.mp hv with rfl | hv
    · exact bare_key k _ n s hk (by omega)
    · exact bare_keys ks _ n s ht (by omega) v hv
end
/-- its hash is by its value alone -/
def ByVal (P : Program) (w : World) (n : Nat) (s : Shared) (v : Value) : Prop := ∀ (A : Around) (E : Value → Shared → Prop) (Q : Bool → Shared → Prop), Q true s → wpAny (model P w) A (hashByValue n v) Q E s
theorem ByVal.tuple {n : Nat} {s : Shared} {a : Addr} {o : Obj} {vs : Array Value} {m : Nat} (ho : s.heap.get? a = some o) (hc : o.cls = .type "tuple") (hd : o.data = .seq vs m) (hq : ∀ v ∈ vs.toList, ByVal P w n s v) : ByVal P w (n + 1) s (.ref a) := by
  intro A E Q hQ
  have hT : s.TypeIs (.ref a) "tuple" := ⟨o, ho, hc⟩
  unfold hashByValue
  refine wpAny_bind (wpAny_specialOf hT F.slot_tuple_hash.lookup ?_)
  refine wpAny_bind (wpAny_seqItems ho hd ?_)
  refine wpAny_bind ?_
  show wpAny _ _ (forIn vs _ _) _ _ s
  rw [← Array.forIn_toList]
  refine wpAny_forIn_list _ (fun todo st s2 => st.1 = none ∧ s2 = s ∧ ∀ u ∈ todo, ByVal P w n s u) _ ?_ ?_ _ _ ⟨rfl, rfl, hq⟩
  · rintro u todo st s2 ⟨e1, rfl, all⟩
    refine wpAny_bind (all u List.mem_cons_self _ _ _ ?_)
    rw [if_neg (by decide)]
    exact wpAny_pure ⟨rfl, rfl, fun z hz => all z (List.mem_cons_of_mem _ hz)⟩
  · rintro ⟨x1, x2⟩ s2 ⟨e1, rfl, _⟩
    cases e1
    exact wpAny_pure hQ
end
mutual
def plainK : NestedKey → Bool
  | .none => true
  | .num _ => true
  | .text _ => false
  | .tup ks => plainKs ks
def plainKs : List NestedKey → Bool
  | [] => true
  | k :: ks => plainK k && plainKs ks
end
section
variable {P : Program} {w : World}
mutual
theorem byVal_key : ∀ (k : NestedKey) (v : Value) (n : Nat) (s : Shared), NestedIs s.heap k v → k.depth ≤ n → plainK k = true → ByVal P w n s v
  | .none, _, n, s, .none, _, _ => fun A E Q hQ => by cases n <;> exact wpAny_pure hQ
  | .num _, _, n, s, .bool _, _, _ => fun A E Q hQ => by cases n <;> exact wpAny_pure hQ
  | .num _, _, n, s, .int _ _, _, _ => fun A E Q hQ => by cases n <;> exact wpAny_pure hQ
  | .text _, _, n, s, .text _ _, _, h => absurd h (by simp [plainK])
  | .tup ks, _, 0, s, .tup _ _ _ _, h, _ => absurd h (by simp [NestedKey.depth])
  | .tup ks, _, n + 1, s, .tup ho hc hd hk, h, hp => ByVal.tuple ho hc hd (byVal_keys ks _ n s hk (by simp [NestedKey.depth] at h; exact h) (by simpa [plainK] using hp))
theorem byVal_keys : ∀ (ks : List NestedKey) (vs : List Value) (n : Nat) (s : Shared), NestedAll s.heap ks vs → NestedKey.depthAll ks ≤ n → plainKs ks = true → ∀ v ∈ vs, ByVal P w n s v
  | [], _, n, s, .nil, _, _ => fun v hv => nomatch hv
  | k :: ks, _, n, s, .cons hk ht, h, hp => fun v hv => by
    simp only [NestedKey.depthAll] at h
    simp only [plainKs, Bool.and_eq_true] at hp
    rcases List.mem_cons.mp hv with rfl | hv
    · exact byVal_key k _ n s hk (by omega) hp.1
    · exact byVal_keys ks _ n s ht (by omega) hp.2 v hv
end
end
end DS
/-! Sets of nested tuples, part b: the search in the table. -/
namespace DS
open PySem PySem.Spec PyProof.Rows L2
/-- the tuple at a is the key k -/
abbrev IsK (h : Heap) (k : NestedKey) (a : Addr) : Prop := NestedIs h k (.ref a) ∧ k.depth ≤ 8 ∧ plainK k = true
abbrev hK (w : World) (k : NestedKey) : Int := k.hash w
abbrev Rows := List (Addr × NestedKey)
def rowsK (w : World) (L : Rows) : List (Int × Value) := L.map fun p => (hK w p.2, Value.ref p.1)
abbrev hsK (w : World) (L : Rows) : List Int := L.map fun p => hK w p.2
theorem rowsK_length (w : World) (L : Rows) : (rowsK w L).length = L.length := List.length_map ..
theorem IsK.keep {h h' : Heap} {k : NestedKey} {a : Addr} (x : IsK h k a) (hk : ∀ b o vs n, h.get? b = some o → o.data = .seq vs n → h'.get? b = some o) : IsK h' k a := ⟨NestedIs.at hk k _ x.1, x.2⟩
theorem IsK.same {h h' : Heap} {k : NestedKey} {a d : Addr} {o : Obj} {es : Array (Int × Value)} {ep : Nat} {t : SetTable} (x : IsK h k a) (ho : h.get? d = some o) (hd : o.data = .set es ep t) (sb : Heap.SameBut d h h') : IsK h' k a :=
  x.keep fun b ob vs n e e2 => (sb.2 b fun z => by rw [z, ho] at e; cases e; rw [hd] at e2; cases e2).trans e
section
variable {P : Program} {w : World} {A : Around} {E : Value → Shared → Prop} {s : Shared}
theorem eq_key {x y : NestedKey} {a b : Addr} {Q : Bool → Shared → Prop} (hu : A.units + 8 < cLine) (hx : IsK s.heap x a) (hy : IsK s.heap y b) (h : Q (decide (x = y)) s) : wpAny (model P w) A (eqBool (.ref a) (.ref b)) Q E s :=
  (nestedKind P w).eqBool hu ⟨hx.1, hx.2.1⟩ ⟨hy.1, hy.2.1⟩ h
/-- a search shows nothing -/
theorem seen_key {k : NestedKey} {b : Addr} {Q : Bool → Shared → Prop} (hk : IsK s.heap k b) {ys : List Value} (hy : ∀ y ∈ ys, ∃ k' c, y = Value.ref c ∧ IsK s.heap k' c) (h : Q false s) : wpAny (model P w) A (searchCouldBeSeen (.ref b) ys) Q E s := by
  unfold searchCouldBeSeen
  refine wpAny_bind (wpAny_forIn_list _ (fun todo st s2 => st.1 = none ∧ s2 = s ∧ ∀ y ∈ todo, ∃ k' c, y = Value.ref c ∧ IsK s.heap k' c) _ ?_ ?_ _ _ ⟨rfl, rfl, hy⟩)
  · rintro u todo st s2 ⟨e1, rfl, all⟩
    obtain ⟨k2, c, rfl, hc⟩ := all u List.mem_cons_self
    dsimp only
    by_cases q : (b == c || (carriedByValue (.ref b) && carriedByValue (.ref c))) = true
    · rw [if_pos q]
      exact wpAny_pure ⟨rfl, rfl, fun z hz => all z (List.mem_cons_of_mem _ hz)⟩
    · rw [if_neg q]
      refine wpAny_bind (quiet_key k _ 8 s2 hk.1 hk.2.1 _ _ _ ?_)
      rw [if_neg (by decide)]
      refine wpAny_bind (quiet_key k2 _ 8 s2 hc.1 hc.2.1 _ _ _ ?_)
      rw [if_neg (by decide)]
      refine wpAny_bind (bare_key k _ 8 s2 hk.1 hk.2.1 _ _ _ ?_)
      rw [if_neg (by decide)]
      refine wpAny_bind (bare_key k2 _ 8 s2 hc.1 hc.2.1 _ _ _ ?_)
      rw [if_neg (by decide)]
      exact wpAny_pure ⟨rfl, rfl, fun z hz => all z (List.mem_cons_of_mem _ hz)⟩
  · rintro ⟨x1, x2⟩ s2 ⟨e1, rfl, _⟩
    cases e1
    exact wpAny_pure h
end
/-- the set at a has the keys of L, each once -/
structure SetN (w : World) (h : Heap) (a : Addr) (L : Rows) (es : Array (Int × Value)) (ep : Nat) (t : SetTable) : Prop where
  obj : ∃ o, h.get? a = some o ∧ o.ExactSet ∧ o.data = .set es ep t
  rows : es.toList = rowsK w L
  tab : TabOk t (hsK w L)
  nd : (L.map (·.2)).Nodup
  keys : ∀ p ∈ L, IsK h p.2 p.1
  plain : t.plain = true
  led : w.params.followText "set-order" = true ∨ t.led = true
  room : L.length * 5 < t.mask * 3
section
variable {P : Program} {w : World} {A : Around} {E : Value → Shared → Prop} {s : Shared} {a : Addr} {L : Rows} {es : Array (Int × Value)} {ep : Nat} {t : SetTable}
theorem SetN.size {h : Heap} (R : SetN w h a L es ep t) : es.size = L.length := by
  rw [← Array.length_toList, R.rows, rowsK_length]
theorem SetN.psize {h : Heap} (R : SetN w h a L es ep t) : t.place.toList.length = L.length := by
  rw [Array.length_toList, R.tab.sz, List.length_map]
theorem fits_of {n : Nat} (h1 : t.place.size = n) (h2 : t.dummies = #[]) (h3 : n ≤ t.mask) : t.fits n = true := by
  unfold SetTable.fits SetTable.fill
  rw [h2, Bool.and_eq_true]
  exact ⟨beq_iff_eq.mpr h1, decide_eq_true (by show t.place.size + 0 ≤ t.mask; omega)⟩
theorem SetN.fits {h : Heap} (R : SetN w h a L es ep t) : t.fits es.size = true := by
  have q1 := R.tab.sz
  rw [List.length_map] at q1
  have q2 := R.size
  have q3 := R.room
  exact fits_of (by omega) R.tab.dm (by omega)
theorem SetN.entry {h : Heap} (R : SetN w h a L es ep t) {i : Nat} {p : Addr × NestedKey} (e : L[i]? = some p) : es[i]? = some (hK w p.2, Value.ref p.1) := by
  rw [← Array.getElem?_toList, R.rows, rowsK, List.getElem?_map, e]
  rfl
theorem SetN.holds {h : Heap} (R : SetN w h a L es ep t) : ¬ t.gaveWay = true := by
  unfold SetTable.gaveWay
  rw [mask_odd R.tab.mok]
  decide
/-- the probe at the c-th step of the way of the hash z -/
abbrev stp (m : Nat) (z : Int) (c : Nat) : SetTable.Probe := nth m (runAt m (SetTable.bits z % (m + 1)) (SetTable.bits z)) c
theorem stp_dummy (m : Nat) (z : Int) (c : Nat) : (stp m z c).dummy = none := by
  have key : ∀ (n : Nat) (p : SetTable.Probe), p.dummy = none → (nth m p n).dummy = none := by
    intro n
    induction n with
    | zero => exact fun p h => h
    | succ n ih =>
      intro p h
      refine ih _ ?_
      unfold adv
      split
      · exact h
      · exact h
  exact key c _ rfl
theorem find_from (R : SetN w s.heap a L es ep t) {x : Addr} {k : NestedKey} (hx : IsK s.heap k x) (hu : A.units + 8 < cLine) {K : Nat} (hf : K < 10 * SetTable.turns t.mask) (hK1 : way t.mask (hK w k) K ∉ t.place.toList)
    (hK2 : ∀ c, c < K → way t.mask (hK w k) c ∈ t.place.toList) {Q : SetFound → Shared → Prop} (yes : k ∈ L.map (·.2) → Q (.there none) s) (no : k ∉ L.map (·.2) → Q (.free (way t.mask (hK w k) K) false) s) :
    ∀ (fuel c : Nat) (st : Option SetTable.Probe), st.getD (t.probeStart (hK w k)) = stp t.mask (hK w k) c → c ≤ K → K - c < fuel →
      (∀ (i : Nat) p, L[i]? = some p → p.2 = k → ∃ d, c ≤ d ∧ d < K ∧ t.place.toList[i]? = some (way t.mask (hK w k) d)) → wpAny (model P w) A (setSearchFrom a (.ref x) (hK w k) true fuel st) Q E s
  | 0, c, st, _, _, hl, _ => absurd hl (Nat.not_lt_zero _)
  | fuel + 1, c, st, e0, hc, hl, ahead => by
    obtain ⟨o, ho, _, hd⟩ := R.obj
    have shift : ∀ q, nth t.mask (stp t.mask (hK w k) c) q = stp t.mask (hK w k) (c + q) := fun q => (nth_add t.mask c _ q).symm
    have shj : ∀ q, (nth t.mask (stp t.mask (hK w k) c) q).j = way t.mask (hK w k) (c + q) := fun q => congrArg SetTable.Probe.j (shift q)
    have end_ : c + (K - c) = K := by omega
    let hat : Nat → Int := fun i => (es[i]?.map (·.1)).getD 0
    have hat_eq : ∀ (i : Nat) p, L[i]? = some p → hat i = hK w p.2 := fun i p e => by
      show (es[i]?.map (·.1)).getD 0 = _
      rw [R.entry e]
      rfl
    have spec := go_spec t R.tab.ris R.tab.dm hat (hK w k) (10 * SetTable.turns t.mask) (K - c) (stp t.mask (hK w k) c) (stp_dummy _ _ _) (by omega) (fun q hq => by rw [shj]; exact hK2 _ (by omega)) (by rw [shj, end_]; exact hK1)
    rw [setSearchFrom_succ]
    refine wpAny_bind (wpAny_setState_of ho hd R.fits ?_)
    dsimp only
    rw [if_neg R.holds]
    rcases spec with ⟨q, i, hq, hi, hh, before, pr⟩ | ⟨before, pr⟩
    · have pr2 : t.probe hat (hK w k) (st.getD (t.probeStart (hK w k))) = some (.candidate (way t.mask (hK w k) (c + q)) i (stp t.mask (hK w k) (c + (q + 1)))) := by
        rw [e0, ← shj, ← shift]
        exact pr
      rw [shj] at hi
      have lt : i < L.length := by
        rw [← R.psize]
        exact (List.getElem?_eq_some_iff.mp hi).1
      obtain ⟨p, hp⟩ : ∃ p, L[i]? = some p := ⟨_, List.getElem?_eq_getElem lt⟩
      have mem := List.mem_of_getElem? hp
      have live : t.slot (way t.mask (hK w k) (c + q)) = .live i := slot_live R.tab.ris hi
      have rest : wpAny (model P w) A (searchRest a (.ref x) (hK w k) true fuel es t (way t.mask (hK w k) (c + q)) i (stp t.mask (hK w k) (c + (q + 1)))) Q E s := by
        unfold searchRest
        rw [R.entry hp]
        dsimp only
        refine wpAny_bind (wpAny_holding (eq_key hu (R.keys p mem) hx ?_))
        refine wpAny_bind (wpAny_setState_of ho hd R.fits ?_)
        dsimp only
        by_cases kk : p.2 = k
        · rw [if_pos (by simp [kk])]
          exact wpAny_pure (yes (List.mem_map.mpr ⟨p, mem, kk⟩))
        · rw [if_neg (by simp [kk]), sameMem]
          dsimp only
          simp only [if_true, live, R.entry hp]
          refine wpAny_bind (wpAny_isSame_ref_self (wpAny_bind (wpAny_pure ?_)))
          simp only [if_true]
          rw [if_neg (by simp [kk])]
          refine find_from R hx hu hf hK1 hK2 yes no fuel (c + (q + 1)) _ rfl (by omega) (by omega) fun i2 p2 h2 k2 => ?_
          obtain ⟨d, d1, d2, d3⟩ := ahead i2 p2 h2 k2
          have n1 : ¬ d < c + q := fun low => ?_
          have n2 : ¬ d = c + q := fun same => ?_
          · exact ⟨d, by omega, d2, d3⟩
          rotate_left
          · refine before (d - c) i2 (by omega) (by rw [shj, show c + (d - c) = d by omega]; exact d3) ?_
            rw [hat_eq i2 p2 h2, k2]
          · rw [same] at d3
            have l2 := slot_live R.tab.ris d3
            rw [live] at l2
            injection l2 with l2
            rw [← l2, hp] at h2
            cases h2
            exact kk k2
      show wpAny _ _ (match t.probe hat (hK w k) (st.getD (t.probeStart (hK w k))) with
        | some met => _
        | _ => _) _ _ _
      rw [pr2]
      dsimp only
      by_cases hl : t.led = true
      · rw [if_neg (by simp [hl])]
        exact rest
      · rw [if_pos (by simp [hl])]
        refine wpAny_bind (seen_key hx (fun y hy => ?_) ?_)
        · obtain ⟨e, he, rfl⟩ := List.mem_map.mp hy
          have he : e ∈ es.toList := by
            have : e ∈ es ∧ e.1 = hK w k := by simpa using he
            simpa using this.1
          rw [R.rows] at he
          obtain ⟨p2, m2, rfl⟩ := List.mem_map.mp he
          exact ⟨p2.2, p2.1, rfl, R.keys p2 m2⟩
        · rw [if_neg (by decide)]
          exact rest
    · have pr2 : t.probe hat (hK w k) (st.getD (t.probeStart (hK w k))) = some (.empty (way t.mask (hK w k) K) none) := by
        have : way t.mask (hK w k) K = (nth t.mask (stp t.mask (hK w k) c) (K - c)).j := by rw [shj, end_]
        rw [e0, this]
        exact pr
      show wpAny _ _ (match t.probe hat (hK w k) (st.getD (t.probeStart (hK w k))) with
        | some met => _
        | _ => _) _ _ _
      rw [pr2]
      dsimp only
      refine wpAny_pure (no fun m => ?_)
      obtain ⟨p0, m0, k0⟩ := List.mem_map.mp m
      obtain ⟨i0, l0, g0⟩ := List.getElem_of_mem m0
      have h0 : L[i0]? = some p0 := by rw [List.getElem?_eq_getElem l0, g0]
      obtain ⟨d, d1, d2, d3⟩ := ahead i0 p0 h0 k0
      refine before (d - c) i0 (by omega) (by rw [shj, show c + (d - c) = d by omega]; exact d3) ?_
      rw [hat_eq i0 p0 h0, k0]
end
end DS
/-! Sets of nested tuples, part c: adding. -/
namespace DS
open PySem PySem.Spec PyProof.Rows L2
section
variable {P : Program} {w : World} {A : Around} {E : Value → Shared → Prop} {s : Shared} {a : Addr} {L : Rows} {es : Array (Int × Value)} {ep : Nat} {t : SetTable}
theorem find_at (R : SetN w s.heap a L es ep t) {x : Addr} {k : NestedKey} (hx : IsK s.heap k x) (hu : A.units + 8 < cLine) {Q : SetFound → Shared → Prop} (yes : k ∈ L.map (·.2) → Q (.there none) s)
    (no : ∀ K, k ∉ L.map (·.2) → way t.mask (hK w k) K ∉ t.place.toList → (∀ c, c < K → way t.mask (hK w k) c ∈ t.place.toList) → Q (.free (way t.mask (hK w k) K) false) s) : wpAny (model P w) A (setSearch a (.ref x) (hK w k) true) Q E s := by
  have rm := R.room
  obtain ⟨K, h1, h2, h3⟩ := R.tab.first (by rw [List.length_map]; omega) (hK w k)
  have small : 10 * SetTable.turns t.mask ≤ 1420 := by
    unfold SetTable.turns
    rcases R.tab.mok with e | e | e <;> omega
  unfold setSearch
  refine find_from R hx hu h1 h2 h3 yes (fun n => no K n h2 h3) 100000 0 none rfl (Nat.zero_le _) (by omega) fun i p e ek => ?_
  have lt : i < t.place.toList.length := by
    rw [R.psize]
    exact (List.getElem?_eq_some_iff.mp e).1
  obtain ⟨c, c1, c2⟩ := R.tab.before h2 (i := i) (h := hK w k) (by rw [List.getElem?_map, e, ← ek]; rfl) (List.getElem?_eq_getElem lt)
  exact ⟨c, Nat.zero_le _, c1, by rw [List.getElem?_eq_getElem lt, c2]⟩
/-- the rows in another order -/
theorem pick_rows {order : Array Nat} (hr : es.toList = rowsK w L) (hp : order.toList.Perm (List.range L.length)) :
    ∃ M : Rows, (order.filterMap (es[·]?)).toList = rowsK w M ∧ M.Perm L ∧ hsK w M = order.toList.map fun i => (es.map (·.1)).getD i 0 := by
  have at_ : ∀ (i : Nat) p, L[i]? = some p → es[i]? = some (hK w p.2, Value.ref p.1) := fun i p e => by
    rw [← Array.getElem?_toList, hr, rowsK, List.getElem?_map, e]
    rfl
  have each : ∀ l : List Nat, (∀ i ∈ l, i < L.length) → l.filterMap (fun i => es[i]?) = rowsK w (l.filterMap fun i => L[i]?) ∧ hsK w (l.filterMap fun i => L[i]?) = l.map fun i => (es.map (·.1)).getD i 0 := by
    intro l
    induction l with
    | nil => exact fun _ => ⟨rfl, rfl⟩
    | cons i l ih =>
      intro hl
      obtain ⟨e1, e2⟩ := ih fun j hj => hl j (List.mem_cons_of_mem _ hj)
      obtain ⟨p, hp⟩ : ∃ p, L[i]? = some p := ⟨_, List.getElem?_eq_getElem (hl i List.mem_cons_self)⟩
      have hz : (es.map (·.1)).getD i 0 = hK w p.2 := by
        have : (es.map (·.1))[i]? = some (hK w p.2) := by
          rw [Array.getElem?_map, at_ i p hp]
          rfl
        simp [Array.getD_eq_getD_getElem?, this]
      rw [List.filterMap_cons_some (at_ i p hp), List.filterMap_cons_some hp]
      exact ⟨by rw [e1]; rfl, by rw [List.map_cons, hz, ← e2]; rfl⟩
  obtain ⟨e1, e2⟩ := each order.toList fun i hi => List.mem_range.mp (hp.mem_iff.mp hi)
  refine ⟨_, by simpa using e1, ?_, e2⟩
  have := hp.filterMap fun i => L[i]?
  rwa [PySem.List.filterMap_getElem?_range_length] at this
theorem SetN.fresh {h : Heap} {b : Addr} (ho : h.get? b = some { cls := .type "set", dict := none, data := .set #[] 0 (.fresh 0 0 (!w.params.followText "set-order")) }) : SetN w h b [] #[] 0 (.fresh 0 0 (!w.params.followText "set-order")) where
  obj := ⟨_, ho, ⟨rfl, rfl, rfl⟩, rfl⟩
  rows := rfl
  tab := ⟨.nil, rfl, rfl, .inl rfl, (fun _ z => nomatch z), (fun _ _ _ z => by simp at z)⟩
  nd := .nil
  keys := fun _ z => nomatch z
  plain := rfl
  led := by
    show _ ∨ (!w.params.followText "set-order") = true
    cases w.params.followText "set-order" <;> simp
  room := by show 0 * 5 < 7 * 3; decide
/-- laid anew in a larger table -/
theorem relay_key {o : Obj} (ho : s.heap.get? a = some o) (hex : o.ExactSet) (hd : o.data = .set es ep t) (hr : es.toList = rowsK w L) (hz : t.place.size = es.size) (hdm : t.dummies = #[]) (hm : es.size ≤ t.mask) (nd : (L.map (·.2)).Nodup)
    (ks : ∀ p ∈ L, IsK s.heap p.2 p.1) (pl : t.plain = true) (ld : w.params.followText "set-order" = true ∨ t.led = true) {want M : Nat} (hw : SetTable.sizeAbove want = M + 1) (hM : MaskOk M) (hn : L.length * 5 < M * 3) {Q : Unit → Shared → Prop}
    (hQ : ∀ h' L' es' ep' t', Heap.SameBut a s.heap h' → SetN w h' a L' es' ep' t' → L'.Perm L → Q () { s with heap := h' }) : wpAny (model P w) A (setRelay a want) Q E s := by
  have sz : es.size = L.length := by rw [← Array.length_toList, hr, rowsK_length]
  have small : M ≤ 127 := by rcases hM with e | e | e <;> omega
  obtain ⟨t', order, e, hp, T, q1, q2, q3, q4⟩ := relaid_ok t (hs := es.map (·.1)) (wanted := want) (M := M) (by rw [hw]; rfl) hM (by rw [Array.size_map, sz]; omega)
  rw [Array.size_map, sz] at hp
  obtain ⟨L2, r1, r2, r3⟩ := pick_rows hr hp
  rw [← r3] at T
  have s2 : (order.filterMap (es[·]?)).size = es.size := by rw [← Array.length_toList, r1, rowsK_length, r2.length_eq, sz]
  rw [setRelay_eq]
  refine wpAny_bind (wpAny_setState_of ho hd (fits_of hz hdm hm) ?_)
  dsimp only
  rw [if_neg (by rw [hw, sizeLine_eq]; omega), e]
  dsimp only
  refine wpAny_bind ?_
  rw [if_neg (by rw [s2]; simp)]
  refine wpAny_pure ?_
  dsimp only
  refine wpAny_storeSet_of ho hd ?_ (by rw [s2, sz, sizeLine_eq]; omega)
  have sb : Heap.SameBut a s.heap (s.heap.update a (Obj.putSet (order.filterMap (es[·]?)) t')) := Heap.SameBut.update ..
  exact hQ _ L2 _ (ep + 1) t' sb ⟨⟨_, store_at ho hd, ⟨hex.1, hex.2.1, hex.2.2⟩, rfl⟩, r1, T, (r2.map (·.2)).nodup_iff.mpr nd, fun p m => (ks p (r2.mem_iff.mp m)).same ho hd sb, by rw [q3]; exact pl, by rw [q2]; exact ld, by rw [r2.length_eq, q1]; exact hn⟩ r2
/-- one more -/
theorem add_key (R : SetN w s.heap a L es ep t) {x : Addr} {k : NestedKey} (hx : IsK s.heap k x) (hu : A.units + 8 < cLine) (few : L.length + 1 ≤ 76) {Q : Bool → Shared → Prop}
    (hQ : ∀ b h' L' es' ep' t', Heap.SameBut a s.heap h' → SetN w h' a L' es' ep' t' → (k ∈ L.map (·.2) → L' = L) → (k ∉ L.map (·.2) → L'.Perm ((x, k) :: L)) → Q b { s with heap := h' }) : wpAny (model P w) A (setAddHashed a (.ref x) (hK w k)) Q E s := by
  obtain ⟨o, ho, hex, hd⟩ := R.obj
  have sz := R.size
  have rm := R.room
  unfold setAddHashed
  refine wpAny_holding ?_
  rw [show (100000 : Nat) = 99999 + 1 from rfl, setAddHashedIn_succ]
  refine wpAny_bind (wpAny_setState_of ho hd R.fits ?_)
  dsimp only
  rw [if_neg (by simp [byScan, Value.scannable])]
  refine wpAny_bind (find_at R hx hu (fun m => ?_) fun K m h1 h2 => ?_)
  · exact wpAny_pure (hQ false s.heap L es ep t (Heap.SameBut.refl a s.heap) R (fun _ => rfl) fun z => absurd m z)
  · dsimp only
    refine wpAny_bind (wpAny_setState_of ho hd R.fits ?_)
    dsimp only
    obtain ⟨q1, q2, q3, q4, q5, q6, q7, q8, q9⟩ := R.tab.put h1 h2
    generalize t.put (way t.mask (hK w k) K) = pt at q1 q3 q4 q5 q6 q7 q8 q9 ⊢
    obtain ⟨t1, p⟩ := pt
    dsimp only at q1 q3 q4 q5 q6 q7 q8 q9 ⊢
    rw [← q1] at q2 q3
    have pl : t1.plain = true := q6.trans R.plain
    have ld : w.params.followText "set-order" = true ∨ t1.led = true := by rw [q5]; exact R.led
    rw [if_pos pl]
    refine wpAny_bind (byVal_key k _ 8 s hx.1 hx.2.1 hx.2.2 _ _ _ ?_)
    rw [if_pos rfl]
    have pm := put_perm L p (x, k)
    have ins : (SetTable.insertAt es p (hK w k, Value.ref x)).toList = rowsK w (L.take p ++ (x, k) :: L.drop p) := by
      rw [SetTable.toList_insertAt, R.rows, rowsK, rowsK, List.map_append, List.map_cons, List.map_take, List.map_drop]
    have hs1 : hsK w (L.take p ++ (x, k) :: L.drop p) = (hsK w L).take p ++ hK w k :: (hsK w L).drop p := by
      show List.map _ _ = _
      rw [List.map_append, List.map_cons, List.map_take, List.map_drop]
    rw [← hs1] at q3
    generalize L.take p ++ (x, k) :: L.drop p = L1 at pm ins hs1 q3
    have len1 : L1.length = L.length + 1 := pm.length_eq
    generalize SetTable.insertAt es p (hK w k, Value.ref x) = es1 at ins ⊢
    have sz1 : es1.size = L.length + 1 := by rw [← Array.length_toList, ins, rowsK_length, len1]
    have nd1 : (L1.map (·.2)).Nodup := (pm.map (·.2)).nodup_iff.mpr (List.nodup_cons.mpr ⟨m, R.nd⟩)
    have hfull : t1.fill = L.length + 1 := by rw [q9, List.length_map]
    refine wpAny_bind (wpAny_storeSet_of ho hd ?_ (by rw [sz1, sizeLine_eq]; omega))
    have sb : Heap.SameBut a s.heap (s.heap.update a (Obj.putSet es1 t1)) := Heap.SameBut.update ..
    have ho1 := store_at (es' := es1) (t' := t1) ho hd
    generalize s.heap.update a (Obj.putSet es1 t1) = h1 at sb ho1 ⊢
    have keys1 : ∀ p ∈ L1, IsK h1 p.2 p.1 := fun p mp => by
      rcases List.mem_cons.mp (pm.mem_iff.mp mp) with rfl | mp
      · exact hx.same ho hd sb
      · exact (R.keys p mp).same ho hd sb
    by_cases full : t1.tooFull = true
    · have bound : t1.mask * 3 ≤ (L.length + 1) * 5 := by
        unfold SetTable.tooFull at full
        rw [decide_eq_true_eq, hfull] at full
        exact full
      have psz : t1.place.size = es1.size := by rw [q3.sz, List.length_map, len1, sz1]
      have two : (t.mask = 7 ∧ L.length = 4) ∨ (t.mask = 31 ∧ L.length = 18) := by
        rw [q4] at bound
        rcases R.tab.mok with e | e | e
        · exact .inl ⟨e, by omega⟩
        · exact .inr ⟨e, by omega⟩
        · omega
      have step : ∀ M, MaskOk M → SetTable.sizeAbove (SetTable.grown (L.length + 1)) = M + 1 → (L.length + 1) * 5 < M * 3 → wpAny (model P w) A (setRelay a (SetTable.grown (L.length + 1))) (fun _ s' => wpAny (model P w) A (pure true) Q E s') E { s with heap := h1 } := fun M g1 g2 g3 =>
        relay_key (s := { s with heap := h1 }) ho1 ⟨hex.1, hex.2.1, hex.2.2⟩ rfl ins psz q3.dm (by rw [sz1, q4]; omega) nd1 keys1 pl ld g2 g1 (by rw [len1]; exact g3) fun h2 L2 es2 ep2 t2 sb2 R2 pm2 =>
          wpAny_pure (hQ true h2 L2 es2 ep2 t2 (sb.trans sb2) R2 (fun z => absurd z m) fun _ => pm2.trans pm)
      rw [if_pos (by simp [full]), sz]
      refine wpAny_bind ?_
      rcases two with ⟨_, e⟩ | ⟨_, e⟩
      · exact step 31 (.inr (.inl rfl)) (by rw [e, size_20]) (by omega)
      · exact step 127 (.inr (.inr rfl)) (by rw [e, size_76]) (by omega)
    · rw [if_neg (by simp [full])]
      refine wpAny_pure (hQ true h1 L1 es1 (ep + 1) t1 sb ⟨⟨_, ho1, ⟨hex.1, hex.2.1, hex.2.2⟩, rfl⟩, ins, q3, nd1, keys1, pl, ld, ?_⟩ (fun z => absurd z m) fun _ => pm)
      unfold SetTable.tooFull at full
      rw [decide_eq_true_eq, hfull] at full
      rw [len1]
      omega
end
end DS
/-! Sets of nested tuples, part d: set(xs). -/
namespace DS
open PySem PySem.Spec PyProof.Rows L2
/-- the set at S has what the first i of ks give -/
structure Has (w : World) (h : Heap) (S : Addr) (ks : Rows) (i : Nat) (L : Rows) : Prop where
  ex : ∃ es ep t, SetN w h S L es ep t
  sub : ∀ p ∈ L, p ∈ ks.take i
  all : ∀ p ∈ ks.take i, p.2 ∈ L.map (·.2)
  len : L.length ≤ i
theorem take_one {α : Type} {l : List α} {i : Nat} {x : α} (h : l[i]? = some x) : l.take (i + 1) = l.take i ++ [x] := by
  rw [List.take_add_one, h]
  rfl
theorem Has.keep {w : World} {h h' : Heap} {S : Addr} {ks L : Rows} {i : Nat} (g : Has w h S ks i L) (hS : ∀ o, h.get? S = some o → h'.get? S = some o) (hk : ∀ p ∈ ks, IsK h' p.2 p.1) : Has w h' S ks i L := by
  obtain ⟨es, ep, t, R⟩ := g.ex
  obtain ⟨o, ho, r⟩ := R.obj
  exact ⟨⟨es, ep, t, ⟨o, hS o ho, r⟩, R.rows, R.tab, R.nd, fun p m => hk p (List.mem_of_mem_take (g.sub p m)), R.plain, R.led, R.room⟩, g.sub, g.all, g.len⟩
theorem Has.next {w : World} {h h' : Heap} {S : Addr} {ks L L' : Rows} {i : Nat} {x : Addr × NestedKey} {es : Array (Int × Value)} {ep : Nat} {t : SetTable} (g : Has w h S ks i L) (hx : ks[i]? = some x) (R : SetN w h' S L' es ep t)
    (c1 : x.2 ∈ L.map (·.2) → L' = L) (c2 : x.2 ∉ L.map (·.2) → L'.Perm ((x.1, x.2) :: L)) : Has w h' S ks (i + 1) L' := by
  rw [show (x.1, x.2) = x from rfl] at c2
  have tk := take_one hx
  by_cases c : x.2 ∈ L.map (·.2)
  · rw [c1 c] at R ⊢
    refine ⟨⟨es, ep, t, R⟩, fun p m => ?_, fun p m => ?_, Nat.le_succ_of_le g.len⟩
    · rw [tk]
      exact List.mem_append_left _ (g.sub p m)
    · rw [tk] at m
      rcases List.mem_append.mp m with m | m
      · exact g.all p m
      · rw [List.mem_singleton.mp m]
        exact c
  · have pm := c2 c
    refine ⟨⟨es, ep, t, R⟩, fun p m => ?_, fun p m => ?_, by rw [pm.length_eq]; exact Nat.succ_le_succ g.len⟩
    · rw [tk]
      rcases List.mem_cons.mp (pm.mem_iff.mp m) with rfl | m
      · exact List.mem_append_right _ (List.mem_singleton.mpr rfl)
      · exact List.mem_append_left _ (g.sub p m)
    · rw [(pm.map (·.2)).mem_iff]
      rw [tk] at m
      rcases List.mem_append.mp m with m | m
      · exact List.mem_cons_of_mem _ (g.all p m)
      · rw [List.mem_singleton.mp m]
        exact List.mem_cons_self
section
variable {P : Program} {w : World} {A : Around} {E : Value → Shared → Prop} {s : Shared}
/-- the loop that fills the set -/
theorem fill_loop {I S : Addr} {fp mv : List Addr} {G : Array GenState → Array GenState → Prop} {n : Nat} {Pv : Nat → Value → Prop} {St : Nat → Shared → Prop} {R : Result → Shared → Prop} (W : WalksS P w A.in1 I fp mv G n Pv St) (nS : S ∉ fp) {ks : Rows} (hn : n = ks.length)
    (few : ks.length ≤ 76) (val : ∀ i v, Pv i v → ∃ p, ks[i]? = some p ∧ v = .ref p.1) {h0 : Heap} (hk : ∀ p ∈ ks, IsK h0 p.2 p.1) (hS0 : h0.get? S = none) (hmv : ∀ b ∈ mv, h0.get? b = none) (hu : A.in1.units + 8 < cLine) :
    ∀ (m i : Nat) (s : Shared), n - i = m → i ≤ n → St i s → (∀ b o, h0.get? b = some o → s.heap.get? b = some o) → (∃ L, Has w s.heap S ks i L) →
      (∀ s' L, Moved (S :: mv) G s s' → Has w s'.heap S ks n L → (∀ b o, h0.get? b = some o → s'.heap.get? b = some o) → R (.ok (.ret .none)) s') → codeAny (model P w) A (.builtin "set.update.loop" ⟨[.ref S, .ref I], []⟩) R s := by
  have nm : S ∉ mv := fun h => nS (W.sub _ h)
  have up : ∀ b ∈ mv, b ∈ S :: mv := fun b hb => List.mem_cons_of_mem _ hb
  have stay : ∀ {s s' : Shared}, Moved mv G s s' → (∀ b o, h0.get? b = some o → s.heap.get? b = some o) → ∀ b o, h0.get? b = some o → s'.heap.get? b = some o := fun mo k b o e =>
    mo.heap b o (fun hb => by rw [hmv b hb] at e; cases e) (k b o e)
  have key : ∀ {s' : Shared}, (∀ b o, h0.get? b = some o → s'.heap.get? b = some o) → ∀ p ∈ ks, IsK s'.heap p.2 p.1 := fun k p hp => (hk p hp).keep fun b o _ _ e _ => k b o e
  intro m
  induction m with
  | zero =>
    intro i s em hi st k ⟨L, g⟩ hR
    obtain rfl : i = n := by omega
    refine codeAny_builtin F.entry_set_update_loop ?_
    rw [Around.under_plainId F.plain_set_update_loop _]
    refine wpAny_bind (W.done s _ _ st fun s' mo => ?_)
    have k' := stay mo k
    exact wpAny_pure (hR s' L (mo.mono up) (g.keep (fun o e => mo.heap S o nm e) (key k')) k')
  | succ m ih =>
    intro i s em hi st k ⟨L, g⟩ hR
    have lt : i < n := by omega
    refine codeAny_builtin F.entry_set_update_loop ?_
    rw [Around.under_plainId F.plain_set_update_loop _]
    refine wpAny_bind (W.item i s _ _ lt st fun v s' hP st' mo => ?_)
    obtain ⟨p, hp, rfl⟩ := val i v hP
    have k' := stay mo k
    have g' : Has w s'.heap S ks i L := g.keep (fun o e => mo.heap S o nm e) (key k')
    have hx := key k' p (List.mem_of_getElem? hp)
    refine wpAny_bind (wpAny_holding ?_)
    unfold setAdd
    refine wpAny_holding ?_
    refine wpAny_bind ((nestedKind P w).pyHash hu ⟨hx.1, hx.2.1⟩ ?_)
    obtain ⟨es, ep, t, R0⟩ := g'.ex
    refine add_key (s := { s' with toks := s'.toks + (nestedKind P w).draws p.2 }) R0 hx hu (by have := g.len; omega) fun b h' L' es' ep' t' sb R1 c1 c2 => ?_
    have k2 : ∀ b o, h0.get? b = some o → h'.get? b = some o := fun b o e => (sb.2 b fun z => by rw [z, hS0] at e; cases e).trans (k' b o e)
    refine wpAny_pure ⟨plainId_quiet F.plain_set_update_loop _, ih (i + 1) _ (by omega) lt (W.frame _ s' _ _ st' (Nat.le_add_right _ _) fun b hb o e => ?_) k2 ⟨L', g'.next hp R1 c1 c2⟩ fun s2 L2 mo2 g2 k3 => ?_⟩
    · rw [sb.2 b fun z : b = S => nS (z ▸ hb)]
      exact e
    · refine hR s2 L2 (Moved.trans W.gtrans ((mo.mono up).then_heap (Nat.le_add_right _ _) fun b o hb e => ?_) mo2) g2 k3
      rw [sb.2 b fun z : b = S => hb (z ▸ List.mem_cons_self)]
      exact e
end
end DS
set_option Elab.async false
set_option linter.all false
set_option maxRecDepth 100000
set_option maxHeartbeats 8000000
/-! Sets of nested tuples, part e: the call set(xs), xs a tuple or a list. -/
namespace DS
open PySem PySem.Spec PyProof.Rows L2
section
variable {P : Program} {w : World} {A : Around} {E : Value → Shared → Prop} {s : Shared}
/-- a new, empty set behind all that is there -/
abbrev mt (w : World) (h : Heap) : Heap := h.push { cls := .type "set", dict := none, data := .set #[] 0 (.fresh 0 0 (!w.params.followText "set-order")) }
theorem none_new {h : Heap} {b : Addr} (hb : h.objs.size ≤ b) : h.get? b = none := by
  cases q : h.get? b with
  | none => rfl
  | some o => exact absurd (Nat.lt_of_lt_of_le (Heap.lt_size q) hb) (Nat.lt_irrefl _)
/-- what the iterable must be: its type, its iterator, the items -/
theorem call_setK {l : Addr} {items : Array Value} (tup : Bool) {ks : Rows} {Q : Value → Shared → Prop} (hh : A.handled = none) (hl : if tup = true then s.heap.IsTuple l items else s.heap.IsList l items) (hit : items.toList = ks.map fun p => Value.ref p.1)
    (hk : ∀ p ∈ ks, IsK s.heap p.2 p.1) (few : ks.length ≤ 76) (hu : A.units + 11 < cLine)
    (h : ∀ (h' : Heap) (tk : Nat) L, Has w h' s.heap.objs.size ks ks.length L → (∀ b o, s.heap.get? b = some o → h'.get? b = some o) → Q (.ref s.heap.objs.size) { s with heap := h', toks := tk }) :
    wpAny (model P w) A (call (.type "set") [.ref l]) Q E s := by
  have isz : items.size = ks.length := by rw [← Array.length_toList, hit, List.length_map]
  obtain ⟨c, tl, hmro⟩ := F.called_set.mro
  have hmade := F.called_set.made
  have hsub := F.called_set.sub
  refine wpAny_call (codeAny_of_tree ?_)
  show wpAny _ _ (callAny (.type "set") _) _ _ _
  refine wpAny_pure ⟨Code.quiet_builtin _ (by decide +kernel), codeAny_builtin F.entry_type_call ?_⟩
  rw [Around.under_plain (weight_type_call_type "set" [.ref l] []) rfl]
  have h1 := F.called_set.notType
  have h2 := F.called_set.canCreate
  have hct := F.typeCall_set_1 (.ref l)
  repeat any_goals first | assumption | wp_step
  refine codeAny_mono (code_set_led1 (.ref l) (E := E) (Q₁ := fun x s1 => x = .ref s.heap.objs.size ∧ s1 = { s with heap := mt w s.heap }) ⟨rfl, rfl⟩) fun r s1 hr => ?_
  cases r with
  | error e => exact hr
  | ok fl =>
    cases fl with
    | ret obj =>
      obtain ⟨rfl, rfl⟩ := hr
      have hS : (mt w s.heap).get? s.heap.objs.size = some _ := Heap.get?_push_size _ rfl
      have hT : Shared.TypeIs { s with heap := mt w s.heap } (.ref s.heap.objs.size) "set" := ⟨_, hS, rfl⟩
      have hli := F.called_set.init.lookup
      have hbi := F.called_set.init.bind (.ref s.heap.objs.size)
      repeat any_goals first | assumption | wp_step
      refine codeAny_mono (codeAny_call_builtin (R := wants (fun r s2 => r = .none ∧ ∃ h' tk L, s2 = { s with heap := h', toks := tk } ∧ Has w h' s.heap.objs.size ks ks.length L ∧ ∀ b o, s.heap.get? b = some o → h'.get? b = some o) E) F.called_set.init.plain F.entry_set_init (check_set_init_1 hT ?_)) fun r2 s2 hr2 => ?_
      · have val : ∀ (i : Nat) (v : Value), items[i]? = some v → ∃ p, ks[i]? = some p ∧ v = .ref p.1 := fun i v hv => by
          have q : items.toList[i]? = some v := by rw [Array.getElem?_toList]; exact hv
          rw [hit, List.getElem?_map] at q
          obtain ⟨p, hp, rfl⟩ := Option.map_eq_some_iff.mp q
          exact ⟨p, hp, rfl⟩
        have hh3 : A.in1.in1.in1.handled = none := by simp [hh]
        have go : ∀ {h2 : Heap} {I : Addr} {St : Nat → Heap → Prop}, Walks P w A.in1.in1.in1 I [I, l] [I] items.size (fun i v => items[i]? = some v) St → I = s.heap.objs.size + 1 → St 0 h2 → (∀ b o, (mt w s.heap).get? b = some o → h2.get? b = some o) →
            codeAny (model P w) A.in1.in1 (.builtin "set.update.loop" ⟨[.ref s.heap.objs.size, .ref I], []⟩) (fun r s2 => r = .ok (.ret .none) ∧ ∃ h' tk L, s2 = { s with heap := h', toks := tk } ∧ Has w h' s.heap.objs.size ks ks.length L ∧ ∀ b o, s.heap.get? b = some o → h'.get? b = some o) { s with heap := h2 } := by
          intro h2 I St W eI st k
          have lt : l < s.heap.objs.size := by
            cases tup with
            | true =>
              obtain ⟨_, e, _⟩ := hl
              exact Heap.lt_size e
            | false =>
              obtain ⟨_, e, _⟩ := hl
              exact Heap.lt_size e
          refine fill_loop W.toS (fun m => by
            rcases List.mem_cons.mp m with z | z
            · exact absurd (z.trans eI) (Nat.ne_of_lt (Nat.lt_succ_self _))
            · exact absurd (List.mem_singleton.mp z) (Nat.ne_of_gt lt)) isz few val hk (none_new (Nat.le_refl _)) (fun b hb => none_new (by rw [List.mem_singleton.mp hb, eI]; omega)) (by show A.units + 3 + 8 < cLine; omega) (items.size - 0) 0 _ (by omega) (Nat.zero_le _) st (fun b o e => k b o (Heap.get?_push_of_some _ e)) ⟨[], ⟨_, _, _, SetN.fresh (k _ _ hS)⟩, (fun _ z => nomatch z), (fun _ z => by simp at z), Nat.le_refl _⟩ ?_
          intro s' L mo g k2
          obtain ⟨h', g2, d', tk', os'⟩ := s'
          have e1 : g2 = s.gens := mo.gens
          have e2 : d' = s.drawn := mo.drawn
          have e3 : os' = s.os := mo.os
          subst e1 e2 e3
          rw [isz] at g
          exact ⟨rfl, h', tk', L, rfl, g, k2⟩
        have hz : (mt w s.heap).objs.size = s.heap.objs.size + 1 := Heap.size_push ..
        unfold Builtin.«set.__init__» noKeywords Builtin.Frozenset.updateFrom
        cases tup with
        | true =>
          obtain ⟨ol, hol, hcl, nl, hdl⟩ := hl
          obtain ⟨ocls, odict, odata, oslots⟩ := ol
          simp only at hcl hdl
          subst hcl hdl
          have hol2 : (mt w s.heap).get? l = some { cls := .type "tuple", dict := odict, data := .seq items nl, slots := oslots } := Heap.get?_push_of_some _ hol
          have hsls := F.sub_tuple_set
          have hslf := F.sub_tuple_frozenset
          have hne : (Value.type "tuple" == Value.type "dict") = false := by decide
          have il : (mt w s.heap).IsTuple l items := ⟨_, hol2, rfl, nl, rfl⟩
          generalize hPI : pyIter = PI
          wp_walk
          subst hPI
          refine wpAny_pyIter_tuple il ?_
          refine wpAny_bind (wpAny_runValue ?_)
          have neI : l ≠ (mt w s.heap).objs.size := by
            rw [hz]
            exact Nat.ne_of_lt (Nat.lt_succ_of_lt (Heap.lt_size hol))
          refine codeAny_mono (go (Walks.tuple hh3 _ l neI items) hz ⟨⟨_, Heap.get?_push_size _ rfl, rfl, rfl⟩, il.push _⟩ fun b o e => Heap.get?_push_of_some _ e) fun r s2 hr => ?_
          obtain ⟨rfl, h', tk, L, rfl, g, k⟩ := hr
          show wpAny _ _ _ _ _ _
          refine wpAny_pure ?_
          show wpAny _ _ (ret Value.none) _ _ _
          exact wpAny_pure ⟨rfl, h', tk, L, rfl, g, k⟩
        | false =>
          obtain ⟨ol, hol, hcl, nl, hdl⟩ := hl
          obtain ⟨ocls, odict, odata, oslots⟩ := ol
          simp only at hcl hdl
          subst hcl hdl
          have hol2 : (mt w s.heap).get? l = some { cls := .type "list", dict := odict, data := .seq items nl, slots := oslots } := Heap.get?_push_of_some _ hol
          have hsls := F.sub_list_set
          have hslf := F.sub_list_frozenset
          have hne : (Value.type "list" == Value.type "dict") = false := by decide
          have il : (mt w s.heap).IsList l items := ⟨_, hol2, rfl, nl, rfl⟩
          generalize hPI : pyIter = PI
          wp_walk
          subst hPI
          refine wpAny_pyIter_list il ?_
          refine wpAny_bind (wpAny_runValue ?_)
          have neI : l ≠ (mt w s.heap).objs.size := by
            rw [hz]
            exact Nat.ne_of_lt (Nat.lt_succ_of_lt (Heap.lt_size hol))
          refine codeAny_mono (go (Walks.list hh3 _ l neI items) hz ⟨⟨_, Heap.get?_push_size _ rfl, rfl, rfl⟩, il.push _⟩ fun b o e => Heap.get?_push_of_some _ e) fun r s2 hr => ?_
          obtain ⟨rfl, h', tk, L, rfl, g, k⟩ := hr
          show wpAny _ _ _ _ _ _
          refine wpAny_pure ?_
          show wpAny _ _ (ret Value.none) _ _ _
          exact wpAny_pure ⟨rfl, h', tk, L, rfl, g, k⟩
      · cases r2 with
        | error e => exact hr2
        | ok fl2 =>
          cases fl2 with
          | ret r =>
            obtain ⟨rfl, h', tk, L, rfl, g, k⟩ := hr2
            repeat any_goals first | assumption | wp_step
            exact h _ _ _ g k
          | _ => exact hr2.elim
    | _ => exact hr.elim
end
end DS
set_option Elab.async false
set_option linter.all false
set_option maxRecDepth 100000
set_option maxHeartbeats 4000000
/-! Sets of nested tuples, part f: data as keys; len(set(xs)). -/
namespace DR
open PySem PySem.Spec PyProof.Rows L2
open DS (plainK plainKs IsK SetN)
mutual
def keyD : D → NestedKey
  | .none => .none
  | .int i => .num i
  | .tuple ds => .tup (keyDs ds)
  | _ => .none
def keyDs : List D → List NestedKey
  | [] => []
  | d :: r => keyD d :: keyDs r
end
theorem keyDs_map : ∀ ds : List D, keyDs ds = ds.map keyD
  | [] => rfl
  | d :: r => by rw [keyDs, keyDs_map r]; rfl
theorem nested_of {h : Heap} : ∀ (n : Nat) (d : D) (v : Value) (as : List Addr), keyOk n d = true → Reads h v d as → NestedIs h (keyD d) v ∧ (keyD d).depth ≤ n ∧ plainK (keyD d) = true := by
  have list : ∀ (n : Nat), (∀ (d : D) (v : Value) (as : List Addr), keyOk n d = true → Reads h v d as → NestedIs h (keyD d) v ∧ (keyD d).depth ≤ n ∧ plainK (keyD d) = true) →
      ∀ (ds : List D) (vs : List Value) (as : List Addr), ds.all (keyOk n) = true → ReadsAll h vs ds as → NestedAll h (keyDs ds) vs ∧ NestedKey.depthAll (keyDs ds) ≤ n ∧ plainKs (keyDs ds) = true := by
    intro n one ds
    induction ds with
    | nil =>
      intro vs as _ r
      cases r
      exact ⟨.nil, Nat.zero_le _, rfl⟩
    | cons d ds ih =>
      intro vs as k r
      rw [List.all_cons, Bool.and_eq_true] at k
      cases r with
      | cons a t =>
        obtain ⟨a1, a2, a3⟩ := one d _ _ k.1 a
        obtain ⟨b1, b2, b3⟩ := ih _ _ k.2 t
        exact ⟨.cons a1 b1, by simp only [keyDs, NestedKey.depthAll]; omega, by simp only [keyDs, plainKs, a3, b3, Bool.and_self]⟩
  intro n
  induction n with
  | zero =>
    intro d v as k r
    cases r with
    | none => exact ⟨.none, Nat.zero_le _, rfl⟩
    | int i t => exact ⟨.int i t, Nat.zero_le _, rfl⟩
    | _ => cases k
  | succ n ih =>
    intro d v as k r
    cases r with
    | none => exact ⟨.none, Nat.zero_le _, rfl⟩
    | int i t => exact ⟨.int i t, Nat.zero_le _, rfl⟩
    | tuple ho hc hd ra =>
      obtain ⟨b1, b2, b3⟩ := list n ih _ _ _ k ra
      exact ⟨.tup ho hc hd b1, by simp only [keyD, NestedKey.depth]; omega, by simpa only [keyD, plainK] using b3⟩
    | _ => cases k
/-- keys that are data of this kind are told apart as data -/
theorem keyD_inj : ∀ (n : Nat) (d e : D), keyOk n d = true → keyOk n e = true → keyD d = keyD e → d = e := by
  have list : ∀ (n : Nat), (∀ d e : D, keyOk n d = true → keyOk n e = true → keyD d = keyD e → d = e) → ∀ ds es : List D, ds.all (keyOk n) = true → es.all (keyOk n) = true → keyDs ds = keyDs es → ds = es := by
    intro n one ds
    induction ds with
    | nil =>
      intro es _ _ q
      cases es with
      | nil => rfl
      | cons e es => simp [keyDs] at q
    | cons d ds ih =>
      intro es k1 k2 q
      cases es with
      | nil => simp [keyDs] at q
      | cons e es =>
        rw [List.all_cons, Bool.and_eq_true] at k1 k2
        simp only [keyDs, List.cons.injEq] at q
        rw [one d e k1.1 k2.1 q.1, ih es k1.2 k2.2 q.2]
  intro n
  induction n with
  | zero =>
    intro d e k1 k2 q
    cases d <;> cases e <;> simp_all [keyOk, keyD]
  | succ n ih =>
    intro d e k1 k2 q
    cases d <;> cases e <;> simp [keyOk] at k1 k2 <;> simp [keyD] at q
    · rfl
    · rw [q]
    · rw [list n ih _ _ (by simpa using k1) (by simpa using k2) q]
theorem eqv_key : ∀ (n : Nat) (d e : D), keyOk n d = true → keyOk n e = true → (PyData.eqv d e = true ↔ d = e) := by
  have list : ∀ (n : Nat), (∀ d e : D, keyOk n d = true → keyOk n e = true → (PyData.eqv d e = true ↔ d = e)) → ∀ ds es : List D, ds.all (keyOk n) = true → es.all (keyOk n) = true → (PyData.eqvAll ds es = true ↔ ds = es) := by
    intro n one ds
    induction ds with
    | nil =>
      intro es _ _
      cases es <;> simp [PyData.eqvAll]
    | cons d ds ih =>
      intro es k1 k2
      cases es with
      | nil => simp [PyData.eqvAll]
      | cons e es =>
        rw [List.all_cons, Bool.and_eq_true] at k1 k2
        rw [PyData.eqvAll, Bool.and_eq_true, one d e k1.1 k2.1, ih es k1.2 k2.2, List.cons.injEq]
  intro n
  induction n with
  | zero =>
    intro d e k1 k2
    cases d <;> cases e <;> simp_all [keyOk, PyData.eqv]
  | succ n ih =>
    intro d e k1 k2
    cases d <;> cases e <;> simp [keyOk] at k1 k2 <;> simp [PyData.eqv]
    exact list n ih _ _ (by simpa using k1) (by simpa using k2)
theorem mem_dedup {n : Nat} : ∀ {ds : List D}, ds.all (keyOk n) = true → ∀ x, x ∈ dedup ds ↔ x ∈ ds
  | [], _, x => Iff.rfl
  | d :: r, h, x => by
    rw [List.all_cons, Bool.and_eq_true] at h
    rw [dedup, List.mem_cons, List.mem_cons, List.mem_filter, mem_dedup h.2]
    constructor
    · rintro (q | ⟨q, _⟩)
      · exact .inl q
      · exact .inr q
    · rintro (q | q)
      · exact .inl q
      · by_cases z : x = d
        · exact .inl z
        · refine .inr ⟨q, ?_⟩
          have kx := List.all_eq_true.mp h.2 x q
          cases w : PyData.eqv d x with
          | false => rfl
          | true => exact absurd ((eqv_key n d x h.1 kx).mp w).symm z
theorem nodup_dedup {n : Nat} : ∀ {ds : List D}, ds.all (keyOk n) = true → (dedup ds).Nodup
  | [], _ => List.nodup_nil
  | d :: r, h => by
    rw [List.all_cons, Bool.and_eq_true] at h
    rw [dedup, List.nodup_cons]
    refine ⟨fun m => ?_, (nodup_dedup h.2).filter _⟩
    obtain ⟨_, q⟩ := List.mem_filter.mp m
    rw [(eqv_key n d d h.1 h.1).mpr rfl] at q
    cases q
/-- the rows of a set's table, and the different ones -/
theorem rows_perm {n : Nat} {ds : List D} {ks L : DS.Rows} (hk : ds.all (keyOk n) = true) (hm : ks.map (·.2) = ds.map keyD) (nd : (L.map (·.2)).Nodup) (sub : ∀ p ∈ L, p ∈ ks) (all : ∀ p ∈ ks, p.2 ∈ L.map (·.2)) : (L.map (·.2)).Perm ((dedup ds).map keyD) := by
  have inj : ∀ x ∈ dedup ds, ∀ y ∈ dedup ds, keyD x = keyD y → x = y := fun x hx y hy e =>
    keyD_inj n x y (List.all_eq_true.mp hk x ((mem_dedup hk x).mp hx)) (List.all_eq_true.mp hk y ((mem_dedup hk y).mp hy)) e
  have n2 : ((dedup ds).map keyD).Nodup := by
    have nd := nodup_dedup hk
    unfold List.Nodup at nd ⊢
    rw [List.pairwise_map]
    exact nd.imp_of_mem fun {x y} hx hy q e => q (inj x hx y hy e)
  refine (List.perm_ext_iff_of_nodup nd n2).mpr fun k => ?_
  constructor
  · intro m
    obtain ⟨p, hp, rfl⟩ := List.mem_map.mp m
    have : p.2 ∈ ds.map keyD := by
      rw [← hm]
      exact List.mem_map.mpr ⟨p, sub p hp, rfl⟩
    obtain ⟨d, hd, e⟩ := List.mem_map.mp this
    exact List.mem_map.mpr ⟨d, (mem_dedup hk d).mpr hd, e⟩
  · intro m
    obtain ⟨d, hd, rfl⟩ := List.mem_map.mp m
    have : keyD d ∈ ks.map (·.2) := by
      rw [hm]
      exact List.mem_map.mpr ⟨d, (mem_dedup hk d).mp hd, rfl⟩
    obtain ⟨p, hp, e⟩ := List.mem_map.mp this
    rw [← e]
    exact all p hp
/-- tuples in the heap, as rows -/
theorem rows_of {h : Heap} : ∀ {ds : List D} {vs : List Value} {as : List Addr}, ds.all (fun x => isTup x && keyOk 8 x) = true → ReadsAll h vs ds as →
    ∃ ks : DS.Rows, vs = ks.map (fun p => Value.ref p.1) ∧ ks.map (·.2) = ds.map keyD ∧ ∀ p ∈ ks, IsK h p.2 p.1
  | [], _, _, _, r => by
    cases r
    exact ⟨[], rfl, rfl, fun _ m => nomatch m⟩
  | d :: ds, _, _, k, r => by
    rw [List.all_cons, Bool.and_eq_true, Bool.and_eq_true] at k
    cases r with
    | cons a t =>
      obtain ⟨ks, e1, e2, e3⟩ := rows_of k.2 t
      obtain ⟨q1, q2, q3⟩ := nested_of 8 d _ _ k.1.2 a
      cases a with
      | tuple ho hc hd ra =>
        rename_i b _ _ _ _
        refine ⟨(b, keyD (.tuple _)) :: ks, by rw [e1]; rfl, by rw [List.map_cons, List.map_cons, e2], fun p m => ?_⟩
        rcases List.mem_cons.mp m with rfl | m
        · exact ⟨q1, q2, q3⟩
        · exact e3 p m
      | _ => cases k.1.1
section
variable {X : Cx} {pins : List (Addr × Obj)} {σ : L2.St} {H : Hp} {s : Shared}
theorem setL_inv {d : D} {ys : List D} (e : setL d = some ys) : ∃ ds, (d = .list ds ∨ d = .tuple ds) ∧ ds.all (fun x => isTup x && keyOk 8 x) = true ∧ ds.length ≤ 76 ∧ ys = dedup ds := by
  unfold setL at e
  cases d <;> simp [itemsOf] at e
  · exact ⟨_, .inl rfl, by simpa using e.1.1, e.1.2, e.2.symm⟩
  · exact ⟨_, .inr rfl, by simpa using e.1.1, e.1.2, e.2.symm⟩
/-- set(xs): a table with the different ones; what was there stays -/
theorem made_set (hc : X.calm = true) (hu : X.A.units + 68 < cLine) (I : Inv X pins σ H s) {v : V} {u : Value} {d : D} {ys : List D} {Q : Value → Shared → Prop} (rv : RelV v u) (hd : Dd X.K H v d) (e : setL d = some ys)
    (h : ∀ (h' : Heap) (tk : Nat) (L : DS.Rows), (∃ es ep t, SetN X.w h' s.heap.objs.size L es ep t) → (L.map (·.2)).Perm (ys.map keyD) → (∀ b o, s.heap.get? b = some o → h'.get? b = some o) → Q (.ref s.heap.objs.size) { s with heap := h', toks := tk }) :
    wpAny (model X.prog X.w) X.A (call (.type "set") [u]) Q X.xe s := by
  obtain ⟨ds, hor, hk, few, rfl⟩ := setL_inv e
  have hk8 : ds.all (keyOk 8) = true := List.all_eq_true.mpr fun x m => (Bool.and_eq_true_iff.mp (List.all_eq_true.mp hk x m)).2
  obtain ⟨a, rfl⟩ : ∃ a, v = .ref a := by
    rcases hor with rfl | rfl
    · obtain ⟨a, _, q, _⟩ := hd.lst_inv
      exact ⟨a, q⟩
    · obtain ⟨a, _, q, _⟩ := hd.tup_inv
      exact ⟨a, q⟩
  obtain rfl : u = .ref a := rv
  obtain ⟨tup, items, as, hl, rds⟩ : ∃ (tup : Bool) (items : Array Value) (as : List Addr), (if tup = true then s.heap.IsTuple a items else s.heap.IsList a items) ∧ ReadsAll s.heap items.toList ds as := by
    rcases hor with rfl | rfl
    · obtain ⟨_, vs, q, t, sd⟩ := hd.lst_inv
      cases q
      obtain ⟨its, rvs, hl, _⟩ := I.list (a := a) (xs := vs) (.inl (.inl t))
      obtain ⟨as, rds⟩ := Dp.readsAll I ds vs its sd.dp rvs
      exact ⟨false, its.toArray, as, hl.isList, rds⟩
    · obtain ⟨_, vs, q, t, sd⟩ := hd.tup_inv
      cases q
      obtain ⟨its, rvs, hl, _⟩ := I.tuple t
      obtain ⟨as, rds⟩ := Dp.readsAll I ds vs its sd.dp rvs
      exact ⟨true, its.toArray, as, hl, rds⟩
  obtain ⟨ks, e1, e2, e3⟩ := rows_of hk rds
  have len : ks.length = ds.length := by
    have := congrArg List.length e2
    simpa using this
  refine DS.call_setK (s := s) tup (I.ok.hd hc) hl e1 e3 (by omega) (by omega) fun h' tk L g k => ?_
  have tk0 : ks.take ks.length = ks := List.take_length
  refine h h' tk L g.ex (rows_perm hk8 e2 ?_ (fun p m => ?_) fun p m => ?_) k
  · obtain ⟨es, ep, t, R⟩ := g.ex
    exact R.nd
  · have := g.sub p m
    rwa [tk0] at this
  · have := g.all p
    rw [tk0] at this
    exact this m
theorem k_lenset {c : Ct} {W : WX} {a : Expr} {fa : Env → Res D} {pos p p2 q : Pos} (hK : c.K = X.K) (hc : X.calm = true) (hu : X.A.units + 68 < cLine) (hl : Gl X "len") (hm : X.mg "len" = none) (hl2 : Gl X "set") (hm2 : X.mg "set" = none)
    (ha : PE X a (tD c W fa)) (hp : plainArg a = true) : PE X (.Call (.Name "len" p) [.Call (.Name "set" p2) [a] [] q] [] pos) (tD c W fun ρ => (fa ρ).bind fun x ρ1 => lift (lenSetD x) ρ1) := by
  refine ⟨fun pins s σ H Q I ⟨ρ, O, st, h⟩ => ?_⟩
  refine Call_ (ld_blt I hl hm PySem.boot_len ?_)
  refine PyProof.Rows.callWith_builtin1 (PyProof.Rows.args_cons ?_ rfl) rfl rfl
  refine Call_ (ld_blt I hl2 hm2 PyProof.Rows.boot_set ?_)
  have hr : tD c W fa σ H fun x H1 => rD1 X.K lenSetD x H1 Q := ⟨ρ, O, st, h.bind.imp fun x ρ1 H1 O1 p1 s1 h1 v dv => by
    obtain ⟨r, e, out⟩ := h1.out s1
    rw [hK] at dv out
    exact ⟨O1, x, r, s1.hx, dv, e, out⟩⟩
  refine PyProof.Rows.callWith_type1 (PyProof.Rows.args_cons (thn (ha.run pins s σ H _ I hr) fun u s1 ⟨x, H1, I1, r1, O1, d, r, hx, dv, e, out⟩ => PyProof.Rows.args_nil ?_) (star_cons hp)) (star_cons hp) rfl
  obtain ⟨ys, e1, rfl⟩ := Option.map_eq_some_iff.mp e
  refine made_set hc hu I1 r1 dv.real e1 fun h' tk L ⟨es, ep, t, R⟩ pm k => PyProof.Rows.args_nil ?_
  obtain ⟨o, ho, hex, hd⟩ := R.obj
  have n1 := R.size
  have n2 : L.length = ys.length := by
    have := pm.length_eq
    simpa using this
  have n3 : ys.length ≤ 76 := by
    obtain ⟨ds, _, _, few, rfl⟩ := setL_inv e1
    have : ∀ l : List D, (dedup l).length ≤ l.length := by
      intro l
      induction l with
      | nil => exact Nat.le_refl _
      | cons d r ih =>
        rw [dedup, List.length_cons, List.length_cons]
        exact Nat.succ_le_succ (Nat.le_trans (List.length_filter_le _ _) ih)
    have := this ds
    omega
  have I2 : Inv X pins σ H1 { s1 with heap := h', toks := tk } := I1.kept k
  exact call_len_set ho hex hd R.fits (by rw [n1] <;> omega) ⟨.int (ys.length : Nat), H1, I2.tok _, ⟨_, by rw [n1, n2]⟩, out.here (.int _)⟩
end
end DR
/-! enumerate(a tuple); x[::-1]. -/
namespace DR
open PySem PySem.Spec PyProof.Rows L2
open AutoSeq1 (wpAny_loadPart')
theorem new_enumT (a : Addr) (its : Array Value) (m : Nat) (dd : Option Addr) (ss : Array (Option Value)) :
    Meets (Builtin.«enumerate.__new__» ⟨[.type "enumerate", .ref a], []⟩) (fun _ R s => s.heap.get? a = some { cls := .type "tuple", dict := dd, data := .seq its m, slots := ss } ∧
      R (.ok (.ret (.ref (s.heap.push { cls := .type "tuple_iterator", data := .fields #[.ref a, .int 0 0] }).objs.size)))
        { s with heap := (s.heap.push { cls := .type "tuple_iterator", data := .fields #[.ref a, .int 0 0] }).push { cls := .type "enumerate", data := .fields #[.none, .bool false, .ref s.heap.objs.size, rawInt 0, .none, .none] } }) :=
  .of_wp fun P w A R s z => by
    obtain ⟨hp, g, dr, tk, os⟩ := s
    obtain ⟨ha, z⟩ := z
    have hsub := PySem.sub_enumerate
    have hT : Heap.IsTuple (Shared.heap ⟨hp, g, dr, tk, os⟩) a its := ⟨_, ha, rfl, m, rfl⟩
    wp_walk using wpAny_loadPart' ha
    refine wpAny_stack_any fun st => wpAny_pure ?_
    split
    · rename_i c _ _ _ _ _
      cases (c == Value.type "enumerate")
      all_goals wp_walk using wpAny_loadPart' ha, wpAny_pyIter_tuple hT
      all_goals exact ⟨_, rfl, z⟩
    · wp_walk using wpAny_loadPart' ha, wpAny_pyIter_tuple hT
      exact ⟨_, rfl, z⟩
theorem call_enumT {P : Program} {w : World} {A : Around} {E : Value → Shared → Prop} {s : Shared} {a : Addr} {its : Array Value} {Q : Value → Shared → Prop} (ht : s.heap.IsTuple a its)
    (h : ∀ h', IsEnum h' (s.heap.objs.size + 1) s.heap.objs.size 0 .none → h'.IsTupleIter s.heap.objs.size a 0 → (∀ b o, s.heap.get? b = some o → h'.get? b = some o) → Q (.ref (s.heap.objs.size + 1)) { s with heap := h' }) :
    wpAny (model P w) A (call (.type "enumerate") [.ref a]) Q E s := by
  obtain ⟨⟨c, dd, dt, ss⟩, ha, hc, m, hd⟩ := ht
  replace hc : c = .type "tuple" := hc
  replace hd : dt = .seq its m := hd
  subst hc hd
  refine callType_new F.called_enumerate (by decide) (F.typeCall_enumerate_1 _) (F.newCall_enumerate_1 _) (fun obj => F.args_object_init_2 obj _) F.entry_enumerate_new (new_enumT a its m dd ss) ⟨ha, ?_⟩
  have sz : (s.heap.push { cls := .type "tuple_iterator", data := .fields #[.ref a, .int 0 0] }).objs.size = s.heap.objs.size + 1 := Heap.size_push ..
  show _ ∧ _
  rw [sz]
  have he : IsEnum ((s.heap.push { cls := .type "tuple_iterator", data := .fields #[.ref a, .int 0 0] }).push { cls := .type "enumerate", data := .fields #[.none, .bool false, .ref s.heap.objs.size, rawInt 0, .none, .none] }) (s.heap.objs.size + 1) s.heap.objs.size 0 .none := by
    have q := Heap.get?_push_size (s.heap.push { cls := .type "tuple_iterator", data := .fields #[.ref a, .int 0 0] }) (o := { cls := .type "enumerate", data := .fields #[.none, .bool false, .ref s.heap.objs.size, rawInt 0, .none, .none] }) rfl
    rw [sz] at q
    exact q
  exact ⟨⟨_, he, rfl⟩, h _ he ⟨_, Heap.get?_push_of_some _ (Heap.get?_push_size _ rfl), rfl, rfl⟩ fun b o x => Heap.get?_push_of_some _ (Heap.get?_push_of_some _ x)⟩
theorem enum_stopT {P : Program} {w : World} {A : Around} {E : Value → Shared → Prop} {s : Shared} {e it a : Addr} {k : Int} {i : Nat} {its : Array Value} {old : Value} {Q : Option Value → Shared → Prop} (hh : A.handled = none)
    (he : IsEnum s.heap e it k old) (hit : s.heap.IsTupleIter it a i) (ht : s.heap.IsTuple a its) (hx : its[i]? = none) (hQ : ∀ h', Heap.ExtBut it s.heap h' → Q none { s with heap := h' }) : wpAny (model P w) A (pyNext (.ref e)) Q E s := by
  have hT : s.TypeIs (.ref e) "enumerate" := ⟨_, he, rfl⟩
  unfold pyNext
  refine wpAny_bind (wpAny_attempt (wpAny_callSpecial?_slot (name := Str.ofString "__next__") hT F.slot_enumerate_next (wpAny_call_entry F.slot_enumerate_next hT F.entry_enumerate_next ?_ (F.args_enumerate_next_1 _))))
  show wpAny _ _ (field (.ref e) 2 >>= _) _ _ _
  refine wpAny_bind (wpAny_field he rfl (x := .ref it) rfl (wpAny_bind (wpAny_nextOf_tuple_end (by simp [hh]) hit ht hx fun h' x eb ⟨o, ho, hc⟩ => ?_)))
  exact wpAny_bind (wpAny_isInstance (T := "StopIteration") (b := true) ⟨o, ho, hc⟩ isSubtype_stop (wpAny_pure (hQ _ eb)))
/-- the tuple at a, each item in a new pair with its number -/
def Itet (K : PySem.W.Frag) (a : Addr) : L2.It :=
  ⟨fun i H => ∃ (xs : List V) (x : V), SqT K H a xs ∧ xs[i]? = some x, fun i H v H' => ∃ T x, v = .ref T ∧ H T = none ∧ H' = upd H T (.tup [.int (i : Nat), x]) ∧ ∀ xs, SqT K H a xs → xs[i]? = some x, fun i H => ∃ xs : List V, SqT K H a xs ∧ xs.length ≤ i⟩
theorem turn_enumT {P : Program} {w : World} {K : PySem.W.Frag} {elts : List Expr} {kk : Nat} {tpos : Pos} {a e it : Addr} (hai : a ≠ it) (hae : a ≠ e) (hei : e ≠ it) :
    Turn P w K (.Tuple elts kk tpos) (Itet K a) [e, it] e (fun i h => (∃ old, IsEnum h e it ((i : Nat) : Int) old) ∧ h.IsTupleIter it a i) where
  mem := by simp
  obj := fun i h st b hb => by
    obtain ⟨⟨old, he⟩, ⟨o, ho, hc, hd⟩⟩ := st
    rcases (by simpa using hb : b = e ∨ b = it) with z | z
    · exact z ▸ ⟨_, he, fun v q => nomatch q⟩
    · exact z ▸ ⟨o, ho, fun v q => by rw [hd] at q; cases q⟩
  keep := fun i h h' st k => ⟨st.1.imp fun old he => k e (by simp) _ he, st.2.at fun o q => k it (by simp) o q⟩
  item := by
    intro X hP hw hK hc i pins s σ H E I hf st hg
    subst hP hw hK
    obtain ⟨⟨old, he⟩, hit⟩ := st
    obtain ⟨xs, x, hq, hx⟩ := hg
    obtain ⟨its, rv, tp, hz⟩ := I.tuple hq
    obtain ⟨u, hu, ru⟩ := rv.get hx
    have hel : e < s.heap.objs.size := Heap.lt_size he
    have hil : it < s.heap.objs.size := by
      obtain ⟨_, q, _⟩ := hit
      exact Heap.lt_size q
    have lt : i < its.toArray.size := by
      have := (List.getElem?_eq_some_iff.mp hu).1
      simpa using this
    refine wpAny_pyNext_enum_itemD (Draws.tuple (A := X.A.in1) (I.ok.hd hc) it a hai its.toArray) he ⟨hit, tp⟩ lt hei (by simp only [List.mem_cons, List.not_mem_nil, or_false, not_or]; exact ⟨hei, fun z => hae z.symm⟩) fun u' h' tk hP ho st' hT hsz hk => ?_
    have eu : u' = u := by
      have : its[i]? = some u' := by simpa using hP
      rw [hu] at this
      exact (Option.some.inj this).symm
    subst eu
    refine ⟨_, rfl, wpAny_letOwnedTupleGo_enum (s := { s with heap := h', toks := tk + 1 }) ho fun h'' he' sb => ?_⟩
    have hT2 : h''.get? s.heap.objs.size = some { cls := .type "tuple", data := .seq #[.int i tk, u'] } := (sb.2 _ (Nat.ne_of_gt hel)).trans hT
    have new : ObjOk X.prog X.w (upd H s.heap.objs.size (.tup [.int (i : Nat), x])) h'' s.heap.objs.size (.tup [.int (i : Nat), x]) :=
      ⟨by show 2 ≤ sizeLine; decide, [.int i tk, u'], .cons ⟨_, rfl⟩ (.cons ru .nil), ⟨_, hT2, rfl, _, rfl⟩⟩
    have I1 : Inv X pins σ (upd H s.heap.objs.size (.tup [.int (i : Nat), x])) { s with heap := h'', toks := tk + 1 } :=
      I.turnedNew (ch := [e, it]) (fun b ob hb q => (sb.2 b (fun z => hb (by simp [z]))).trans (hk b ob (fun z => hb (by simp [z])) (fun z => hb (by simp [z])) q)) hf (Nat.le_refl _) new
    refine ⟨.ref s.heap.objs.size, _, I1, rfl, ⟨_, x, rfl, I.hok.fresh (Nat.le_refl _), rfl, fun ys hy => by rw [I.tuple_inj hy hq]; exact hx⟩, ⟨⟨u', ?_⟩, st'.1.at fun o q => (sb.2 it (Ne.symm hei)).trans q⟩, fun b hb => ?_⟩
    · rw [show ((i + 1 : Nat) : Int) = (i : Int) + 1 by omega]
      exact he'
    · have hb' : b < s.heap.objs.size := by
        rcases (by simpa using hb : b = e ∨ b = it) with z | z
        · exact z ▸ hel
        · exact z ▸ hil
      rw [upd_ne (Nat.ne_of_lt hb')]
      exact (hf b hb).1
  done := by
    intro X hP hw hK hc i pins s σ H E I hf st hg
    subst hP hw hK
    obtain ⟨⟨old, he⟩, hit⟩ := st
    obtain ⟨xs, hq, hx⟩ := hg
    obtain ⟨its, rv, tp, hz⟩ := I.tuple hq
    obtain ⟨f0, f1, f2, f3, f4, f5⟩ := hf it (by simp)
    have hl := rv.length
    refine enum_stopT (I.ok.hd hc) he hit tp (by simp; omega) fun h' eb => ⟨rfl, I.turned (t' := s.toks) (fun b o hb q => eb b o hb q) f0 f1 f3 f4 f5⟩
  self := fun A i s Q E st h => st.1.elim fun _ he => wpAny_pyIter_enum he h
theorem enumL_get : ∀ (xs : List D) (n i : Nat) (d : D), (enumL xs n)[i]? = some d → ∃ x, xs[i]? = some x ∧ d = .tuple [.int ((n + i : Nat) : Int), x]
  | [], _, _, _, h => by simp [enumL] at h
  | x :: xs, n, 0, d, h => by
    simp [enumL] at h
    exact ⟨x, rfl, h.symm⟩
  | x :: xs, n, i + 1, d, h => by
    obtain ⟨u, h1, h2⟩ := enumL_get xs (n + 1) i d (by simpa [enumL] using h)
    refine ⟨u, by simpa using h1, ?_⟩
    rw [h2, show n + 1 + i = n + (i + 1) by omega]
theorem enumL_len : ∀ (xs : List D) (n : Nat), (enumL xs n).length = xs.length
  | [], _ => rfl
  | _ :: xs, n => congrArg (· + 1) (enumL_len xs (n + 1))
theorem iter_enum {K : PySem.W.Frag} {O : List Addr} {H : Hp} {a : Addr} {vs : List V} {xs : List D} (t : SqT K (hid O H) a vs) (s : Ds K (hid O H) vs xs) : IterOk K O H (Itet K a) (enumL xs 0) := by
  intro i O2 H2 g hx
  have sq : SqT K H2 a vs := sqT_real (SqT.le g t)
  refine ⟨fun d e => ?_, fun z => ⟨vs, sq, by rw [enumL_len] at z; rw [s.length]; exact z⟩⟩
  obtain ⟨x, e1, rfl⟩ := enumL_get xs 0 i d e
  obtain ⟨v, ev, dv⟩ := s.get e1
  refine ⟨⟨vs, v, sq, ev⟩, fun u H3 hy => ?_⟩
  obtain ⟨T, v', rfl, nT, rfl, y1⟩ := hy
  have q1 := y1 vs sq
  rw [ev] at q1
  cases q1
  rw [Nat.zero_add]
  exact ⟨Le.upd nT, Dd.new_tup hx nT (.cons (.int _) (.cons (dv.le g) .nil))⟩
section
variable {X : Cx} {c : Ct} {W : WX} {a : Expr} {fa : Env → Res D} {pos p : Pos}
theorem k_itEnum {elts : List Expr} {kk : Nat} {tpos : Pos} (hK : c.K = X.K) (ha : PE X a (tD c W fa)) (hl : Gl X "enumerate") (hm : X.mg "enumerate" = none) (hp : plainArg a = true) :
    PI X (.Tuple elts kk tpos) (.Call (.Name "enumerate" p) [a] [] pos) (tI c W fun ρ => (fa ρ).bind fun d ρ1 => (lift (tupOf d) ρ1).bind fun xs ρ1 => .ok (enumL xs 0) ρ1) := by
  refine ⟨fun pins s σ H R I ⟨ρ, O, st, h⟩ => ?_⟩
  have hr : tD c W fa σ H fun x H1 => ∃ a vs, x = .ref a ∧ SqT X.K H1 a vs ∧ R (Itet X.K a) H1 := ⟨ρ, O, st, h.bind.imp fun x ρ1 H1 O1 p1 s1 h1 v dv => by
    obtain ⟨xs, e, h2⟩ := h1.then s1
    cases x with
    | tuple ys =>
      cases e
      obtain ⟨a, vs, rfl, t, sd⟩ := dv.tup_inv
      exact ⟨a, vs, rfl, hK ▸ sqT_real t, hK ▸ h2 H1 O1 .refl s1 _ (iter_enum t sd)⟩
    | _ => cases e⟩
  refine Call_ (ld_blt I hl hm boot_enumerate (PyProof.Rows.callWith_type1 (PyProof.Rows.args_cons (thn (ha.run pins s σ H _ I hr) fun u s1 ⟨x, H1, I1, r1, a, vs, ex, hq, q⟩ => PyProof.Rows.args_nil ?_) (star_cons hp)) (star_cons hp) rfl))
  subst ex
  cases r1
  obtain ⟨its, rv, tp, _⟩ := I1.tuple hq
  obtain ⟨o, ho, _⟩ := id tp
  have al : a < s1.heap.objs.size := Heap.lt_size ho
  refine call_enumT tp fun h' he hit hk => wpAny_pyIter_enum he ?_
  have I2 : Inv X pins σ H1 { s1 with heap := h' } := I1.kept (t' := s1.toks) hk
  refine ⟨s1.heap.objs.size + 1, [s1.heap.objs.size + 1, s1.heap.objs.size], _, _, H1, rfl, I2, turn_enumT (Nat.ne_of_lt al) (Nat.ne_of_lt (Nat.lt_succ_of_lt al)) (Nat.succ_ne_self _), ⟨⟨.none, he⟩, hit⟩, fun b hb => ?_, q⟩
  have le : s1.heap.objs.size ≤ b := by
    rcases (by simpa using hb : b = s1.heap.objs.size + 1 ∨ b = s1.heap.objs.size) with z | z
    · rw [z]
      exact Nat.le_add_right _ _
    · exact Nat.le_of_eq z.symm
  exact I1.fpOk le (I1.hok.fresh le)
end
end DR
/-! A call whose first argument is a new list that another call answers. -/
namespace DR
open PySem PySem.Spec PyProof.Rows L2
section
variable {c : Ct} {H : Hp} {σ : Sg} {ρ : Env} {O : List Addr}
/-- a list that no slot holds is changed -/
theorem StOk.other {H2 : Hp} {a : Addr} (s : StOk c H σ ρ O) (ext : Ext [a] H H2) (ha : H2 a ≠ none) (m : a ∈ O) (nF : a ∉ c.Fx) (ne : ∀ j ys, ρ.at j = .own ys → σ.getD j none ≠ some (.ref a)) : StOk c H2 σ ρ O := by
  have le : ∀ b o, H b = some o → b ≠ a → H2 b = some o := fun b o e n => ext b o e fun z => n (List.mem_singleton.mp z)
  have g : Le (hid O H) (hid O H2) := fun b o e => by
    obtain ⟨h1, h2⟩ := hid_some.mp e
    exact hid_some.mpr ⟨h1, le b o h2 fun z => h1 (z ▸ m)⟩
  refine ⟨s.len, ⟨fun b mb e => ?_⟩, s.fx, s.bs, s.bn, fun i => ?_, s.oi, s.bi⟩
  · by_cases z : b = a
    · rw [z] at e
      exact ha e
    · cases q : H b with
      | none => exact s.hx.there b mb q
      | some o =>
        rw [le b o q z] at e
        cases e
  · have q := s.sl i
    cases r : ρ.at i with
    | un => trivial
    | val d =>
      rw [r] at q
      obtain ⟨x, e, t⟩ := q
      exact ⟨x, e, t.le g⟩
    | own xs =>
      rw [r] at q
      obtain ⟨b, ws, e, h1, h2, h3, t⟩ := q
      exact ⟨b, ws, e, h1, h2, le b _ h3 fun z => ne i xs r (by rw [e, z]), t.le g⟩
    | bor k xs =>
      rw [r] at q
      obtain ⟨b, ws, e, h2, h3, t⟩ := q
      exact ⟨b, ws, e, h2, le b _ h3 fun z => nF (z ▸ s.bs b (List.mem_of_getElem? h2)), t.le g⟩
    | scr ns =>
      rw [r] at q
      obtain ⟨b, e, t⟩ := q
      exact ⟨b, e, SqL.le' g t⟩
theorem own_old {avs : List Av} {ρ' : Env} {outs : List (List D)} {a : Addr} {Bs : List Addr} (s : StOk c H σ ρ O) (hn : (mutsOf avs).Nodup) (q2 : Bs.length = (mutsOf avs).length)
    (q4 : ∀ (k i : Nat), (mutsOf avs)[k]? = some i → ∃ b xs, Bs[k]? = some b ∧ σ.getD i none = some (.ref b) ∧ wr (ρ.at i) = some xs) (e : putBack ρ avs outs = some ρ') (nO : a ∉ O) : ∀ j ys, ρ'.at j = .own ys → σ.getD j none ≠ some (.ref a) := by
  intro j ys ej z
  obtain ⟨_, lt'⟩ := muts_ok s hn q2 q4
  obtain ⟨_, pb2, pb3⟩ := putBack_at hn lt' e
  have : ∃ zs, ρ.at j = .own zs := by
    by_cases hj : j ∈ mutsOf avs
    · obtain ⟨l, hk, ek⟩ := List.getElem_of_mem hj
      have ek : (mutsOf avs)[l]? = some j := by rw [List.getElem?_eq_getElem hk, ek]
      obtain ⟨_, zs, _, _, e3⟩ := q4 l j ek
      obtain ⟨us, _, z2⟩ := pb3 l j ek
      rw [z2] at ej
      rcases wr_cases e3 with r | ⟨n, r⟩
      · exact ⟨_, r⟩
      · rw [r] at ej
        cases ej
    · exact ⟨ys, (pb2 j hj).symm.trans ej⟩
  obtain ⟨zs, ez⟩ := this
  have q := s.sl j
  rw [ez] at q
  obtain ⟨b, us, eb, mb, _⟩ := q
  rw [z] at eb
  cases eb
  exact nO mb
end
theorem tmp_step {c : Ct} {W : WX} {H : Hp} {σ : Sg} {ρ : Env} {O : List Addr} {m g : Fn} {z : Int} {avs : List Av} {vs : List V} {Q : VK} (s : StOk c H σ ρ O) (hv : AvsOk c O H σ vs avs) (h : Rp c W σ O H (tmpBy m g z avs ρ) (Pd c Q)) :
    spD c.K g vs H (fun v H2 => spD c.K m [v, .int z] H2 Q fun cls d H3 => W cls d σ H3) fun cls d H2 => W cls d σ H2 := by
  obtain ⟨as, ea, h⟩ := h.then s
  split at h
  · rename_i ok
    obtain ⟨hn, hl⟩ := ok
    obtain ⟨Bs, q1, q2, q3, q4⟩ := args_of s hv ea hl
    refine ⟨O, Bs, as, s.hx, (muts_ok s hn q2 q4).1, fun b hb => (q3 b hb).1, q1, ?_⟩
    cases r : g as with
    | new xs outs =>
      simp only [r] at h
      intro a ws H' ext na ha os dws
      obtain ⟨ρ', e, h⟩ := h.then s
      obtain ⟨p, s'⟩ := behind s (fun z m => List.mem_cons_of_mem _ m) (fun z m => (List.mem_cons.mp m).elim (fun e => .inr ⟨e ▸ na, by rw [e, ha]; exact fun z => nomatch z⟩) .inl) hn q2 q3 q4 ext os e
      have nO : a ∉ O := s.hx.new na
      have nF : a ∉ c.Fx := fun m => nO (s.fx a m)
      refine ⟨a :: O, [a], [.mut xs, .val (.int z)], s'.hx, List.pairwise_singleton _ _, (fun b m => List.mem_cons.mpr (.inl (List.mem_singleton.mp m))), .mut ha dws (.val (.int z) .nil), ?_⟩
      cases r2 : m [.mut xs, .val (.int z)] with
      | ok d outs2 =>
        rw [r2] at h
        match outs2, h with
        | [o1], h =>
          intro v H2 ext2 os2 dv
          have h2a : H2 a ≠ none := by
            cases os2 with
            | cons e1 _ _ => rw [e1]; exact fun z => nomatch z
          have s2 := s'.other ext2 h2a List.mem_cons_self nF (own_old s hn q2 q4 e nO)
          have p2 : Post c (a :: O) H' (a :: O) H2 := ⟨fun b o eb hb => ext2 b o eb fun m => by
            have m := List.mem_singleton.mp m
            rcases hb with hb | hb
            · exact hb (m ▸ List.mem_cons_self)
            · exact nF (m ▸ hb.1), fun _ m => .inl m⟩
          exact h H2 (a :: O) (p.trans p2 fun z m => List.mem_cons_of_mem _ (s.fx z m)) s2 v dv
        | [], h => exact h.elim
        | _ :: _ :: _, h => exact h.elim
      | new _ _ => rw [r2] at h; exact h.elim
      | exc _ _ => rw [r2] at h; exact h.elim
      | bad => rw [r2] at h; exact h.elim
    | ok d outs => simp only [r] at h; exact h.elim
    | exc x outs => simp only [r] at h; exact h.elim
    | bad => simp only [r] at h; exact h.elim
  · exact h.elim
section
variable {X : Cx} {c : Ct} {W : WX} {es : List Expr} {fv : Env → Res (List Av)} {pos p p2 p3 q : Pos}
theorem k_calltmp {γ γ2 : Bool} {k k2 : Nat} {f f2 : Addr} {fd fd2 : FuncData} {ps ps2 : List Str} {m g : Fn} {x y : Str} {e : Expr} {z : Int} {kk : Nat} (F : GFn γ X.prog X.w X.K X.mg X.base k f fd ps (spD c.K m)) (hr : Room k X.A) (hg : γ = true → X.A.guards = some []) (hl : Gl X x) (hm : X.mg x = some (.ref f))
    (hk : PySem.W.keepIn X.K (.ref f) = true) (hb : Binds X.K fd ps []) (hdb : (x == ("__debug__" : Str)) = false) (F2 : GFn γ2 X.prog X.w X.K X.mg X.base k2 f2 fd2 ps2 (spD c.K g)) (hr2 : Room k2 X.A) (hg2 : γ2 = true → X.A.guards = some []) (hl2 : Gl X y) (hm2 : X.mg y = some (.ref f2))
    (hk2 : PySem.W.keepIn X.K (.ref f2) = true) (hb2 : Binds X.K fd2 ps2 []) (hdb2 : (y == ("__debug__" : Str)) = false) (tk : Takes X W) (ha : PA X (e :: es) (tAv c W fv)) (hp : (e :: es).all plainArg = true) :
    PE X (.Call (.Name x p) [.Call (.Name y p2) (e :: es) [] q, .Constant (.int z) kk p3] [] pos) (tD c W fun ρ => (fv ρ).bind fun avs ρ1 => tmpBy m g z avs ρ1) := by
  rw [List.all_cons, Bool.and_eq_true] at hp
  have inner := g_call (pos := q) (p := p2) F2 hr2 hg2 hl2 hm2 hk2 hb2 tk ha hdb2 (star_cons hp.1) (star_any hp.2)
  refine PE.weak (g_call F hr hg hl hm hk hb tk (pa_cons inner (pa_cons pe_int pa_nil rfl) rfl) hdb rfl rfl) fun σ H Q ⟨ρ, O, s, h⟩ => ?_
  exact ⟨ρ, O, s, h.bind.imp fun avs ρ1 H1 O1 p1 s1 h1 vs hv => tmp_step s1 hv h1⟩
end
end DR
/-! sorted({e for x in xs if c}), e a whole number. -/
namespace DR
open PySem PySem.Spec PyProof.Rows L2
/-- the reading of a set comprehension of whole numbers: a new set at L -/
def tSi (w : World) (wi : TI) (g : TG) (tt : TT) (te : TE) (vs : List Nat) : TE := fun σ H Q => wi σ H fun J H1 => ∀ L, H1 L = none → ∃ W : Nat → Nat → Hp → Prop, (∃ m, W 0 m (upd H1 L (SetO w L (fun _ => false) 0))) ∧ ∀ i m G, W i m G →
  (J.stop i G ∧ Q (.ref L) G) ∨ (J.go i G ∧ ∃ N : Hp → Prop, (∀ G', N G' → ∃ m', m' < m ∧ W (i + 1) m' G') ∧ ∀ x G', J.yld i G x G' → g x (wipe σ vs) G' fun τ H2 => wipe τ vs = wipe σ vs ∧ tt τ H2 fun b H3 =>
    if b = true then te τ H3 fun y H4 => ∃ (z : Int) (S : Int → Bool) (n : Nat), y = .int z ∧ H4 L = some (SetO w L S n) ∧ n + 1 < scanBound ∧ N (upd H4 L (SetO w L (fun j => S j || decide (j = z)) (if S z = true then n else n + 1))) else N H3)
section
variable {X : Cx}
theorem add_int {pins : List (Addr × Obj)} {σ : L2.St} {H : Hp} {s : Shared} {E : Value → Shared → Prop} {L : Addr} {S : Int → Bool} {n : Nat} {z : Int} {t : Tok} {Q : Value → Shared → Prop} (I : Inv X pins σ H s) (hL : H L = some (SetO X.w L S n)) (room : n + 1 < scanBound)
    (h : ∀ s', Inv X pins σ (upd H L (SetO X.w L (fun j => S j || decide (j = z)) (if S z = true then n else n + 1))) s' → Q .none s') : wpAny (model X.prog X.w) X.A (call (.builtin "set.add") [.ref L, .int z t]) Q E s := by
  refine setR_add (setO_get I hL) room fun h' sb new => h _ ?_
  obtain ⟨o, es, ep, tb, ho, r⟩ := id new
  exact I.write (e := L) (t' := s.toks + 1) (by rw [hL]; trivial) (.inl rfl) (fun b u hb hu => (sb.2 b hb).trans hu) ⟨o, ho⟩ (setO_new new)
theorem pe_setint {elt tg iter : Expr} {ifs : List Expr} {scope : Scope} {own : List (PySem.Str × Nat)} {pos : Pos} {wi : TI} {g : TG} {tt : TT} {te : TE} (hc : X.calm = true) (nd : X.N.Nodup) (hi : PI X tg iter wi) (ok : BlkOk X.N X.env.scope scope own)
    (hg : ∀ (s : Shared) (H : Hp) (C : Addr) (cl : List (PySem.Str × Addr)) (fp : List Addr), PG (X.blk s H scope (compEnvC scope cl C X.env) fp) tg g) (ht : ∀ (s : Shared) (H : Hp) (C : Addr) (cl : List (PySem.Str × Addr)) (fp : List Addr), PTs (X.blk s H scope (compEnvC scope cl C X.env) fp) ifs tt)
    (he : ∀ (s : Shared) (H : Hp) (C : Addr) (cl : List (PySem.Str × Addr)) (fp : List Addr), PE (X.blk s H scope (compEnvC scope cl C X.env) fp) elt te) (hs : ∀ x, foldedSetIterable iter X.env x = pure x) :
    PE X (.SetComp elt [⟨tg, iter, ifs, 0⟩] scope pos) (tSi X.w wi g tt te (own.map (·.2))) := by
  refine ⟨fun pins s σ H Q I h => ?_⟩
  rw [PpSet.eval_SetComp]
  have fr : ∀ y ∈ scope.names, y.2 = .free → ∃ c, X.env.cells.lookup y.1 = some c := fun y hy e => (ok.free y hy e).elim (fun k => I.ok.has _ (.inl k)) fun k => I.ok.has _ (.inr k)
  refine wpAny_comprehension_free (use := none) rfl hs (closure_ok fr) ok.kind (fun y hy e => by rw [ok.uniq y hy, e]) (thn (hi.run pins s σ H _ I h) fun xv s1 hx => thn hx fun itv s2 h2 => ?_)
  obtain ⟨it, fp, tn, J, H2, e, I2, T, st2, f2, q⟩ := h2
  subst e
  refine PpSet.newSet_ok (newEnv_comp ?_)
  obtain ⟨L, eL⟩ : ∃ L, s2.heap.objs.size = L := ⟨_, rfl⟩
  rw [eL]
  have nL : H2 L = none := I2.hok.fresh (Nat.le_of_eq eL)
  obtain ⟨W, ⟨m0, w0⟩, turn⟩ := q L nL
  obtain ⟨s3, e3⟩ : ∃ s3, ({ s2 with heap := s2.heap.push { cls := .type "set", dict := none, data := .set #[] 0 (.fresh 0 0 (!X.w.params.followText "set-order")) } } : Shared) = s3 := ⟨_, rfl⟩
  obtain ⟨H3, eH3⟩ : ∃ H3, upd H2 L (SetO X.w L (fun _ => false) 0) = H3 := ⟨_, rfl⟩
  have hp3 : s3.heap = s2.heap.push { cls := .type "set", dict := none, data := .set #[] 0 (.fresh 0 0 (!X.w.params.followText "set-order")) } := by rw [← e3]
  have I3 : Inv X pins σ H3 s3 := by
    rw [← e3, ← eH3]
    refine I2.laid (t' := s2.toks) (fun b o e => Heap.get?_push_of_some _ e) (Nat.le_of_eq eL) ?_
    rw [← eL]
    exact setO_new (setR_fresh X.w)
  rw [eH3] at w0
  have lt2 : ∀ b ∈ fp, b < s2.heap.objs.size := fun b hb => by
    obtain ⟨o, e, _⟩ := T.obj _ _ st2 b hb
    exact Heap.lt_size e
  have f3 : ∀ b ∈ fp, FpOk X pins H3 b ∧ b < s3.heap.objs.size := fun b hb => by
    refine ⟨⟨?_, (f2 b hb).2⟩, by rw [hp3, Heap.size_push]; exact Nat.lt_succ_of_lt (lt2 b hb)⟩
    rw [← eH3, upd_ne (by rw [← eL]; exact Nat.ne_of_lt (lt2 b hb))]
    exact (f2 b hb).1
  have st3 : tn 0 s3.heap := T.keep _ _ _ st2 fun b _ o e => by
    rw [hp3]
    exact Heap.get?_push_of_some _ e
  have I4 := block_start I3 ok nd f3
  have pg := hg s3 H3 s3.heap.objs.size (cellsFrom (s3.heap.objs.size + 1) scope.names (cloFrom X.env.cells scope.names [])) fp
  have pt := ht s3 H3 s3.heap.objs.size (cellsFrom (s3.heap.objs.size + 1) scope.names (cloFrom X.env.cells scope.names [])) fp
  have pe := he s3 H3 s3.heap.objs.size (cellsFrom (s3.heap.objs.size + 1) scope.names (cloFrom X.env.cells scope.names [])) fp
  rw [e3]
  show codeAny _ _ (.compStart _ 0 (.ref it) (.ref L) (compEnvC scope (cellsFrom (s3.heap.objs.size + 1) scope.names (cloFrom X.env.cells scope.names [])) s3.heap.objs.size X.env)) (compPost (model X.prog X.w) X.A X.xe none (EP X pins σ Q) (.ref L) s3.heap.objs.size) { s3 with heap := pushCells (s3.heap.push { cls := .type "dict", data := .dict #[] }) scope.names }
  have nfp : ∀ b ∈ fp, H3 b = none := fun b hb => (f3 b hb).1.1
  generalize ece : compEnvC scope (cellsFrom (s3.heap.objs.size + 1) scope.names (cloFrom X.env.cells scope.names [])) s3.heap.objs.size X.env = ce at I4 pg pt pe ⊢
  have cL : ce.locals = s3.heap.objs.size := by
    subst ece
    rfl
  generalize es4 : ({ s3 with heap := pushCells (s3.heap.push { cls := .type "dict", data := .dict #[] }) scope.names } : Shared) = s4 at I4 ⊢
  have st4 : tn 0 s4.heap := T.keep _ _ _ st3 fun b _ o e => by
    rw [← es4]
    exact pushCells_keeps _ _ _ _ (Heap.get?_push_of_some _ e)
  have fpo : ∀ {τ : L2.St} {G : Hp} {s' : Shared}, Inv (X.blk s3 H3 scope ce fp) [] τ G s' → (∀ b ∈ fp, G b = none) → ∀ b ∈ fp, FpOk (X.blk s3 H3 scope ce fp) [] G b := fun {τ G s'} J' hn b hb =>
    ⟨hn b hb, (J'.ok.exf b hb).1, J'.ok.exfs b hb, .inl hb, fun x c e => (J'.ok.exf b hb).2 x c e, fun p hp => absurd (show p ∈ ([] : List (Addr × Obj)) ++ [] from hp) (by simp)⟩
  have loop : codeAny (model X.prog X.w) X.A (.compLoop (.SetComp elt [⟨tg, iter, ifs, 0⟩] scope pos) 0 (.ref it) (.ref L) ce) (compPost (model X.prog X.w) X.A X.xe none (EP X pins σ Q) (.ref L) s3.heap.objs.size) s4 := by
    refine PpSet.compLoopS_any (fun n s' => ∃ i G, Inv (X.blk s3 H3 scope ce fp) [] (wipe σ (own.map (·.2))) G s' ∧ tn i s'.heap ∧ (∀ b ∈ fp, G b = none) ∧ W i n G) ?_ m0 ⟨0, H3, I4, st4, nfp, w0⟩
    rintro n s5 ⟨i, G5, I5, st5, n5, w5⟩
    rcases turn i n G5 w5 with ⟨stop, fine⟩ | ⟨go, N, hN, step⟩
    · refine thnF (T.done (X.blk s3 H3 scope ce fp) rfl rfl rfl hc i [] s5 _ G5 (fun _ _ => False) I5 (fpo I5 n5) st5 stop) fun r s6 ⟨hr, I6⟩ => ?_
      subst hr
      have I7 : Inv X pins σ G5 s6 := I3.call' (ch := fp) I6.os I6.base I6.hok I6.bare fun b hb => ⟨(f3 b hb).1.2.2.2.1, (f3 b hb).1.2.1, (f3 b hb).1.2.2.2.2.1, (f3 b hb).1.2.2.2.2.2⟩
      have nC : G5 s3.heap.objs.size = none := by
        have z : G5 ce.locals = none := I6.free
        rwa [cL] at z
      obtain ⟨m, hn, _⟩ := I6.loc
      have hn : s6.heap.Ns ce.locals m := hn
      rw [cL] at hn
      obtain ⟨f0, f1, _, f3', f4, f5⟩ := I3.fpOk (Nat.le_refl _) nC
      exact ⟨m, hn, fun h'' sb => ⟨.ref L, G5, I7.turned (t' := s6.toks) (fun b o hb e => (sb.2 b hb).trans e) f0 f1 f3' f4 f5, rfl, fine⟩⟩
    · refine thnF (T.item (X.blk s3 H3 scope ce fp) rfl rfl rfl hc i [] s5 _ G5 (fun _ _ => False) I5 (fpo I5 n5) st5 go) fun r s6 ⟨u, hr, h6⟩ => ?_
      subst hr
      refine thnF h6 fun _ s7 ⟨x, G7, I7, r7, y7, st7, n7⟩ => ?_
      refine thnF (pg.run _ s7 _ G7 x u _ (I7.pinned (fpo I7 n7) (T.obj _ _ st7)) r7 (step x G7 y7)) fun _ s8 ⟨τ, G8, I8, hw8, q8⟩ => ?_
      refine thnF (pt.run _ s8 τ G8 _ I8 q8) fun b s9 ⟨G9, I9, q9⟩ => ?_
      have fin : ∀ {s' : Shared} {G' : Hp}, Inv (X.blk s3 H3 scope ce fp) ([] ++ pinsAt fp s7.heap) τ G' s' → N G' → ∃ m, m < n ∧ ∃ i G, Inv (X.blk s3 H3 scope ce fp) [] (wipe σ (own.map (·.2))) G s' ∧ tn i s'.heap ∧ (∀ b ∈ fp, G b = none) ∧ W i m G := fun {s' G'} J' nx => by
        obtain ⟨m', hm, w'⟩ := hN G' nx
        have pin' : ∀ b ∈ fp, ∀ o, s7.heap.get? b = some o → s'.heap.get? b = some o ∧ G' b = none := fun b hb o e =>
          have z := J'.pin (b, o) (List.mem_append_right _ (List.mem_append_right _ (mem_pinsAt hb e)))
          ⟨z.1, z.2.1⟩
        refine ⟨m', hm, i + 1, G', (J'.unpinned (pins := [])).weak (by rw [← hw8, wipe_length]) (fun j v e => ?_), T.keep _ _ _ st7 fun b hb o e => (pin' b hb o e).1, fun b hb => ?_, w'⟩
        · rw [← hw8] at e
          exact (wipe_some e).1
        · obtain ⟨o, e, _⟩ := T.obj _ _ st7 b hb
          exact (pin' b hb o e).2
      cases b with
      | false =>
        simp only [Bool.false_eq_true, if_false] at q9 ⊢
        exact fin I9 q9
      | true =>
        simp only [if_true] at q9 ⊢
        refine thnF (pe.run _ s9 τ G9 _ I9 q9) fun v s10 ⟨yv, G10, I10, r10, z, S0, n0, ey, hL, hz, nx⟩ => ?_
        subst ey
        obtain ⟨tk, rfl⟩ : ∃ tk, v = Value.int z tk := r10
        exact add_int (X := X.blk s3 H3 scope ce fp) I10 hL hz fun s11 I11 => fin I11 nx
  exact PpSet.codeAny_compStart_set loop (T.self X.A 0 _ _ _ st4 loop)
end
/-- within the loop of a set comprehension: ds were put in -/
structure MidS (w : World) (c : Ct) (O1 : List Addr) (H1 B : Hp) (σ : Sg) (L : Addr) (H : Hp) (ρ : Env) (O : List Addr) (ds : List D) : Prop where
  st : StOk (c.more L) H σ ρ O
  post : Post c O1 H1 O H
  base : Le B (hid O H)
  acc : ∃ (S : Int → Bool) (n : Nat) (ms : List Int), H L = some (SetO w L S n) ∧ ms.Nodup ∧ (∀ k, k ∈ ms ↔ S k = true) ∧ ms.length = n ∧ (∀ k, S k = true ↔ PyData.int k ∈ ds) ∧ n ≤ ds.length
section
variable {w : World} {c : Ct} {W : WX} {O1 : List Addr} {H1 B : Hp} {σ : Sg} {L : Addr}
theorem MidS.go {τ : Sg} {H H' : Hp} {ρ ρ' : Env} {O O' : List Addr} {ds : List D} (m : MidS w c O1 H1 B σ L H ρ O ds) (p : Post (c.more L) O H O' H') (s : StOk (c.more L) H' τ ρ' O') (nB : L ∉ c.Bs) (hx : ∀ a ∈ c.Fx, a ∈ O) : MidS w c O1 H1 B τ L H' ρ' O' ds := by
  obtain ⟨S, n, ms, h1, h2⟩ := m.acc
  exact ⟨s, m.post.trans p.less hx, m.base.trans p.hid, S, n, ms, p.keep L _ h1 (.inr ⟨List.mem_cons_self, nB⟩), h2⟩
theorem MidS.add {H : Hp} {ρ : Env} {O : List Addr} {ds : List D} {z : Int} (m : MidS w c O1 H1 B σ L H ρ O ds) (n1 : H1 L = none) (nB : L ∉ c.Bs) :
    ∃ (S : Int → Bool) (n : Nat), H L = some (SetO w L S n) ∧ n ≤ ds.length ∧ MidS w c O1 H1 B σ L (upd H L (SetO w L (fun j => S j || decide (j = z)) (if S z = true then n else n + 1))) ρ O (ds ++ [.int z]) := by
  obtain ⟨S, n, ms, h1, h2, h3, h4, h5, h6⟩ := m.acc
  have g : ∀ o, hid O (upd H L o) = hid O H := fun o => hid_upd (m.st.fx L List.mem_cons_self)
  refine ⟨S, n, h1, h6, m.st.wrFx List.mem_cons_self nB, m.post.wrNew n1, g _ ▸ m.base, ?_⟩
  have mem : ∀ k, (S k || decide (k = z)) = true ↔ PyData.int k ∈ ds ++ [.int z] := fun k => by
    rw [Bool.or_eq_true, h5 k]
    simp
  cases q : S z with
  | true =>
    refine ⟨_, _, ms, upd_same, h2, fun k => ?_, by simpa using h4, mem, by simp; omega⟩
    rw [h3 k, Bool.or_eq_true]
    constructor
    · exact .inl
    · rintro (r | r)
      · exact r
      · rw [of_decide_eq_true r]
        exact q
  | false =>
    refine ⟨_, _, z :: ms, upd_same, List.nodup_cons.mpr ⟨fun r => ?_, h2⟩, fun k => ?_, by simp [h4], mem, by simp; omega⟩
    · rw [(h3 z).mp r] at q
      cases q
    · rw [List.mem_cons, h3 k, Bool.or_eq_true, decide_eq_true_iff]
      exact Or.comm
theorem MidS.wipe {H : Hp} {ρ : Env} {O : List Addr} {ds : List D} {τ : Sg} {vs : List Nat} (m : MidS w c O1 H1 B τ L H ρ O ds) (e : L2.wipe τ vs = L2.wipe σ vs) : MidS w c O1 H1 B (L2.wipe σ vs) L H (wipeE ρ vs) O ds := ⟨e ▸ m.st.wipe vs, m.post, m.base, m.acc⟩
end
theorem isInt_inv {d : D} (h : isInt d = true) : ∃ i, d = .int i := by
  cases d with
  | int i => exact ⟨i, rfl⟩
  | _ => cases h
theorem si_turn {w : World} {c : Ct} {t : Tg} {fc : Env → Res Bool} {fe : Env → Res D} {vs : List Nat} (hv : ∀ i ∈ tgS t, i ∈ vs) {O1 : List Addr} {H1 B : Hp} {τ : Sg} {L : Addr} (nL : H1 L = none) (nB : L ∉ c.Bs)
    {H G : Hp} {ρ ρ4 : Env} {O : List Addr} {ds ys : List D} {x : D} {v : V} {N : Hp → Prop} (mid : MidS w c O1 H1 B (wipe τ vs) L H ρ O ds) (et : turn1 t fc fe vs x ρ = .ok ys ρ4) (l : Le H G) (dv : Dd c.K (hid O G) v x) (alli : (ds ++ ys).all isInt = true) (short : (ds ++ ys).length ≤ 600)
    (fin : ∀ G O', MidS w c O1 H1 B (wipe τ vs) L G ρ4 O' (ds ++ ys) → N G) :
    gBm c t v (wipe τ vs) G fun σ2 H2 => wipe σ2 vs = wipe τ vs ∧ tTm c fc σ2 H2 fun b H3 => if b = true then tDm c fe σ2 H3 fun y H4 => ∃ (z : Int) (S : Int → Bool) (n : Nat), y = .int z ∧ H4 L = some (SetO w L S n) ∧ n + 1 < scanBound ∧
      N (upd H4 L (SetO w L (fun j => S j || decide (j = z)) (if S z = true then n else n + 1))) else N H3 := by
  unfold turn1 at et
  obtain ⟨ρ5, _, e5, et1⟩ := Res.bind_ok et
  have e5 := (lift_ok e5).1
  obtain ⟨k, ρ6, e6, et2⟩ := Res.bind_ok et1
  have mid1 : MidS w c O1 H1 B (wipe τ vs) L G ρ O ds := mid.go (Post.of_le l) (mid.st.le l) nB fun a m => mid.st.fx a (List.mem_cons_of_mem _ m)
  refine ⟨L, ρ, O, x, ρ5, mid1.st, dv, e5, fun σ5 s5 same => ⟨wipe_same same hv, L, ρ5, O, s5, ?_⟩⟩
  have mid5 : MidS w c O1 H1 B σ5 L G ρ5 O ds := ⟨s5, mid1.post, mid1.base, mid1.acc⟩
  rw [e6]
  intro G6 O6 p6 s6
  have mid6 : MidS w c O1 H1 B σ5 L G6 ρ6 O6 ds := mid5.go p6 s6 nB fun a m => mid5.st.fx a (List.mem_cons_of_mem _ m)
  cases k with
  | false =>
    simp only [Bool.false_eq_true, if_false] at et2 ⊢
    cases et2
    exact fin _ O6 (by rw [List.append_nil]; exact mid6.wipe (wipe_same same hv))
  | true =>
    simp only [if_true] at et2 ⊢
    obtain ⟨y, ρ7, e7, et3⟩ := Res.bind_ok et2
    cases et3
    refine ⟨L, ρ6, O6, s6, ?_⟩
    rw [e7]
    intro G7 O7 p7 s7 v7 d7
    have mid7 : MidS w c O1 H1 B σ5 L G7 ρ7 O7 ds := mid6.go p7 s7 nB fun a m => mid6.st.fx a (List.mem_cons_of_mem _ m)
    obtain ⟨z, rfl⟩ := isInt_inv (List.all_eq_true.mp alli y (by simp))
    obtain ⟨S, n, a1, a2, mid8⟩ := mid7.add (z := z) nL nB
    refine ⟨z, S, n, d7.int_inv, a1, ?_, fin _ O7 (mid8.wipe (wipe_same same hv))⟩
    simp at short
    unfold scanBound
    omega
/-- the different ones, put in order -/
theorem sorted_ints {ys : List D} {ns : List Int} (hi : ys.all isInt = true) (pw : ns.Pairwise (· < ·)) (mem : ∀ k, k ∈ ns ↔ PyData.int k ∈ ys) : sortL (dedup ys) = ns.map .int := by
  have hk : ys.all (keyOk 0) = true := List.all_eq_true.mpr fun d m => by
    obtain ⟨i, rfl⟩ := isInt_inv (List.all_eq_true.mp hi d m)
    rfl
  have le : ∀ a b : Int, leD (.int a) (.int b) = true ↔ a ≤ b := fun a b => by
    unfold leD
    rw [PySem.W.dataLt_int]
    simp
  have nd : (ns.map PyData.int).Nodup := by
    unfold List.Nodup
    rw [List.pairwise_map]
    exact pw.imp fun h e => by cases e; omega
  have pm : (dedup ys).Perm (ns.map PyData.int) := (List.perm_ext_iff_of_nodup (nodup_dedup hk) nd).mpr fun d => by
    rw [mem_dedup hk]
    constructor
    · intro m
      obtain ⟨i, rfl⟩ := isInt_inv (List.all_eq_true.mp hi d m)
      exact List.mem_map.mpr ⟨i, (mem i).mpr m, rfl⟩
    · intro m
      obtain ⟨i, h, rfl⟩ := List.mem_map.mp m
      exact (mem i).mp h
  rw [sortL_eq]
  have p1 := List.mergeSort_perm (dedup ys) leD
  refine List.Perm.eq_of_pairwise (le := fun a b => leD a b = true) (fun a b ha hb h1 h2 => ?_) (List.pairwise_mergeSort leD_trans leD_total _) ?_ (p1.trans pm)
  · obtain ⟨i, rfl⟩ := isInt_inv (List.all_eq_true.mp hi a ((mem_dedup hk a).mp (p1.mem_iff.mp ha)))
    obtain ⟨j, _, rfl⟩ := List.mem_map.mp hb
    rw [le] at h1 h2
    rw [show i = j by omega]
  · rw [List.pairwise_map]
    exact pw.imp fun h => (le _ _).mpr (by omega)
/-- sorted({..}) as a function of the slots -/
def setF (f : D → Env → Res (List D)) (fi : Env → Res (List D)) (vs : List Nat) : Env → Res D := fun ρ => (fi ρ).bind fun xs ρ1 =>
  if vs.all (plainAt ρ1) = true then
    (match loopC f xs (wipeE ρ1 vs) with
    | .ok ys ρ2 => lift (sortIntsD ys) (restore ρ1 ρ2 vs)
    | _ => .bad)
  else .bad
theorem si_reads {w : World} {c : Ct} {W : WX} {fi : Env → Res (List D)} {t : Tg} {fc : Env → Res Bool} {fe : Env → Res D} {vs : List Nat} (hv : ∀ i ∈ tgS t, i ∈ vs) {σ : Sg} {H : Hp} {Q : VK} (h : tD c W (setF (turn1 t fc fe vs) fi vs) σ H Q) :
    tSi w (tI c W fi) (gBm c t) (tTm c fc) (tDm c fe) vs σ H fun x H1 => rSortedSet w [x] H1 Q := by
  obtain ⟨ρ, O, s, h⟩ := h
  refine ⟨ρ, O, s, h.bind.imp fun xs ρ1 H1 O1 p1 s1 h1 J hJ L nL => ?_⟩
  have nO : L ∉ O1 := fun m => s1.hx.there L m nL
  have nF : L ∉ c.Fx := fun m => nO (s1.fx L m)
  have nB : L ∉ c.Bs := fun m => nF (s1.bs L m)
  split at h1
  case isFalse => exact h1.elim
  case isTrue pl =>
  cases eq : loopC (turn1 t fc fe vs) xs (wipeE ρ1 vs) with
  | exc x ρ => rw [eq] at h1; exact h1.elim
  | bad => rw [eq] at h1; exact h1.elim
  | ok ys ρ2 =>
    rw [eq] at h1
    have hA : Rp c W σ O1 H1 (lift (sortIntsD ys) (restore ρ1 ρ2 vs)) (Pd c Q) := h1
    clear h1
    cases er : sortIntsD ys with
    | none => rw [er] at hA; exact hA.elim
    | some r =>
    rw [er] at hA
    have hB : Rp c W σ O1 H1 (.ok r (restore ρ1 ρ2 vs)) (Pd c Q) := hA
    clear hA
    obtain ⟨alli, short, few, er⟩ : ys.all isInt = true ∧ ys.length ≤ 600 ∧ (dedup ys).length < 64 ∧ r = .list (sortL (dedup ys)) := by
      unfold sortIntsD at er
      split at er
      · rename_i q
        have er : (if sortOk (dedup ys) = true then some (PyData.list (sortL (dedup ys))) else none) = some r := er
        split at er
        · exact ⟨q.1, q.2.1, q.2.2, (Option.some.inj er).symm⟩
        · cases er
      · cases er
    have start : Post c O1 H1 (L :: O1) (upd H1 L (SetO w L (fun _ => false) 0)) := by
      refine ⟨fun a o e _ => Le.upd nL a o e, fun a m => ?_⟩
      rcases List.mem_cons.mp m with rfl | m
      · exact .inr nL
      · exact .inl m
    refine ⟨fun i m G => i + m = xs.length ∧ ∃ ρ O ds zs, MidS w c O1 H1 (hid O1 H1) (wipe σ vs) L G ρ O ds ∧ loopC (turn1 t fc fe vs) (xs.drop i) ρ = .ok zs ρ2 ∧ ds ++ zs = ys,
      ⟨xs.length, by omega, wipeE ρ1 vs, L :: O1, [], ys, ⟨(s1.enter nL).wipe vs, start, start.hid, _, 0, [], upd_same, List.nodup_nil, (fun k => by simp), rfl, (fun k => by simp), Nat.le_refl _⟩, eq, rfl⟩, ?_⟩
    rintro i m G ⟨im, ρ3, O3, ds, zs, mid, lp, eys⟩
    have it := hJ i O3 G mid.post.hid mid.st.hx
    cases hx : xs[i]? with
    | none =>
      have hi : xs.length ≤ i := List.getElem?_eq_none_iff.mp hx
      obtain ⟨rfl, rfl⟩ := loopC_end hi lp
      rw [List.append_nil] at eys
      subst eys
      obtain ⟨S, n, ms, a1, a2, a3, a4, a5, a6⟩ := mid.acc
      have pp : Post c O1 H1 (O3.filter (· ≠ L)) G := ⟨mid.post.keep, fun a m => mid.post.new a (List.mem_filter.mp m).1⟩
      have ss := StOk.back (mid.st.leave s1.bs nF) s1 pp.hid pl
      have hk : ds.all (keyOk 0) = true := List.all_eq_true.mpr fun d m => by
        obtain ⟨i, rfl⟩ := isInt_inv (List.all_eq_true.mp alli d m)
        rfl
      have cnt : n = (dedup ds).length := by
        have pm : (dedup ds).Perm (ms.map PyData.int) := (List.perm_ext_iff_of_nodup (nodup_dedup hk) (by
          unfold List.Nodup
          rw [List.pairwise_map]
          exact List.Pairwise.imp (fun h e => h (by cases e; rfl)) a2)).mpr fun d => by
          rw [mem_dedup hk]
          constructor
          · intro m
            obtain ⟨i, rfl⟩ := isInt_inv (List.all_eq_true.mp alli d m)
            exact List.mem_map.mpr ⟨i, (a3 i).mpr ((a5 i).mpr m), rfl⟩
          · intro m
            obtain ⟨i, h, rfl⟩ := List.mem_map.mp m
            exact (a5 i).mp ((a3 i).mp h)
        rw [← a4, pm.length_eq, List.length_map]
      refine .inl ⟨it.2 hi, L, S, n, rfl, a1, by omega, fun ns p pw mem len np => ?_⟩
      have l2 : Le G (upd G p (.lst (ns.map V.int))) := Le.upd np
      have e2 := sorted_ints alli pw fun k => (mem k).trans (a5 k)
      refine hB _ _ ((pp.trans (Post.of_le l2) fun z mz => ss.fx z mz)) (ss.le l2) _ ?_
      rw [er, e2]
      exact Dd.new_lst ss.hx np (Ds.of_ints ns)
    | some x =>
      have hi : i < xs.length := (List.getElem?_eq_some_iff.mp hx).1
      obtain ⟨go, yl⟩ := it.1 x hx
      obtain ⟨ys1, ρ4, zs2, et, lp2, rfl⟩ := loopC_at hx lp
      refine .inr ⟨go, fun G' => ∃ ρ O ds zs, MidS w c O1 H1 (hid O1 H1) (wipe σ vs) L G' ρ O ds ∧ loopC (turn1 t fc fe vs) (xs.drop (i + 1)) ρ = .ok zs ρ2 ∧ ds ++ zs = ys, fun G' q => ⟨m - 1, by omega, by omega, q⟩, fun v G1 hy => ?_⟩
      obtain ⟨l1, dv⟩ := yl v G1 hy
      refine si_turn hv nL nB mid et l1 dv ?_ ?_ fun G7 O7 mid7 => ⟨ρ4, O7, ds ++ ys1, zs2, mid7, lp2, by rw [List.append_assoc]; exact eys⟩
      · rw [← eys, ← List.append_assoc, List.all_append, Bool.and_eq_true] at alli
        exact alli.1
      · rw [← eys] at short
        simp at short ⊢
        omega
theorem k_sortsc {X : Cx} {c : Ct} {W : WX} {elt tg iter : Expr} {ifs : List Expr} {scope : Scope} {own : List (PySem.Str × Nat)} {p pos pos2 : Pos} {fi : Env → Res (List D)} {t : Tg} {fc : Env → Res Bool} {fe : Env → Res D} {vs : List Nat} (hc : X.calm = true) (nd : X.N.Nodup) (hl : Gl X "sorted") (hm : X.mg "sorted" = none)
    (hi : PI X tg iter (tI c W fi)) (ok : BlkOk X.N X.env.scope scope own) (ov : own.map (·.2) = vs) (hv : ∀ i ∈ tgS t, i ∈ vs)
    (hg : ∀ (s : Shared) (H : Hp) (C : Addr) (cl : List (PySem.Str × Addr)) (fp : List Addr), PG (X.blk s H scope (compEnvC scope cl C X.env) fp) tg (gBm c t)) (ht : ∀ (s : Shared) (H : Hp) (C : Addr) (cl : List (PySem.Str × Addr)) (fp : List Addr), PTs (X.blk s H scope (compEnvC scope cl C X.env) fp) ifs (tTm c fc))
    (he : ∀ (s : Shared) (H : Hp) (C : Addr) (cl : List (PySem.Str × Addr)) (fp : List Addr), PE (X.blk s H scope (compEnvC scope cl C X.env) fp) elt (tDm c fe)) (hs : ∀ x, foldedSetIterable iter X.env x = pure x) :
    PE X (.Call (.Name "sorted" p) [.SetComp elt [⟨tg, iter, ifs, 0⟩] scope pos2] [] pos) (tD c W (setF (turn1 t fc fe vs) fi vs)) := by
  subst ov
  exact PE.weak (pe_callB (cr_sortedSet hc) hl hm boot_sorted (pa_cons (pe_setint hc nd hi ok hg ht he hs) pa_nil rfl) (by decide) (by decide) rfl rfl) fun σ H Q z => si_reads hv z
end DR
/-! t[::-1], t a tuple or a list. -/
namespace DR
open PySem PySem.Spec PyProof.Rows L2
section
variable {P : Program} {w : World} {A : Around} {E : Value → Shared → Prop} {s : Shared}
theorem back_all {sl : Addr} {vs : Value} {n : Nat} {Q : Int × Int × Nat → Shared → Prop} (hs : s.heap.IsSliceOf sl .none .none vs) (ps : IsPart vs (some (-1))) (h : Q ((n : Int) - 1, -1, n) s) :
    wpAny (model P w) A (Builtin.Slice.sliceApplied (.ref sl) (pure (n : Int))) Q E s := by
  obtain ⟨os, hos, hcs, hds⟩ := id hs
  unfold Builtin.Slice.sliceApplied Builtin.Slice.sliceFields
  refine wpAny_bind (wpAny_bind (wpAny_field hos hds (x := .none) rfl (wpAny_bind (wpAny_field hos hds (x := .none) rfl (wpAny_bind (wpAny_field hos hds (x := vs) rfl (wpAny_pure ?_)))))))
  refine wpAny_bind (HT.slicePart_ ps ?_)
  show wpAny _ _ (if ((-1 : Int) == 0) = true then _ else _) _ _ s
  rw [if_neg (by decide)]
  refine wpAny_bind (PyProof.Rows.slicePart_none (wpAny_bind (PyProof.Rows.slicePart_none (wpAny_bind (wpAny_pure ?_)))))
  have e2 : Builtin.Slice.slicePlaces ((n : Int) - 1) (-1) (-1) = n := by
    unfold Builtin.Slice.slicePlaces
    rw [if_neg (by decide)]
    split
    · rw [show (-(-1 : Int)) = 1 by decide, Int.ediv_one]
      omega
    · omega
  show wpAny _ _ (pure (((n : Int) - 1, (-1 : Int), Builtin.Slice.slicePlaces ((n : Int) - 1) (-1) (-1)))) _ _ s
  rw [e2]
  exact wpAny_pure h
theorem pick_back (xs : Array Value) : ((List.range xs.size).filterMap fun (m : Nat) => xs[(((xs.size : Nat) : Int) - 1 + (m : Int) * (-1)).toNat]?) = xs.toList.reverse := by
  have e : (List.range xs.size).filterMap (fun (m : Nat) => xs[(((xs.size : Nat) : Int) - 1 + (m : Int) * (-1)).toNat]?) = (List.range xs.size).filterMap fun m => xs[xs.size - 1 - m]? := by
    have cg : ∀ {l : List Nat} {f g : Nat → Option Value}, (∀ m ∈ l, f m = g m) → l.filterMap f = l.filterMap g := fun {l f g} h => by
      induction l with
      | nil => rfl
      | cons x l ih => rw [List.filterMap_cons, List.filterMap_cons, h x List.mem_cons_self, ih fun m hm => h m (List.mem_cons_of_mem _ hm)]
    refine cg fun m hm => ?_
    have := List.mem_range.mp hm
    rw [show (((xs.size : Nat) : Int) - 1 + (m : Int) * (-1)).toNat = xs.size - 1 - m by omega]
  have r := PySem.W.krv_range xs.size
  have a := PySem.W.krv_all xs
  rw [e, ← a, ← List.filterMap_reverse, ← r, List.filterMap_map]
  rfl
theorem tuple_back {t sl : Addr} {its : Array Value} {vs : Value} {Q : Value → Shared → Prop} (ht : PyProof.Rows.IsTup s.heap t its) (hs : s.heap.IsSliceOf sl .none .none vs) (ps : IsPart vs (some (-1)))
    (h : Q (.ref s.heap.objs.size) { s with heap := s.heap.push { cls := .type "tuple", data := .seq its.toList.reverse.toArray } }) (hz : its.size ≤ sizeLine) : wpAny (model P w) A (getItem (.ref t) (.ref sl)) Q E s := by
  have fits : sizeOk (.seq its.toList.reverse.toArray) := by
    show its.toList.reverse.toArray.size ≤ sizeLine
    rw [List.size_toArray, List.length_reverse, Array.length_toList]
    exact hz
  obtain ⟨os, hos, hcs, hds⟩ := id hs
  have hT : s.TypeIs (.ref sl) "slice" := ⟨os, hos, hcs⟩
  unfold getItem
  try with_reducible refine wpAny_holding ?_
  first | refine wpAny_bind (wpAny_pure ?_) | skip
  refine wpAny_bind (wpAny_sequenceKey ht.typeIs (by decide) ?_)
  refine wpAny_bind (wpAny_callSpecial?_slot (name := Str.ofString "__getitem__") ht.typeIs PyProof.Rows.slot_tuple_getitem (wpAny_call_entry PyProof.Rows.slot_tuple_getitem ht.typeIs PyProof.Rows.entry_tuple_getitem ?_ (PyProof.Rows.args_tuple_getitem _ _)))
  show wpAny _ _ (Builtin.Tuple.tupleItemsOf (.ref t) >>= _) _ _ s
  refine wpAny_bind (PyProof.Rows.tupleItemsOf_ ht (wpAny_bind (wpAny_typeOf hT ?_)))
  rw [if_pos (by decide)]
  refine wpAny_bind (back_all hs ps ?_)
  show wpAny _ _ (if (((its.size : Nat) : Int) - 1 == 0 && (-1 : Int) == 1 && its.size == its.size) = true then _ else _) _ _ s
  rw [if_neg (by simp), pick_back]
  first
    | exact wpAny_bind (m := Builtin.Tuple.tupleExact _) (wpAny_newObj_type (wpAny_pure ⟨_, rfl, wpAny_pure h⟩) fits)
    | exact wpAny_bind (m := Builtin.Tuple.tupleExact _) (wpAny_newObj_type (wpAny_bind (wpAny_pure (wpAny_pure ⟨_, rfl, wpAny_pure h⟩))) fits)
    | exact wpAny_bind (wpAny_bind (m := Builtin.Tuple.tupleExact _) (wpAny_newObj_type (wpAny_pure (wpAny_pure ⟨_, rfl, wpAny_pure h⟩)) fits))
    | exact wpAny_bind (wpAny_bind (m := Builtin.Tuple.tupleExact _) (wpAny_newObj_type (wpAny_pure ⟨_, rfl, wpAny_pure h⟩) fits))
end
section
variable {X : Cx} {c : Ct} {W : WX} {e : Expr} {fa : Env → Res D} {k : Nat} {p1 p2 p3 pos : Pos}
theorem k_rev (hK : c.K = X.K) (he : PE X e (tD c W fa)) : PE X (.Subscript e (.Slice none none (some (.UnaryOp .USub (.Constant (.int 1) k p1) p2)) p3) pos) (tD c W fun ρ => (fa ρ).bind fun x ρ1 => lift (revD x) ρ1) := by
  refine ⟨fun pins s σ H Q I ⟨ρ, O, st, h⟩ => ?_⟩
  have hr : tD c W fa σ H fun x H1 => rD1 X.K revD x H1 Q := ⟨ρ, O, st, h.bind.imp fun x ρ1 H1 O1 p1 s1 h1 v dv => by
    obtain ⟨r, e, out⟩ := h1.out s1
    rw [hK] at dv out
    exact ⟨O1, x, r, s1.hx, dv, e, out⟩⟩
  refine Subscript_ (thn (he.run pins s σ H _ I hr) fun v s1 ⟨x, H1, I1, r1, q1⟩ => ?_)
  obtain ⟨O1, d, r, hx, dd, ed, out⟩ := q1
  have hst : PO X (some (.UnaryOp .USub (.Constant (.int 1) k p1) p2)) (tPart (tUn (rU fun i => .int (-i)) (tC (.int 1)))) := po_some (pe_un un_neg pe_int)
  refine wpAny_Slice (thn (po_none.run pins s1 σ H1 (fun o H2 => o = none ∧ H2 = H1) I1 ⟨rfl, rfl⟩) fun vl s2 ⟨l, H2, I2, pl, el, e2⟩ => ?_)
  subst el e2
  refine thn (po_none.run pins s2 σ H2 (fun o H3 => o = none ∧ H3 = H2) I2 ⟨rfl, rfl⟩) fun vu s3 ⟨u, H3, I3, pu, eu, e3⟩ => ?_
  subst eu e3
  refine thn (hst.run pins s3 σ H3 (fun o H4 => o = some (-1) ∧ H4 = H3) I3 ⟨1, rfl, -1, rfl, rfl, rfl⟩) fun vs s4 ⟨o, H4, I4, ps, eo, e4⟩ => ?_
  subst eo e4
  have I5 : Inv X pins σ H4 { s4 with heap := s4.heap.push { cls := .type "slice", data := .fields #[vl, vu, vs] } } := I4.kept (t' := s4.toks) fun b ob q => Heap.get?_push_of_some _ q
  have fr := I5.hok.fresh (Nat.le_refl _)
  cases pl
  cases pu
  cases d with
  | tuple ds =>
    cases ed
    obtain ⟨a, ws, rfl, t, sd⟩ := dd.tup_inv
    cases r1
    obtain ⟨its, rv, ht, hz⟩ := I5.tuple (sqT_real t)
    have hl := rv.length
    refine PyProof.Rows.tail_any (ops := [.ref a, .ref s4.heap.objs.size]) ht.typeIs (PyProof.Rows.slot_tuple_getitem.lookup) ?_ (by with_unfolding_all rfl)
    refine tuple_back ht (Heap.IsSliceOf.new _ _ _ vs) ps ⟨.ref _, _, I5.laid (t' := s4.toks) (o := .tup ws.reverse) (fun b ob q => Heap.get?_push_of_some _ q) (Nat.le_refl _) ?_, rfl, out.tup hx sd.reverse _ fr⟩ (by rw [List.size_toArray]; omega)
    exact ⟨by rw [List.length_reverse]; exact hz, _, rv.reverse, IsTup.new _ _⟩
  | list ds =>
    cases ed
    obtain ⟨a, ws, rfl, t, sd⟩ := dd.lst_inv
    cases r1
    obtain ⟨its, rv, ht, hz⟩ := I5.list (a := a) (xs := ws) (.inl (.inl (lst_real t)))
    have hl := rv.length
    refine PyProof.Rows.tail_any (ops := [.ref a, .ref s4.heap.objs.size]) ht.isList.typeIs (PySem.slot_list_getitem.lookup) ?_ (by with_unfolding_all rfl)
    refine wpAny_getItem_list_slice ht.isList (Heap.IsSliceOf.new _ _ _ vs) .none .none ps (by decide) ?_ (by rw [List.size_toArray]; omega)
    rw [PySem.W.krv_pick]
    refine ⟨.ref _, _, I5.laid (t' := s4.toks) (o := .lst ws.reverse) (fun b ob q => Heap.get?_push_of_some _ q) (Nat.le_refl _) ?_, rfl, out.lst hx sd.reverse _ fr⟩
    exact ⟨by rw [List.length_reverse]; exact hz, _, 0, rv.reverse, Heap.get?_push_size _ rfl⟩
  | _ => cases ed
end
end DR
/-! sorted(set(t)), t a tuple of whole numbers. -/
namespace DR
open PySem PySem.Spec PyProof.Rows L2
theorem sortSet_inv {d r : D} (e : sortSetD d = some r) : ∃ ms : List Int, d = .tuple (ms.map .int) ∧ ms.length < 64 ∧ r = .list (sortL (dedup (ms.map .int))) := by
  unfold sortSetD at e
  split at e
  · rename_i xs
    split at e
    · rename_i q
      have e : (if sortOk (dedup xs) = true then some (PyData.list (sortL (dedup xs))) else none) = some r := e
      split at e
      · have : ∀ l : List D, l.all isInt = true → ∃ ms : List Int, l = ms.map .int := by
          intro l
          induction l with
          | nil => exact fun _ => ⟨[], rfl⟩
          | cons x l ih =>
            intro h
            rw [List.all_cons, Bool.and_eq_true] at h
            obtain ⟨i, rfl⟩ := isInt_inv h.1
            obtain ⟨ms, rfl⟩ := ih h.2
            exact ⟨i :: ms, rfl⟩
        obtain ⟨ms, rfl⟩ := this xs q.1
        exact ⟨ms, rfl, by simpa using q.2, (Option.some.inj e).symm⟩
      · cases e
    · cases e
  · cases e
section
variable {X : Cx}
theorem ints_vals : ∀ {ms : List Int} {vs : List V} {us : List Value} {K : PySem.W.Frag} {G : Hp}, Ds K G vs (ms.map .int) → Vals vs us → IntsAre us ms
  | [], _, _, _, _, h, r => by
    cases h
    cases r
    exact .nil
  | m :: ms, _, _, _, _, h, r => by
    cases h with
    | cons a t =>
      cases r with
      | cons b u =>
        obtain ⟨tk, rfl⟩ : ∃ tk, _ = Value.int m tk := by
          have := a.int_inv
          subst this
          exact b
        exact .cons m tk (ints_vals t u)
theorem k_sortset {c : Ct} {W : WX} {a : Expr} {fa : Env → Res D} {pos p p2 q : Pos} (hK : c.K = X.K) (hc : X.calm = true) (hl : Gl X "sorted") (hm : X.mg "sorted" = none) (hl2 : Gl X "set") (hm2 : X.mg "set" = none)
    (ha : PE X a (tD c W fa)) (hp : plainArg a = true) : PE X (.Call (.Name "sorted" p) [.Call (.Name "set" p2) [a] [] q] [] pos) (tD c W fun ρ => (fa ρ).bind fun x ρ1 => lift (sortSetD x) ρ1) := by
  refine ⟨fun pins s σ H Q I ⟨ρ, O, st, h⟩ => ?_⟩
  refine Call_ (ld_blt I hl hm boot_sorted ?_)
  refine PyProof.Rows.callWith_builtin1 (PyProof.Rows.args_cons ?_ rfl) rfl rfl
  refine Call_ (ld_blt I hl2 hm2 PyProof.Rows.boot_set ?_)
  have hr : tD c W fa σ H fun x H1 => rD1 X.K sortSetD x H1 Q := ⟨ρ, O, st, h.bind.imp fun x ρ1 H1 O1 p1 s1 h1 v dv => by
    obtain ⟨r, e, out⟩ := h1.out s1
    rw [hK] at dv out
    exact ⟨O1, x, r, s1.hx, dv, e, out⟩⟩
  refine PyProof.Rows.callWith_type1 (PyProof.Rows.args_cons (thn (ha.run pins s σ H _ I hr) fun u s1 ⟨x, H1, I1, r1, O1, d, r, hx, dv, e, out⟩ => PyProof.Rows.args_nil ?_) (star_cons hp)) (star_cons hp) rfl
  obtain ⟨ms, rfl, few, rfl⟩ := sortSet_inv e
  obtain ⟨b, vs, rfl, t, sd⟩ := dv.real.tup_inv
  obtain rfl : u = .ref b := r1
  obtain ⟨its, rvs, hl, _⟩ := I1.tuple t
  refine call_set_tupI ms (I1.ok.hd hc) hl (by simpa using ints_vals sd rvs) (by unfold scanBound; omega) fun h' tk n R hn k => PyProof.Rows.args_nil ?_
  have nL : H1 s1.heap.objs.size = none := I1.hok.fresh (Nat.le_refl _)
  have I2 : Inv X pins σ (upd H1 s1.heap.objs.size (SetO X.w s1.heap.objs.size (fun j => decide (j ∈ ms)) n)) { s1 with heap := h', toks := tk } := I1.laid k (Nat.le_refl _) (setO_new R)
  refine cr_sortedSet hc pins _ σ _ [.ref s1.heap.objs.size] _ Q I2 (.cons rfl .nil) ⟨_, _, n, rfl, upd_same, by omega, fun ns p pw mem len np => ?_⟩
  have l1 : Le H1 (upd H1 s1.heap.objs.size (SetO X.w s1.heap.objs.size (fun j => decide (j ∈ ms)) n)) := Le.upd nL
  have hx2 := hx
  refine out _ _ (l1.trans (Le.upd np)) ?_
  have e2 := sorted_ints (ys := ms.map .int) (ns := ns) (List.all_eq_true.mpr fun d m => by
    obtain ⟨i, _, rfl⟩ := List.mem_map.mp m
    rfl) pw fun k => by
      rw [mem k, decide_eq_true_iff]
      constructor
      · exact fun m => List.mem_map.mpr ⟨k, m, rfl⟩
      · intro m
        obtain ⟨i, h, e⟩ := List.mem_map.mp m
        cases e
        exact h
  rw [e2]
  exact Dd.new_lst (hx.le l1) np (Ds.of_ints ns)
end
end DR
/-! A generator that hands out the items of a tuple, wherever the tuple stands. -/
namespace DS
open PySem PySem.Spec PyProof.Rows L2 GenW
section
variable {X : Cx} {e : Expr} {yp pos : Pos} {te : TE}
/-- the code of «yield from» over the iterator it -/
abbrev yC (it : Addr) : Code := .builtin "proto.yield_from" ⟨[.ref it, .bool false, .none], []⟩
/-- where the iterator stands: at the j-th item of the tuple at a -/
def TSt (it a : Addr) (its : Array Value) (j : Nat) (h : Heap) : Prop := IsTupIter h it a j ∧ IsTup h a its
theorem TSt.keep {it a S : Addr} {its : Array Value} {j : Nat} {h h' : Heap} (t : TSt it a its j h) (n1 : it ≠ S) (n2 : a ≠ S) (k : ∀ b o, b ≠ S → h.get? b = some o → h'.get? b = some o) : TSt it a its j h' := by
  obtain ⟨⟨o, ho, r⟩, o2, ho2, r2⟩ := t
  exact ⟨⟨o, k _ o n1 ho, r⟩, o2, k _ o2 n2 ho2, r2⟩
/-- nothing of the generator's is touched by a turn of its iterator -/
theorem gi_turn {S it : Addr} {ip : List (Addr × Obj)} {zs : List V} {σ : L2.St} {H : Hp} {s : Shared} {h' : Heap} {tk : Nat} (I : GI X S ip zs σ H s) (hk : ∀ b o, b ≠ it → s.heap.get? b = some o → h'.get? b = some o)
    (hH : H it = none) (hL : it ≠ X.env.locals) (hex : it ∈ X.ex ∨ X.s_0.heap.objs.size ≤ it) (hc : ∀ x c, X.env.cells.lookup x = some c → c ≠ it) (hp : ∀ p ∈ X.pn ++ ip, p.1 ≠ it) (hS : it ≠ S) : GI X S ip zs σ H { s with heap := h', toks := tk } := by
  obtain ⟨acc, cc, r, J⟩ := I
  refine ⟨acc, cc, r, J.turned (it := it) hk hH hL hex hc fun p m => ?_⟩
  rcases List.mem_append.mp m with m | m
  · exact hp p (List.mem_append_left _ m)
  · rcases List.mem_cons.mp m with m | m
    · rw [m]; exact hS.symm
    · exact hp p (List.mem_append_right _ m)
/-- the turns, from the j-th item on -/
theorem yf_turns {S it a : Addr} {ip : List (Addr × Obj)} {A : Around} {R : GenEnd} {fs : List Frame} {xs ys : List V} {its : List Value} {σ : L2.St} {H : Hp} (rv : Vals xs its) (hpn : ∀ p ∈ X.pn, p.1 ≠ S) (hip : ∀ p ∈ ip, p.1 ≠ S) (hpi : ∀ p ∈ X.pn ++ ip, p.1 ≠ it) (hA : Apart X S)
    (hex : it ∈ X.ex ∨ X.s_0.heap.objs.size ≤ it) (hL : it ≠ X.env.locals) (hcell : ∀ x c, X.env.cells.lookup x = some c → c ≠ it) (nS : it ≠ S) (nA : a ≠ S) (nI : a ≠ it) (hH : H it = none)
    (ho : (A.over (yC it) fs).handled = none) (hsp : splitAtGen fs = none) (hgd : fs.any Frame.guarded = false) (hle : ys.length + xs.length ≤ sizeLine)
    (hend : ∀ (n : Nat) (s₀ s : Shared), n + (ys ++ xs).length = sizeLine → GI X S ip (ys ++ xs) σ H s → Seg (model X.prog X.w) A R (GY X S) n s₀ (yC it) (.pure (.done (.ret .none))) fs s) (r : Nat) :
    ∀ (j n : Nat) (s₀ s : Shared), j + r = xs.length → n + (ys.length + j) = sizeLine → GI X S ip (ys ++ xs.take j) σ H s → TSt it a its.toArray j s.heap → Seg (model X.prog X.w) A R (GY X S) n s₀ (yC it) ((model X.prog X.w).den (yC it)) fs s := by
  induction r with
  | zero =>
    intro j n s₀ s hj hn hI st
    obtain rfl : j = xs.length := by omega
    rw [List.take_length] at hI
    have miss : its.toArray[xs.length]? = none := by
      have := rv.length
      simp [this]
    rw [den_yf]
    unfold Builtin.«proto.yield_from»
    (try dsimp only); refine seg_bind (wpAny_pure ?_); (try dsimp only)
    refine seg_bind (wpAny_attempt (wpAny_holding ?_)); rw [if_neg Bool.false_ne_true, if_pos (show (Value.none == Value.none) = true from rfl)]
    refine wpAny_bind (wpAny_rule (wpAny_bind (special_tup_end ho st.1 st.2 miss fun x h' hS hk => ?_)))
    obtain ⟨b, o, vs, rfl, hb, hcls, hdat, h5⟩ := hS
    (try dsimp only); refine seg_bind (wpAny_endsTurn hb hcls ?_); (try dsimp only); rw [if_pos rfl]
    first
      | exact seg_bind (wpAny_rule (seg_bind (wpAny_field hb hdat h5 (hend n s₀ _ (by rw [List.length_append]; exact hn) (gi_turn hI (fun b o nb eb => hk b o nb eb) hH hL hex hcell hpi nS)))))
      | (refine seg_bind (wpAny_rule ?_); refine seg_bind (wpAny_field hb hdat h5 ?_); exact hend n s₀ _ (by rw [List.length_append]; exact hn) (gi_turn (tk := s.toks) hI (fun b o nb eb => hk b o nb eb) hH hL hex hcell hpi nS))
  | succ r ih =>
    intro j n s₀ s hj hn hI st
    have lt : j < xs.length := by omega
    obtain ⟨x, hx⟩ : ∃ x, xs[j]? = some x := ⟨xs[j], List.getElem?_eq_getElem lt⟩
    obtain ⟨u, hu, ru⟩ := rv.get hx
    obtain ⟨n, rfl⟩ : ∃ m, n = m + 1 := ⟨n - 1, by omega⟩
    have tl : (xs.take j).length = j := by rw [List.length_take]; omega
    rw [den_yf]
    unfold Builtin.«proto.yield_from»
    (try dsimp only); refine seg_bind (wpAny_pure ?_); (try dsimp only)
    refine seg_bind (wpAny_attempt (wpAny_holding ?_)); rw [if_neg Bool.false_ne_true, if_pos (show (Value.none == Value.none) = true from rfl)]
    refine wpAny_bind (wpAny_rule (wpAny_bind (special_tup_item st.1 st.2 (x := u) (by simpa using hu) fun h' q1 sb => ?_)))
    have hk : ∀ b o, b ≠ it → s.heap.get? b = some o → h'.get? b = some o := fun b o nb eb => sb.extBut b o nb eb
    have hI' := gi_turn (tk := s.toks) hI hk hH hL hex hcell hpi nS
    have st' : TSt it a its.toArray (j + 1) h' := ⟨q1, st.2.extBut sb.extBut nI⟩
    obtain ⟨oi, hoi, hoc, _⟩ := id q1
    refine wpAny_pure ?_; (try dsimp only)
    refine seg_bind (wpAny_typeOf (T := "tuple_iterator") ⟨oi, hoi, hoc⟩ ?_); (try dsimp only)
    first
      | (refine seg_bind (wpAny_of_eq close_tup ?_); refine seg_bind (wpAny_pure ?_); (try dsimp only))
      | (refine seg_bind (wpAny_bind (wpAny_of_eq close_tup (wpAny_pure ?_))); (try dsimp only))
      | (refine seg_bind (wpAny_of_eq close_tup ?_); (try dsimp only))
    refine seg_bind (wpAny_sleptOver hoi hoc (by decide) ?_); refine seg_yield hsp rfl hgd ?_
    refine ⟨ys ++ xs.take j, x, ip, σ, H, by rw [List.length_append, tl]; exact hn, ru, hI', fun s2 z => ?_⟩
    have hI2 := hI'.woken hpn hip hA ru z
    have st2 : TSt it a its.toArray (j + 1) s2.heap := st'.keep nS nA fun b o nb eb => z.keep b o nb eb
    obtain ⟨oj, hoj, hojc, _⟩ := id st2.1
    have etk : ys ++ xs.take j ++ [x] = ys ++ xs.take (j + 1) := by rw [List.append_assoc, List.take_add_one, hx]; rfl
    rw [etk] at hI2
    show Seg _ _ _ _ n s2 _ (Builtin.Generator.sleptOver (.ref it) false >>= fun _ => _) fs s2
    refine seg_bind (wpAny_sleptOver hoj hojc (by decide) ?_); (try dsimp only); refine seg_bind (wpAny_pure ?_)
    exact seg_again (plainId_quiet plain_yf _) (ih (j + 1) n s2 s2 (by omega) (by omega) hI2 st2)
/-- «yield from e», e a tuple -/
def tYT (te : TE) : TGn := fun D ys σ H => te σ H fun x H1 => ∃ a xs, x = .ref a ∧ SqT X.K H1 a xs ∧ ys.length + xs.length ≤ sizeLine ∧ D.nx (ys ++ xs) σ H1
theorem gs_yieldT (he : PE X e te) (hc : X.A.handled = none) (hi : interactive X.env = false := by rfl) : GS X (.Expr (.YieldFrom e yp) pos) (tYT (X := X) te) := by
  refine ⟨fun A S ip R n ys s₀ c fs K J gd lv s σ H D g hn k hI ht => ?_⟩
  rw [exec_Expr X.env _ pos hi rfl]
  show Seg _ _ _ _ n s₀ c (.at pos fun _ => ((eval e X.env >>= fun v => (standAt yp >>= fun _ => yieldFrom X.env v)) >>= fun x => dropValue (.YieldFrom e yp) pos x).wrap K J gd lv) fs s
  obtain ⟨acc, cc, r, I⟩ := hI
  refine seg_at (segw_bind2 ?_)
  rw [g.over]
  refine wpAny_mono (he.run _ s σ H _ I ht) (fun v s1 hv => ?_) fun x s' hx => k.exc n s₀ x s' hx
  obtain ⟨x, H1, I1, r1, a, xs, rfl, sq, hle, hq⟩ := hv
  obtain rfl : v = Value.ref a := r1
  obtain ⟨its, rits, ht, hz⟩ := I1.tuple sq
  have eS : s1.heap.get? S = some (lstObj acc cc) := (I1.pin (S, lstObj acc cc) (List.mem_append_right _ List.mem_cons_self)).1
  have nA : a ≠ S := fun z => by
    obtain ⟨o, ho, hcl, _⟩ := ht
    rw [z, eS] at ho
    cases ho
    exact absurd (show Value.type "list" = Value.type "tuple" from hcl) (by decide)
  have ksz : ∀ b o, s1.heap.get? b = some o → b ≠ s1.heap.objs.size := fun b o q => Nat.ne_of_lt (Heap.lt_size q)
  refine seg_at ?_
  show Seg _ _ _ _ n s₀ c ((yieldFrom X.env (.ref a)).wrap (fun b => (dropValue (.YieldFrom e yp) pos b).wrap K J gd lv) J gd lv) fs s1
  unfold yieldFrom
  refine seg_bind_wrap (wpAny_typeOf ht.typeIs ?_)
  rw [if_neg (by decide)]
  refine seg_bind_wrap (wpAny_holding ?_)
  rw [g.over]
  refine iter_tuple ht ?_
  refine seg_call fun p => ?_
  have kp : ∀ b o, s1.heap.get? b = some o → (s1.heap.push { cls := .type "tuple_iterator", data := .fields #[.ref a, .int 0 0] }).get? b = some o := fun b o q => Heap.get?_push_of_some _ q
  have I2 := I1.kept (t' := s1.toks) kp
  have nS : s1.heap.objs.size ≠ S := (ksz S _ eS).symm
  refine yf_turns (a := a) (xs := xs) (ys := ys) (its := its) rits g.pn g.ip (fun p m => ?_) g.apart (.inr I1.sz) (Nat.ne_of_gt I1.lt) (fun y c' hy => ?_) nS nA (Nat.ne_of_lt ht.lt) (I1.hok.fresh (Nat.le_refl _)) ?_ ?_ ?_ hle (fun n' s₀' s' hn' hG => ?_) xs.length 0 n s₀ _ (Nat.zero_add _) hn ⟨acc, cc, by rw [List.take_zero, List.append_nil]; exact r, I2⟩ ⟨⟨_, Heap.get?_push_size _ rfl, rfl, rfl⟩, ht.push _⟩
  · refine ksz p.1 p.2 (I1.pin p ?_).1
    rcases List.mem_append.mp m with m | m
    · exact List.mem_append_left _ m
    · exact List.mem_append_right _ (List.mem_cons_of_mem _ m)
  · obtain ⟨w, o, hw, _⟩ := I1.cell y c' hy
    exact ksz c' o hw
  · show (A.over c fs).handled = none
    rw [g.over]; exact hc
  · show (splitAtGen fs).map _ = none
    rw [g.split]; rfl
  · show (gd false || fs.any Frame.guarded) = false
    rw [g.gd, g.guard]; rfl
  · exact seg_leaf (.ok (.ret .none)) (k.ok n' (ys ++ xs) s₀' s' .next hn' ⟨σ, H1, hG, hq⟩)
end
end DS
/-! xs.count(x) over data. -/
namespace DR
open PySem PySem.Spec PyProof.Rows L2
section
variable {X : Cx} {c : Ct} {W : WX} {e : Expr} {fb : Env → Res D} {p ap cp : Pos}
def rCntD (K : PySem.W.Frag) : V → List V → Hp → VK → Prop := fun x xs H Q => ∃ O y ds d r, xs = [y] ∧ Dd K (hid O H) x (.list ds) ∧ Dd K (hid O H) y d ∧ cntD ds d = some r ∧ ∀ z, r = .int z → Q (.int z) H
theorem mt_cntD (hu : X.A.units + 68 < cLine) : MtR X "list.count" (rCntD X.K) := by
  intro pins s σ H x xs v us Q I rx rxs h
  obtain ⟨O, y, ds, d, r, rfl, hd, hy, ec, q⟩ := h
  obtain ⟨u, rfl, ru⟩ := rxs.one
  unfold cntD at ec
  split at ec
  · rename_i hc
    cases ec
    obtain ⟨as, r1⟩ := Dp.reads I _ x v hd.real.dp rx
    obtain ⟨bs, r2⟩ := Dp.reads I _ y u hy.real.dp ru
    have k1 : PyData.canLay0 (.list ds) = true := SeqAt.canLay_of_shaped hc.1
    have k2 : PyData.canLay0 d = true := SeqAt.canLay_of_shaped hc.2
    have k1 : PyData.canLayAll0 ds = true := by simpa [PyData.canLay0] using k1
    cases r1 with
    | list h1 h2 h3 h4 =>
      exact SeqAt.count_list_data ⟨_, h1, h2, _, h3⟩ h4 r2 (PyData.plainAll_of_canLay0 ds k1) (PyData.plain_of_canLay0 d k2) (room_in_shaped hc.2 (by omega)) ⟨.int _, H, I.tok _, ⟨s.toks, rfl⟩, q _ rfl⟩
  · cases ec
theorem cnt_val {s : Slot} {ys : List D} (h : cntOf s = some ys) : s = .val (.list ys) := by
  unfold cntOf at h
  split at h
  · cases h
    rfl
  · cases h
theorem k_cnt (hK : c.K = X.K) (hu : X.A.units + 68 < cLine) {i : Nat} {x : Str} (hN : X.N[i]? = some x) (hv : Vis X.env.scope x) (h1 : (x == ("__debug__" : Str)) = false) (h2 : (x == ("__classdict__" : Str)) = false) (hb : PE X e (tD c W fb)) (hp : plainArg e = true) (hl : (ap.endLine == cp.line) = true) :
    PE X (.Call (.Attribute (.Name x p) "count" ap) [e] [] cp) (tD c W fun ρ => (lift (cntOf (ρ.at i)) ρ).bind fun ys _ => (fb ρ).bind fun y ρ1 => lift (cntD ys y) ρ1) := by
  have base := pe_bm (cpos := cp) (apos := ap) PySem.F.plainAttrs_list PySem.F.slot_list_count PySem.F.type_list_count (mt_cntD hu) (pe_var (pos := p) hN hv h1 h2) (pa_cons hb pa_nil (star_cons hp)) rfl (by rw [star_cons hp]; rfl) hl (star_cons hp) rfl
  refine PE.weak base fun σ H Q ⟨ρ, O, s, h⟩ => ?_
  obtain ⟨ys, e0, h⟩ := h.then s
  have q := s.sl i
  rw [cnt_val e0] at q
  obtain ⟨v, ev, dv⟩ := q
  obtain ⟨a, ws, rfl, t, sd⟩ := dv.lst_inv
  refine ⟨.ref a, sget_some ev, .inl ⟨rfl, ws, .inl (.inl (lst_real t))⟩, ρ, O, s, h.bind.imp fun y ρ1 H1 O1 p1 s1 h1 w dw => ?_⟩
  obtain ⟨r, er, out⟩ := h1.out s1
  refine ⟨O1, w, ys, y, r, rfl, hK ▸ dv.le p1.hid, hK ▸ dw, er, fun z ez => ?_⟩
  subst ez
  exact out.here (.int z)
/-! list(f(..)) of a generator def -/
/-- the promise of a generator def: it hands out the items of the tuple that m answers -/
def spG (K : PySem.W.Frag) (m : Fn) : L2.SpG := fun vs H Q _ => ∃ O as xs, Hx O H ∧ ArgV K O H [] vs as ∧ m as = .ok (.tuple xs) [] ∧ xs.length ≤ 1000000 ∧ ∀ ws H', Ext [] H H' → Ds K (hid O H') ws xs → Q ws H'
theorem gen_step {H : Hp} {σ : Sg} {ρ : Env} {O : List Addr} {m : Fn} {avs : List Av} {vs : List V} {Q : VK} {E : XK} (s : StOk c H σ ρ O) (hv : AvsOk c O H σ vs avs) (h : Rp c W σ O H (genBy m avs ρ) (Pd c Q)) :
    spG c.K m vs H (fun out H2 => ∀ p, H2 p = none → Q (.ref p) (upd H2 p (.lst out))) E := by
  obtain ⟨as, ea, h⟩ := h.then s
  by_cases hc : mutsOf avs = [] ∧ lends avs = false
  · rw [if_pos hc] at h
    obtain ⟨Bs, q1, q2, _, _⟩ := args_of s hv ea hc.2
    rw [hc.1] at q2
    obtain rfl : Bs = [] := List.eq_nil_of_length_eq_zero q2
    split at h
    · rename_i xs r
      by_cases hl : xs.length ≤ 1000000
      · rw [if_pos hl] at h
        refine ⟨O, as, xs, s.hx, q1, r, hl, fun ws H' ext dws p np => ?_⟩
        have l : Le H H' := fun a o e => ext a o e (by simp)
        have l2 : Le H (upd H' p (.lst ws)) := l.trans (Le.upd np)
        exact h _ O (Post.of_le l2) (s.le l2) _ (Dd.new_lst (s.hx.le l) np dws)
      · rw [if_neg hl] at h
        exact h.elim
    · exact h.elim
  · rw [if_neg hc] at h
    exact h.elim
theorem k_listg {k : Nat} {f : Addr} {fd : FuncData} {ps : List Str} {m : Fn} {x : Str} {es : List Expr} {fv : Env → Res (List Av)} {q p2 pos : Pos} (F : L2.GFn X.prog X.w X.K X.mg X.base k f fd ps (spG c.K m)) (hr : Room (k + 3) X.A) (hl : Gl X x) (hm : X.mg x = some (.ref f))
    (hk : PySem.W.keepIn X.K (.ref f) = true) (hb : Binds X.K fd ps []) (hdb : (x == ("__debug__" : Str)) = false) (hl2 : Gl X "list") (hm2 : X.mg "list" = none) (ha : PA X (e :: es) (tAv c W fv)) (hp : (e :: es).all plainArg = true) :
    PE X (.Call (.Name "list" p) [.Call (.Name x p2) (e :: es) [] q] [] pos) (tD c W fun ρ => (fv ρ).bind fun avs ρ1 => genBy m avs ρ1) := by
  rw [List.all_cons, Bool.and_eq_true] at hp
  have made := L2.pgen_call (pos' := q) (p := p2) (E := fun _ _ _ => False) F (hr.mono (by omega)) hl hm hk hb .nil ha hdb (star_cons hp.1) (star_any hp.2)
  have base := L2.pe_listG (p := p) (pos := pos) (nm := "list") made (fun pins σ H sc u s' I h => (cx_never h).elim) (fun cls d H h => h.elim) hr hl2 hm2 PyProof.Rows.boot_list (by decide) (by decide) rfl
  refine PE.weak base fun σ H Q ⟨ρ, O, s, h⟩ => ?_
  refine ⟨ρ, O, s, h.bind.imp fun avs ρ1 H1 O1 p1 s1 h1 vs hv => ?_⟩
  have z := gen_step (E := fun _ _ _ => False) s1 hv h1
  rw [← List.append_nil vs] at z
  exact z
end
end DR
/-! Part q: that a piece of the small syntax is this expression; then it evaluates so. -/
namespace DR
open PySem PySem.Spec PyProof.Rows L2

/-- what is known of the names where a piece of code stands -/
structure Sx where
  N : List Str
  sc : Scope
  fb : Str → Bool
  nm : List Str
  gi : List (Str × Int)
  bs : List Str
  gn : List Str
def Sx.blk (S : Sx) (scope : Scope) : Sx := { S with sc := relS scope S.sc, fb := fun x => scope.names.lookup x == some .cell }
def visB (sc : Scope) (x : Str) : Bool := match sc.names.lookup x with
  | some .local => true
  | some .cell => true
  | some .free => true
  | _ => false
def locB (S : Sx) (x : Str) : Bool := match S.sc.names.lookup x with
  | some .local => true
  | some .cell => S.fb x
  | _ => false
def glB (sc : Scope) (x : Str) : Bool := decide (sc.names.lookup x = some .globalImplicit)
def ndb (x : Str) : Bool := !(x == ("__debug__" : Str))
def nameB (S : Sx) (i : Nat) (x : Str) : Bool := decide (S.N[i]? = some x) && visB S.sc x && ndb x && !(x == ("__classdict__" : Str))
def biB (S : Sx) (x : Str) : Bool := glB S.sc x && decide (x ∈ S.bs)
def fnB (S : Sx) (f : Nat) (x : Str) : Bool := decide (S.nm[f]? = some x) && glB S.sc x && ndb x
def gnB (S : Sx) (f : Nat) (x : Str) : Bool := decide (S.gn[f]? = some x) && glB S.sc x && ndb x
def notSetE : Expr → Bool
  | .Set .. => false
  | _ => true
theorem noFold {e : Expr} {env : PySem.Env} (h : notSetE e = true) (x : Value) : foldedSetIterable e env x = pure x := by
  cases e <;> first | rfl | cases h
def litB : Lit → Const → Bool
  | .int z, .int y => decide (y = z)
  | .bl b, .bool c => decide (c = b)
  | .non, .none => true
  | .str s, .str t => decide (t = s)
  | _, _ => false
def isTupE : Expr → Bool
  | .Tuple .. => true
  | _ => false
def eqStr (x y : Str) : Bool := decide (x = y)
/-- the block's own names with their slots -/
def ownOf (S : Sx) (vs : List Nat) : List (Str × Nat) := vs.map fun i => (S.N.getD i "", i)
def blkB (S : Sx) (scope : Scope) (vs : List Nat) : Bool := blkC S.N S.sc scope (ownOf S vs)
mutual
def isTg (S : Sx) : Tg → Expr → Bool
  | .nm i, x => match x with
    | .Name n _ => decide (S.N[i]? = some n) && locB S n
    | _ => false
  | .tup ts, x => match x with
    | .Tuple es _ _ => isTgs S ts es && es.all plainTg && decide (es.length = ts.n)
    | _ => false
def isTgs (S : Sx) : Tgs → List Expr → Bool
  | .nil, es => es.isEmpty
  | .cons t r, es => match es with
    | e :: es => isTg S t e && isTgs S r es
    | [] => false
end
def subB (is vs : List Nat) : Bool := is.all fun i => decide (i ∈ vs)
mutual
def isE : E → Sx → Expr → Bool
  | .var i, S, x => match x with
    | .Name n _ => nameB S i n
    | _ => false
  | .lit l, S, x => match x with
    | .Constant k _ _ => litB l k
    | _ => false
  | .gint n z, S, x => match x with
    | .Name m _ => eqStr m n && glB S.sc m && decide ((m, z) ∈ S.gi) && ndb m
    | _ => false
  | .tup es, S, x => match x with
    | .Tuple l _ _ => isEs es S l
    | _ => false
  | .lst es, S, x => match x with
    | .List l _ => isEs es S l
    | _ => false
  | .bop o a b, S, x => match x with
    | .BinOp l op r _ => decide (op = o.op) && isE a S l && isE b S r
    | _ => false
  | .neg a, S, x => match x with
    | .UnaryOp .USub y _ => isE a S y
    | _ => false
  | .cmp o a b, S, x => match x with
    | .Compare l [op] [r] _ => decide (op = o.op) && !behindInMarks op r && isE a S l && isE b S r
    | _ => false
  | .chain o o' a b c, S, x => match x with
    | .Compare l [op, op'] [m, r] _ => decide (op = o.op) && decide (op' = o'.op) && !lastMarks [op, op'] [m, r] && isE a S l && isE b S m && isE c S r
    | _ => false
  | .one a, S, x => match x with
    | .BoolOp _ [y] _ => isE a S y
    | _ => false
  | .and a b, S, x => match x with
    | .BoolOp .And (y :: z :: r) p => isE a S y && isE b S (.BoolOp .And (z :: r) p)
    | _ => false
  | .or a b, S, x => match x with
    | .BoolOp .Or (y :: z :: r) p => isE a S y && isE b S (.BoolOp .Or (z :: r) p)
    | _ => false
  | .not a, S, x => match x with
    | .UnaryOp .Not y _ => isE a S y
    | _ => false
  | .ite c a b, S, x => match x with
    | .IfExp z y w _ => isE c S z && isE a S y && isE b S w
    | _ => false
  | .ix a b, S, x => match x with
    | .Subscript y z _ => isE a S y && isE b S z && notSlice z
    | _ => false
  | .ixo i b, S, x => match x with
    | .Subscript (.Name n _) z _ => nameB S i n && isE b S z && notSlice z
    | _ => false
  | .sl a lo hi, S, x => match x with
    | .Subscript y (.Slice l h none _) _ => isE a S y && isO lo S l && isO hi S h
    | _ => false
  | .bi f a, S, x => match x with
    | .Call (.Name n _) [y] [] _ => eqStr n f.nm && biB S n && isE a S y && plainArg y
    | _ => false
  | .mm mx a b, S, x => match x with
    | .Call (.Name n _) [y, z] [] _ => eqStr n (mmN mx) && biB S n && isE a S y && isE b S z && plainArg y && plainArg z
    | _ => false
  | .isi t a, S, x => match x with
    | .Call (.Name n _) [y, .Name m _] [] _ => eqStr n "isinstance" && eqStr m t.nm && biB S n && biB S m && isE a S y && plainArg y
    | _ => false
  | .lens i, S, x => match x with
    | .Call (.Name n _) [.Name m _] [] _ => eqStr n "len" && biB S n && nameB S i m
    | _ => false
  | .ixs i b, S, x => match x with
    | .Subscript (.Name n _) z _ => nameB S i n && isE b S z && notSlice z
    | _ => false
  | .rng t a, S, x => match x with
    | .Call (.Name n _) [.Call (.Name m _) [y] [] _] [] _ => eqStr n (if t then "tuple" else "list") && eqStr m "range" && biB S n && biB S m && isE a S y && plainArg y
    | _ => false
  | .call f as, S, x => match x with
    | .Call (.Name n _) ys [] _ => fnB S f n && isAs as S ys && ys.all plainArg
    | _ => false
  | .comp tg it c e vs, S, x => match x with
    | .ListComp y [⟨t, i, fs, a⟩] scope _ => decide (a = 0) && notSetE i && blkB S scope vs && subB (tgS tg) vs && isIt it S t i && isTg (S.blk scope) tg t && isC c (S.blk scope) fs && isE e (S.blk scope) y
    | _ => false
  | .comp2 tg it c tg2 it2 c2 e vs vs2, S, x => match x with
    | .ListComp y [⟨t, i, fs, a⟩, ⟨t2, i2, fs2, a2⟩] scope _ => decide (a = 0) && decide (a2 = 0) && notSetE i && notSetE i2 && blkB S scope vs && subB (tgS tg) vs && subB (tgS tg2) vs2 && subB vs2 vs && isIt it S t i && isTg (S.blk scope) tg t && isC c (S.blk scope) fs &&
        isIt it2 (S.blk scope) t2 i2 && isTg (S.blk scope) tg2 t2 && isC c2 (S.blk scope) fs2 && isE e (S.blk scope) y
    | _ => false
  | .ino n a i, S, x => match x with
    | .Compare l [op] [.Name m _] _ => decide (op = if n then .NotIn else .In) && nameB S i m && isE a S l
    | _ => false
  | .leno i, S, x => match x with
    | .Call (.Name n _) [.Name m _] [] _ => eqStr n "len" && biB S n && nameB S i m
    | _ => false
  | .lenset a, S, x => match x with
    | .Call (.Name n _) [.Call (.Name m _) [y] [] _] [] _ => eqStr n "len" && eqStr m "set" && biB S n && biB S m && isE a S y && plainArg y
    | _ => false
  | .sortset a, S, x => match x with
    | .Call (.Name n _) [.Call (.Name m _) [y] [] _] [] _ => eqStr n "sorted" && eqStr m "set" && biB S n && biB S m && isE a S y && plainArg y
    | _ => false
  | .sortsc tg it c e vs, S, x => match x with
    | .Call (.Name n _) [.SetComp y [⟨t, i, fs, a⟩] scope _] [] _ => eqStr n "sorted" && biB S n && decide (a = 0) && notSetE i && blkB S scope vs && subB (tgS tg) vs && isIt it S t i && isTg (S.blk scope) tg t && isC c (S.blk scope) fs && isE e (S.blk scope) y
    | _ => false
  | .rev a, S, x => match x with
    | .Subscript y (.Slice none none (some (.UnaryOp .USub (.Constant (.int 1) _ _) _)) _) _ => isE a S y
    | _ => false
  | .listg f as, S, x => match x with
    | .Call (.Name n _) [.Call (.Name m _) (y :: ys) [] _] [] _ => eqStr n "list" && biB S n && gnB S f m && isAs as S (y :: ys) && (y :: ys).all plainArg
    | _ => false
  | .cnt i b, S, x => match x with
    | .Call (.Attribute (.Name n _) m ap) [y] [] cp => eqStr m "count" && nameB S i n && isE b S y && plainArg y && (ap.endLine == cp.line)
    | _ => false
  | .calltmp f g as z, S, x => match x with
    | .Call (.Name n _) [.Call (.Name m _) ys [] _, .Constant k _ _] [] _ => fnB S f n && fnB S g m && isAs as S ys && ys.all plainArg && litB (.int z) k && !ys.isEmpty
    | _ => false
def isEs : Es → Sx → List Expr → Bool
  | .nil, S, l => l.isEmpty
  | .cons e r, S, l => match l with
    | x :: l => isE e S x && plainArg x && isEs r S l
    | [] => false
  | .star e r, S, l => match l with
    | .Starred x _ :: l => isE e S x && isEs r S l
    | _ => false
def isAs : As → Sx → List Expr → Bool
  | .nil, S, l => l.isEmpty
  | .val e r, S, l => match l with
    | x :: l => isE e S x && plainArg x && isAs r S l
    | [] => false
  | .mut i r, S, l => match l with
    | .Name n _ :: l => nameB S i n && isAs r S l
    | _ => false
  | .scr i r, S, l => match l with
    | .Name n _ :: l => nameB S i n && isAs r S l
    | _ => false
  | .lend i r, S, l => match l with
    | .Name n _ :: l => nameB S i n && isAs r S l
    | _ => false
def isIt : It → Sx → Expr → Expr → Bool
  | .data e, S, t, x => isE e S x
  | .rng e, S, t, x => match x with
    | .Call (.Name n _) [y] [] _ => eqStr n "range" && biB S n && isE e S y && plainArg y
    | _ => false
  | .zip a b, S, t, x => match x with
    | .Call (.Name n _) [y, z] [] _ => eqStr n "zip" && biB S n && isE a S y && isE b S z && plainArg y && plainArg z && isTupE t
    | _ => false
  | .enum e, S, t, x => match x with
    | .Call (.Name n _) [y] [] _ => eqStr n "enumerate" && biB S n && isE e S y && plainArg y && isTupE t
    | _ => false
def isO : Eo → Sx → Option Expr → Bool
  | .no, S, o => match o with
    | none => true
    | some _ => false
  | .yes e, S, o => match o with
    | some x => isE e S x
    | none => false
def isC : Eo → Sx → List Expr → Bool
  | .no, S, l => l.isEmpty
  | .yes e, S, l => match l with
    | [x] => isE e S x
    | _ => false
end
end DR
/-! Part r: what is checked is so. -/
namespace DR
open PySem PySem.Spec PyProof.Rows L2

/-- a def that may be called here, by its name, answers as m -/
structure Has (X : Cx) (K : PySem.W.Frag) (x : Str) (m : Fn) : Prop where
  ex : ∃ γ k f fd ps, GFn γ X.prog X.w X.K X.mg X.base k f fd ps (spD K m) ∧ (γ = true → X.A.guards = some []) ∧ Room k X.A ∧ X.mg x = some (.ref f) ∧ PySem.W.keepIn X.K (.ref f) = true ∧ Binds X.K fd ps []
/-- a generator def that may be called here -/
structure HasG (X : Cx) (K : PySem.W.Frag) (x : Str) (m : Fn) : Prop where
  ex : ∃ k f fd ps, L2.GFn X.prog X.w X.K X.mg X.base k f fd ps (spG K m) ∧ Room (k + 3) X.A ∧ X.mg x = some (.ref f) ∧ PySem.W.keepIn X.K (.ref f) = true ∧ Binds X.K fd ps []
/-- the place is as S says -/
structure Gd (X : Cx) (c : Ct) (W : WX) (Φ : Nat → Fn) (S : Sx) : Prop where
  N : X.N = S.N
  nd : X.N.Nodup
  sc : X.env.scope = S.sc
  fn : X.fn = S.fb
  K : c.K = X.K
  calm : X.calm = true
  un : X.A.units + 68 < cLine
  gu : ("repr" : Str) ∈ S.bs → X.A.guards = some []
  tk : Takes X W
  bs : ∀ b ∈ S.bs, X.mg b = none
  gi : ∀ p ∈ S.gi, ∃ u, X.mg p.1 = some u ∧ RelV (.int p.2) u
  fs : ∀ i x, S.nm[i]? = some x → Has X c.K x (Φ i)
  gs : ∀ i x, S.gn[i]? = some x → HasG X c.K x (Φ (1000 + i))
section
variable {X : Cx} {c : Ct} {W : WX} {Φ : Nat → Fn} {S : Sx}
theorem Gd.blk (g : Gd X c W Φ S) (s : Shared) (H : Hp) (scope : Scope) (cl : List (Str × Addr)) (C : Addr) (fp : List Addr) (L : Addr) : Gd (X.blk s H scope (compEnvC scope cl C X.env) fp) (c.more L) W0 Φ (S.blk scope) where
  N := g.N
  nd := g.nd
  sc := by
    show relS scope X.env.scope = relS scope S.sc
    rw [g.sc]
  fn := rfl
  K := g.K
  calm := g.calm
  un := g.un
  gu := g.gu
  tk := fun u s' ⟨_, _, _, _, _, _, _, _, _, _, _, _, _, _, _, _, w⟩ => w
  bs := g.bs
  gi := g.gi
  fs := fun i x h => ⟨(g.fs i x h).ex⟩
  gs := fun i x h => ⟨(g.gs i x h).ex⟩
theorem Gd.moreC (g : Gd X c W Φ S) (L : Addr) : Gd X (c.more L) W Φ S :=
  { N := g.N, nd := g.nd, sc := g.sc, fn := g.fn, K := g.K, calm := g.calm, un := g.un, gu := g.gu, tk := g.tk, bs := g.bs, gi := g.gi, fs := g.fs, gs := g.gs }
theorem Gd.gl (g : Gd X c W Φ S) {x : Str} (h : glB S.sc x = true) : Gl X x := by
  show X.env.scope.names.lookup x = _
  rw [g.sc]
  exact of_decide_eq_true h
theorem Gd.bi (g : Gd X c W Φ S) {x : Str} (h : biB S x = true) : Gl X x ∧ X.mg x = none := by
  unfold biB at h
  rw [Bool.and_eq_true] at h
  exact ⟨g.gl h.1, g.bs x (of_decide_eq_true h.2)⟩
theorem Gd.name (g : Gd X c W Φ S) {i : Nat} {x : Str} (h : nameB S i x = true) : X.N[i]? = some x ∧ Vis X.env.scope x ∧ (x == ("__debug__" : Str)) = false ∧ (x == ("__classdict__" : Str)) = false := by
  unfold nameB at h
  simp only [Bool.and_eq_true] at h
  obtain ⟨⟨⟨h1, h2⟩, h3⟩, h4⟩ := h
  refine ⟨by rw [g.N]; exact of_decide_eq_true h1, ?_, by unfold ndb at h3; simpa using h3, by simpa using h4⟩
  unfold visB at h2
  unfold Vis
  rw [g.sc]
  split at h2 <;> first | exact .inl (by assumption) | exact .inr (.inl (by assumption)) | exact .inr (.inr (by assumption)) | cases h2
theorem Gd.loc (g : Gd X c W Φ S) {x : Str} (h : locB S x = true) : L2.Loc X.env.scope x ∧ (X.fn x = true ∨ X.env.scope.names.lookup x = some .local) := by
  unfold locB at h
  unfold L2.Loc
  rw [g.sc, g.fn]
  split at h
  · rename_i e
    exact ⟨.inl e, .inr e⟩
  · rename_i e
    exact ⟨.inr e, .inl h⟩
  · cases h
theorem subB_ok {is vs : List Nat} (h : subB is vs = true) : ∀ i ∈ is, i ∈ vs := fun i m => of_decide_eq_true (List.all_eq_true.mp h i m)
/-- the three ways in which an expression is met -/
structure AllX (X : Cx) (c : Ct) (W : WX) (f : Env → Res D) (x : Expr) : Prop where
  e : PE X x (tD c W f)
  t : PT X x (tT c W (trE f))
  w : ∀ op vs p, x = .BoolOp op vs p → PW X x (tT c W (trE f))
def plainT : Expr → Bool
  | .UnaryOp .Not _ _ => false
  | .BoolOp .. => false
  | .IfExp .. => false
  | .Compare .. => false
  | _ => true
theorem AllX.of (hK : c.K = X.K) {f : Env → Res D} {x : Expr} (h : PE X x (tD c W f)) (hp : plainT x = true) : AllX X c W f x := by
  refine ⟨h, k_truth hK h fun whole => ?_, fun op vs p e => ?_⟩
  · cases x <;> first | rfl | (cases hp; done) | skip
    rename_i op y p
    cases op <;> first | rfl | cases hp
  · rw [e] at hp
    cases hp
theorem k_iteT {e a b : Expr} {fc fa fb : Env → Res D} {pos : Pos} (hc : PT X e (tT c W (trE fc))) (ha : PT X a (tT c W (trE fa))) (hb : PT X b (tT c W (trE fb))) : PT X (.IfExp e a b pos) (tT c W (trE (iteE fc fa fb))) := by
  refine ⟨fun pins s σ H Q I ⟨ρ, O, st, h⟩ => ?_⟩
  have h0 : tT c W (trE fc) σ H fun k H1 => if k = true then tT c W (trE fa) σ H1 Q else tT c W (trE fb) σ H1 Q := by
    refine ⟨ρ, O, st, ?_⟩
    have h1 : Rp c W σ O H (trE fc ρ) fun k ρ1 H1 O1 => Rp c W σ O1 H1 (if k = true then trE fa ρ1 else trE fb ρ1) fun k' _ H' _ => Q k' H' := by
      have : trE (iteE fc fa fb) ρ = (trE fc ρ).bind fun k ρ1 => if k = true then trE fa ρ1 else trE fb ρ1 := by
        show ((fc ρ).bind _).bind _ = ((fc ρ).bind _).bind _
        cases fc ρ with
        | ok x ρ1 =>
          simp only [Res.bind]
          cases tru x with
          | none => rfl
          | some k => cases k <;> rfl
        | exc x ρ1 => rfl
        | bad => rfl
      rw [this] at h
      exact h.bind
    refine h1.imp fun k ρ1 H1 O1 p1 s1 q => ?_
    cases k with
    | true => exact ⟨ρ1, O1, s1, q⟩
    | false => exact ⟨ρ1, O1, s1, q⟩
  show wpAny _ _ (do if ← isTrue e X.env (eval e X.env) then isTrue a X.env (eval a X.env) else isTrue b X.env (eval b X.env)) _ _ _
  refine wpAny_bind (thn (hc.run pins s σ H _ I h0) fun d s1 ⟨H1, I1, q1⟩ => ?_)
  cases d with
  | true => exact ha.run pins s1 σ H1 Q I1 q1
  | false => exact hb.run pins s1 σ H1 Q I1 q1
end
end DR
/-! Part t: what is checked evaluates so. -/
namespace DR
open PySem PySem.Spec PyProof.Rows L2
section
variable {X : Cx} {c : Ct} {W : WX} {Φ : Nat → Fn} {S : Sx}
theorem AllX.eq {f g : Env → Res D} {x : Expr} (h : AllX X c W f x) (e : ∀ ρ, f ρ = g ρ) : AllX X c W g x := (funext e : f = g) ▸ h
theorem inoT (hK : c.K = X.K) (hu : X.A.units + 65 < cLine) {n : Bool} {i : Nat} {x : Str} {op : CmpOp} {a : Expr} {fa : Env → Res D} {p pos : Pos} (hop : op = if n then .NotIn else .In) (hN : X.N[i]? = some x) (hv : Vis X.env.scope x) (h1 : (x == ("__debug__" : Str)) = false) (h2 : (x == ("__classdict__" : Str)) = false) (ha : PE X a (tD c W fa)) :
    PT X (.Compare a [op] [.Name x p] pos) (tT c W (trE fun ρ => (fa ρ).bind fun x ρ1 => (lift (wr (ρ1.at i)) ρ1).bind fun xs _ => (lift (copIn x (.list xs)) ρ1).bind fun k ρ1 => .ok (.bool (if n then !k else k)) ρ1)) := by
  have go : ∀ {σ : Sg} {H : Hp} {Q : Bool → Hp → Prop}, tT c W (trE fun ρ => (fa ρ).bind fun x ρ1 => (lift (wr (ρ1.at i)) ρ1).bind fun xs _ => (lift (copIn x (.list xs)) ρ1).bind fun k ρ1 => .ok (.bool (if n then !k else k)) ρ1) σ H Q →
      tD c W fa σ H fun v H1 => tVar i σ H1 fun w H2 => ∃ d ds, Dp X.K H2 v d ∧ Dp X.K H2 w (.list ds) ∧ SeqAt.shaped d = true ∧ SeqAt.shaped (.list ds) = true ∧ ∃ b, V.bl (if n then !(ds.any fun z => PyData.eqv z d) else ds.any fun z => PyData.eqv z d) = .bl b ∧ Q b H2 := by
    intro σ H Q ⟨ρ, O, s, h⟩
    refine ⟨ρ, O, s, h.bind.bind.imp fun d ρ1 H1 O1 p1 s1 h1 v dv => ?_⟩
    obtain ⟨xs, e1, h1⟩ := h1.then s1
    obtain ⟨k, e2, h1⟩ := h1.then s1
    obtain ⟨b, ws, eb, _, _, hH, t⟩ := s1.cell e1
    simp only [copIn] at e2
    split at e2
    · rename_i hc
      cases e2
      have h2 := h1 H1 O1 .refl s1
      exact ⟨.ref b, sget_some eb, d, xs, hK ▸ dv.real.dp, hK ▸ (Dd.lst hH (t.le hid_le)).dp, hc.1, hc.2, _, rfl, h2 H1 O1 .refl s1⟩
    · cases e2
  cases n with
  | true =>
    subst hop
    exact PT.weak (pt_cmpR (op_notInD hu) ha (pe_var hN hv h1 h2) rfl) fun σ H Q h => go h
  | false =>
    subst hop
    exact PT.weak (pt_cmpR (op_inD hu) ha (pe_var hN hv h1 h2) rfl) fun σ H Q h => go h
theorem okLit {e : Expr} {v : V} {r : D} (h : PE X e (tC v)) (hd : ∀ G, Dd c.K G v r) : PE X e (tD c W fun ρ => .ok r ρ) := k_ok (f := fun _ => .bad) (t := tC v) h hd
/-- a condition of a comprehension -/
theorem condNo : PTs X [] (tT c W fun ρ => .ok true ρ) := ⟨fun pins s σ H Q I ⟨ρ, O, st, h⟩ => pts_nil.run pins s σ H Q I (h H O .refl st)⟩
end
/-! the conjunctions of a check -/
theorem and2 {a b : Bool} (h : (a && b) = true) : a = true ∧ b = true := by simpa using h
section
variable {X : Cx} {c : Ct} {W : WX} {Φ : Nat → Fn} {S : Sx}
mutual
theorem okTg : ∀ (t : Tg) {X : Cx} {c : Ct} {W : WX} {S : Sx} {x : Expr}, Gd X c W Φ S → isTg S t x = true → PG X x (tB c t)
  | .nm i, X, c, W, S, x, g, h => by
    simp only [isTg] at h
    split at h
    · obtain ⟨h1, h2⟩ := and2 h
      obtain ⟨h3, h4⟩ := g.loc h2
      exact g_nm g.nd (by rw [g.N]; exact of_decide_eq_true h1) h3 h4
    · cases h
  | .tup ts, X, c, W, S, x, g, h => by
    simp only [isTg] at h
    split at h
    · obtain ⟨h1, h3⟩ := and2 h
      obtain ⟨h1, h2⟩ := and2 h1
      exact g_tup g.K g.calm h2 (of_decide_eq_true h3) (okTgs ts g h1)
    · cases h
theorem okTgs : ∀ (t : Tgs) {X : Cx} {c : Ct} {W : WX} {S : Sx} {es : List Expr}, Gd X c W Φ S → isTgs S t es = true → PGs X es (tBs c t)
  | .nil, X, c, W, S, es, g, h => by
    simp only [isTgs, List.isEmpty_iff] at h
    subst h
    exact g_nil
  | .cons t r, X, c, W, S, es, g, h => by
    simp only [isTgs] at h
    split at h
    · rename_i e es
      obtain ⟨h1, h2⟩ := and2 h
      refine g_cons ?_ (okTg t g h1) (okTgs r g h2)
      cases t <;> (simp only [isTg] at h1; split at h1 <;> first | rfl | cases h1)
    · cases h
end
theorem tTm_of {f : Env → Res Bool} {fs : List Expr} (h : ∀ L, PTs X fs (tT (c.more L) W0 f)) : PTs X fs (tTm c f) := ⟨fun pins s σ H Q I ⟨L, z⟩ => (h L).run pins s σ H Q I z⟩
theorem tDm_of {f : Env → Res D} {e : Expr} (h : ∀ L, PE X e (tD (c.more L) W0 f)) : PE X e (tDm c f) := ⟨fun pins s σ H Q I ⟨L, z⟩ => (h L).run pins s σ H Q I z⟩
theorem tIm_of {f : Env → Res (List D)} {t e : Expr} (h : ∀ L, PI X t e (tI (c.more L) W0 f)) : PI X t e (tIm c f) := ⟨fun pins s σ H Q I ⟨L, z⟩ => (h L).run pins s σ H Q I z⟩
theorem gBm_of {t : Tg} {e : Expr} (h : ∀ L, PG X e (tB (c.more L) t)) : PG X e (gBm c t) := ⟨fun pins s σ H v u Q I r ⟨L, z⟩ => (h L).run pins s σ H v u Q I r z⟩
end
theorem own_snd (S : Sx) (vs : List Nat) : (ownOf S vs).map (·.2) = vs := by
  unfold ownOf
  rw [List.map_map]
  exact List.map_id _
theorem fold_of {e : Expr} (h : notSetE e = true) : ∀ (env : PySem.Env) (x : Value), foldedSetIterable e env x = pure x := fun env x => noFold h x
set_option maxHeartbeats 40000000 in
mutual
theorem okE (Φ : Nat → Fn) : ∀ (e : E) {X : Cx} {c : Ct} {W : WX} {S : Sx} {x : Expr}, Gd X c W Φ S → isE e S x = true → AllX X c W (ev Φ e) x
  | .var i, X, c, W, S, x, g, h => by
    simp only [isE] at h
    split at h
    · obtain ⟨h1, h2, h3, h4⟩ := g.name h
      exact (AllX.of g.K (k_var h1 h2 h3 h4) rfl).eq fun ρ => by first | (rw [ev]; done) | (rw [ev]; rfl)
    · cases h
  | .lit l, X, c, W, S, x, g, h => by
    simp only [isE] at h
    split at h
    · rename_i k j p
      cases l <;> cases k <;> simp only [litB, decide_eq_true_eq, Bool.false_eq_true] at h
      · subst h; exact (AllX.of g.K (okLit pe_int fun G => .int _) rfl).eq fun ρ => by rw [ev]; rfl
      · subst h; exact (AllX.of g.K (okLit pe_bl fun G => .bl _) rfl).eq fun ρ => by rw [ev]; rfl
      · exact (AllX.of g.K (okLit pe_non fun G => .non) rfl).eq fun ρ => by rw [ev]; rfl
      · subst h; exact (AllX.of g.K (okLit pe_str fun G => .str _) rfl).eq fun ρ => by rw [ev]; rfl
    · cases h
  | .gint n z, X, c, W, S, x, g, h => by
    simp only [isE] at h
    split at h
    · obtain ⟨h, h4⟩ := and2 h
      obtain ⟨h, h3⟩ := and2 h
      obtain ⟨h1, h2⟩ := and2 h
      obtain ⟨u, hm, r⟩ := g.gi _ (of_decide_eq_true h3)
      exact (AllX.of g.K (okLit (pe_glob (g.gl h2) hm r (by unfold ndb at h4; simpa using h4)) fun G => .int _) rfl).eq fun ρ => by rw [ev]
    · cases h
  | .tup es, X, c, W, S, x, g, h => by
    simp only [isE] at h
    split at h
    · exact (AllX.of g.K (k_tup (okEs Φ es g h)) rfl).eq fun ρ => by rw [ev]
    · cases h
  | .lst es, X, c, W, S, x, g, h => by
    simp only [isE] at h
    split at h
    · exact (AllX.of g.K (k_lst (okEs Φ es g h)) rfl).eq fun ρ => by rw [ev]
    · cases h
  | .bop o a b, X, c, W, S, x, g, h => by
    simp only [isE] at h
    split at h
    · obtain ⟨h, h3⟩ := and2 h
      obtain ⟨h1, h2⟩ := and2 h
      have h1 := of_decide_eq_true h1
      subst h1
      exact (AllX.of g.K (k_bop g.K (okE Φ a g h2).e (okE Φ b g h3).e) rfl).eq fun ρ => by rw [ev]
    · cases h
  | .neg a, X, c, W, S, x, g, h => by
    simp only [isE] at h
    split at h
    · exact (AllX.of g.K (k_neg g.K (okE Φ a g h).e) rfl).eq fun ρ => by rw [ev]
    · cases h
  | .cmp o a b, X, c, W, S, x, g, h => by
    simp only [isE] at h
    split at h
    · rename_i l op r p
      obtain ⟨h, h4⟩ := and2 h
      obtain ⟨h, h3⟩ := and2 h
      obtain ⟨h1, h2⟩ := and2 h
      have h1 := of_decide_eq_true h1
      subst h1
      have hu : X.A.units + 65 < cLine := by have := g.un; omega
      have hm : behindInMarks o.op r = false := by simpa using h2
      exact AllX.eq ⟨k_cmp g.K hu (okE Φ a g h3).e (okE Φ b g h4).e hm, k_cmpT g.K hu (okE Φ a g h3).e (okE Φ b g h4).e hm, fun _ _ _ e => nomatch e⟩ fun ρ => by rw [ev]
    · cases h
  | .chain o o' a b d, X, c, W, S, x, g, h => by
    simp only [isE] at h
    split at h
    · rename_i l op op' m r p
      obtain ⟨h, h6⟩ := and2 h
      obtain ⟨h, h5⟩ := and2 h
      obtain ⟨h, h4⟩ := and2 h
      obtain ⟨h, h3⟩ := and2 h
      obtain ⟨h1, h2⟩ := and2 h
      have h1 := of_decide_eq_true h1
      have h2 := of_decide_eq_true h2
      subst h1 h2
      have hu : X.A.units + 65 < cLine := by have := g.un; omega
      have hm : lastMarks [o.op, o'.op] [m, r] = false := by simpa using h3
      exact AllX.eq ⟨k_chain g.K hu (okE Φ a g h4).e (okE Φ b g h5).e (okE Φ d g h6).e hm, k_chainT g.K hu (okE Φ a g h4).e (okE Φ b g h5).e (okE Φ d g h6).e hm, fun _ _ _ e => nomatch e⟩ fun ρ => by rw [ev]; rfl
    · cases h
  | .one a, X, c, W, S, x, g, h => by
    simp only [isE] at h
    split at h
    · have A := okE Φ a g h
      exact AllX.eq ⟨k_one A.e, (k_oneW A.t).pt, fun _ _ _ _ => k_oneW A.t⟩ fun ρ => by rw [ev]
    · cases h
  | .and a b, X, c, W, S, x, g, h => by
    simp only [isE] at h
    split at h
    · obtain ⟨h1, h2⟩ := and2 h
      have A := okE Φ a g h1
      have B := okE Φ b g h2
      have w := k_andW A.t (B.w _ _ _ rfl)
      exact AllX.eq ⟨k_and g.K A.e B.e, w.pt, fun _ _ _ _ => w⟩ fun ρ => by rw [ev]; rfl
    · cases h
  | .or a b, X, c, W, S, x, g, h => by
    simp only [isE] at h
    split at h
    · obtain ⟨h1, h2⟩ := and2 h
      have A := okE Φ a g h1
      have B := okE Φ b g h2
      have w := k_orW A.t (B.w _ _ _ rfl)
      exact AllX.eq ⟨k_or g.K A.e B.e, w.pt, fun _ _ _ _ => w⟩ fun ρ => by rw [ev]; rfl
    · cases h
  | .not a, X, c, W, S, x, g, h => by
    simp only [isE] at h
    split at h
    · have A := okE Φ a g h
      exact AllX.eq ⟨k_not g.K A.e, k_notT A.t, fun _ _ _ e => nomatch e⟩ fun ρ => by rw [ev]
    · cases h
  | .ite d a b, X, c, W, S, x, g, h => by
    simp only [isE] at h
    split at h
    · obtain ⟨h, h3⟩ := and2 h
      obtain ⟨h1, h2⟩ := and2 h
      have A := okE Φ a g h2
      have B := okE Φ b g h3
      have C := okE Φ d g h1
      exact AllX.eq ⟨k_ite C.t A.e B.e, k_iteT C.t A.t B.t, fun _ _ _ e => nomatch e⟩ fun ρ => by rw [ev]; rfl
    · cases h
  | .ix a b, X, c, W, S, x, g, h => by
    simp only [isE] at h
    split at h
    · obtain ⟨h, h3⟩ := and2 h
      obtain ⟨h1, h2⟩ := and2 h
      exact (AllX.of g.K (k_ix g.K (okE Φ a g h1).e (okE Φ b g h2).e h3) rfl).eq fun ρ => by rw [ev]
    · cases h
  | .ixo i b, X, c, W, S, x, g, h => by
    simp only [isE] at h
    split at h
    · obtain ⟨h, h3⟩ := and2 h
      obtain ⟨h1, h2⟩ := and2 h
      obtain ⟨q1, q2, q3, q4⟩ := g.name h1
      exact (AllX.of g.K (k_ixo g.K q1 q2 q3 q4 (okE Φ b g h2).e h3) rfl).eq fun ρ => by rw [ev]
    · cases h
  | .sl a lo hi, X, c, W, S, x, g, h => by
    simp only [isE] at h
    split at h
    · obtain ⟨h, h3⟩ := and2 h
      obtain ⟨h1, h2⟩ := and2 h
      exact (AllX.of g.K (k_sl g.K (okE Φ a g h1).e (okO Φ lo g h2) (okO Φ hi g h3)) rfl).eq fun ρ => by rw [ev]
    · cases h
  | .bi f a, X, c, W, S, x, g, h => by
    simp only [isE] at h
    split at h
    · obtain ⟨h, h4⟩ := and2 h
      obtain ⟨h, h3⟩ := and2 h
      obtain ⟨h1, h2⟩ := and2 h
      have h1 := of_decide_eq_true h1
      subst h1
      obtain ⟨q1, q2⟩ := g.bi h2
      have hg : f = .repr → X.A.guards = some [] := fun e => by
        subst e
        unfold biB at h2
        rw [Bool.and_eq_true] at h2
        exact g.gu (of_decide_eq_true h2.2)
      exact (AllX.of g.K (k_bi g.K g.calm g.un hg q1 q2 (okE Φ a g h3).e h4) rfl).eq fun ρ => by rw [ev]
    · cases h
  | .mm mx a b, X, c, W, S, x, g, h => by
    simp only [isE] at h
    split at h
    · obtain ⟨h, h6⟩ := and2 h
      obtain ⟨h, h5⟩ := and2 h
      obtain ⟨h, h4⟩ := and2 h
      obtain ⟨h, h3⟩ := and2 h
      obtain ⟨h1, h2⟩ := and2 h
      have h1 := of_decide_eq_true h1
      subst h1
      obtain ⟨q1, q2⟩ := g.bi h2
      exact (AllX.of g.K (k_mm g.K g.calm q1 q2 (okE Φ a g h3).e (okE Φ b g h4).e h5 h6) rfl).eq fun ρ => by rw [ev]
    · cases h
  | .isi t a, X, c, W, S, x, g, h => by
    simp only [isE] at h
    split at h
    · obtain ⟨h, h6⟩ := and2 h
      obtain ⟨h, h5⟩ := and2 h
      obtain ⟨h, h4⟩ := and2 h
      obtain ⟨h, h3⟩ := and2 h
      obtain ⟨h1, h2⟩ := and2 h
      have h1 := of_decide_eq_true h1
      have h2 := of_decide_eq_true h2
      subst h1 h2
      obtain ⟨q1, q2⟩ := g.bi h3
      obtain ⟨q3, q4⟩ := g.bi h4
      exact (AllX.of g.K (k_isi g.K q1 q2 q3 q4 (okE Φ a g h5).e h6) rfl).eq fun ρ => by rw [ev]
    · cases h
  | .lens i, X, c, W, S, x, g, h => by
    simp only [isE] at h
    split at h
    · obtain ⟨h, h3⟩ := and2 h
      obtain ⟨h1, h2⟩ := and2 h
      have h1 := of_decide_eq_true h1
      subst h1
      obtain ⟨q1, q2⟩ := g.bi h2
      obtain ⟨q3, q4, q5, q6⟩ := g.name h3
      exact (AllX.of g.K (k_lens g.K q3 q4 q5 q6 q1 q2) rfl).eq fun ρ => by rw [ev]
    · cases h
  | .ixs i b, X, c, W, S, x, g, h => by
    simp only [isE] at h
    split at h
    · obtain ⟨h, h3⟩ := and2 h
      obtain ⟨h1, h2⟩ := and2 h
      obtain ⟨q1, q2, q3, q4⟩ := g.name h1
      exact (AllX.of g.K (k_ixs g.K q1 q2 q3 q4 (okE Φ b g h2).e h3) rfl).eq fun ρ => by rw [ev]
    · cases h
  | .rng t a, X, c, W, S, x, g, h => by
    simp only [isE] at h
    split at h
    · obtain ⟨h, h6⟩ := and2 h
      obtain ⟨h, h5⟩ := and2 h
      obtain ⟨h, h4⟩ := and2 h
      obtain ⟨h, h3⟩ := and2 h
      obtain ⟨h1, h2⟩ := and2 h
      have h1 := of_decide_eq_true h1
      have h2 := of_decide_eq_true h2
      subst h2
      obtain ⟨q1, q2⟩ := g.bi h3
      obtain ⟨q3, q4⟩ := g.bi h4
      exact (AllX.of g.K (k_rng (t := t) g.K g.calm (by cases t <;> exact h1) q1 q2 q3 q4 (okE Φ a g h5).e h6) rfl).eq fun ρ => by rw [ev]
    · cases h
  | .call f as, X, c, W, S, x, g, h => by
    simp only [isE] at h
    split at h
    · rename_i n p ys q
      obtain ⟨h, h3⟩ := and2 h
      obtain ⟨h1, h2⟩ := and2 h
      unfold fnB at h1
      obtain ⟨h1, h6⟩ := and2 h1
      obtain ⟨h4, h5⟩ := and2 h1
      obtain ⟨γ, k, f', fd, ps, G, hg, hr, hm, hk, hb⟩ := (g.fs f n (of_decide_eq_true h4)).ex
      have hd : (n == ("__debug__" : Str)) = false := by unfold ndb at h6; simpa using h6
      have A := okAs Φ as g h2
      cases ys with
      | cons y ys => exact (AllX.of g.K (k_call G hr hg (g.gl h5) hm hk hb g.tk A hd h3) rfl).eq fun ρ => by rw [ev]
      | nil =>
        refine (AllX.of g.K (k_call0 G hr hg (g.gl h5) hm hk hb g.tk hd) rfl).eq fun ρ => ?_
        cases as with
        | nil => rw [ev, evAs]
        | _ => simp [isAs] at h2
    · cases h
  | .comp tg it d e vs, X, c, W, S, x, g, h => by
    simp only [isE] at h
    split at h
    · rename_i y t i fs a scope p
      obtain ⟨h, h8⟩ := and2 h
      obtain ⟨h, h7⟩ := and2 h
      obtain ⟨h, h6⟩ := and2 h
      obtain ⟨h, h5⟩ := and2 h
      obtain ⟨h, h4⟩ := and2 h
      obtain ⟨h, h3⟩ := and2 h
      obtain ⟨h1, h2⟩ := and2 h
      have h1 := of_decide_eq_true h1
      subst h1
      have ok : BlkOk X.N X.env.scope scope (ownOf S vs) := by
        rw [g.N, g.sc]
        exact blkOk_by h3
      have P := pe_lc (pos := p) g.calm g.nd (okIt Φ it g h5) ok (fun s H C cl fp => gBm_of fun L => okTg tg (g.blk s H scope cl C fp L) h6) (fun s H C cl fp => tTm_of fun L => okC Φ d (g.blk s H scope cl C fp L) h7) (fun s H C cl fp => tDm_of fun L => (okE Φ e (g.blk s H scope cl C fp L) h8).e) (fold_of h2 _)
      rw [own_snd] at P
      exact (AllX.of g.K (PE.weak P fun σ H Q z => lc_reads (subB_ok h4) z) rfl).eq fun ρ => by rw [ev]; rfl
    · cases h
  | .comp2 tg it d tg2 it2 d2 e vs vs2, X, c, W, S, x, g, h => by
    simp only [isE] at h
    split at h
    · rename_i y t i fs a t2 i2 fs2 a2 scope p
      obtain ⟨h, h15⟩ := and2 h
      obtain ⟨h, h14⟩ := and2 h
      obtain ⟨h, h13⟩ := and2 h
      obtain ⟨h, h12⟩ := and2 h
      obtain ⟨h, h11⟩ := and2 h
      obtain ⟨h, h10⟩ := and2 h
      obtain ⟨h, h9⟩ := and2 h
      obtain ⟨h, h8⟩ := and2 h
      obtain ⟨h, h7⟩ := and2 h
      obtain ⟨h, h6⟩ := and2 h
      obtain ⟨h, h5⟩ := and2 h
      obtain ⟨h, h4⟩ := and2 h
      obtain ⟨h, h3⟩ := and2 h
      obtain ⟨h1, h2⟩ := and2 h
      have h1 := of_decide_eq_true h1
      have h2 := of_decide_eq_true h2
      subst h1 h2
      have ok : BlkOk X.N X.env.scope scope (ownOf S vs) := by
        rw [g.N, g.sc]
        exact blkOk_by h5
      have hvv : ∀ i ∈ vs2, i ∈ (ownOf S vs).map (·.2) := by
        rw [own_snd]
        exact subB_ok h8
      have P := pe_lc2 (pos := p) g.calm g.nd (okIt Φ it g h9) ok hvv (fun s H C cl fp => gBm_of fun L => okTg tg (g.blk s H scope cl C fp L) h10) (fun s H C cl fp => tTm_of fun L => okC Φ d (g.blk s H scope cl C fp L) h11)
        (fun s H C cl fp => tIm_of fun L => okIt Φ it2 (g.blk s H scope cl C fp L) h12) (fun s H C cl fp => gBm_of fun L => okTg tg2 (g.blk s H scope cl C fp L) h13) (fun s H C cl fp => tTm_of fun L => okC Φ d2 (g.blk s H scope cl C fp L) h14)
        (fun s H C cl fp => tDm_of fun L => (okE Φ e (g.blk s H scope cl C fp L) h15).e) (fold_of h3 _) (fold_of h4)
      rw [own_snd] at P
      exact (AllX.of g.K (PE.weak P fun σ H Q z => lc2_reads (subB_ok h6) (subB_ok h7) (subB_ok h8) z) rfl).eq fun ρ => by rw [ev]; rfl
    · cases h
  | .ino n a i, X, c, W, S, x, g, h => by
    simp only [isE] at h
    split at h
    · obtain ⟨h, h3⟩ := and2 h
      obtain ⟨h1, h2⟩ := and2 h
      have h1 := of_decide_eq_true h1
      obtain ⟨q1, q2, q3, q4⟩ := g.name h2
      have hu : X.A.units + 65 < cLine := by have := g.un; omega
      exact AllX.eq ⟨k_ino g.K hu h1 q1 q2 q3 q4 (okE Φ a g h3).e, inoT g.K hu h1 q1 q2 q3 q4 (okE Φ a g h3).e, fun _ _ _ e => nomatch e⟩ fun ρ => by rw [ev]
    · cases h
  | .leno i, X, c, W, S, x, g, h => by
    simp only [isE] at h
    split at h
    · obtain ⟨h, h3⟩ := and2 h
      obtain ⟨h1, h2⟩ := and2 h
      have h1 := of_decide_eq_true h1
      subst h1
      obtain ⟨q1, q2⟩ := g.bi h2
      obtain ⟨q3, q4, q5, q6⟩ := g.name h3
      exact (AllX.of g.K (k_leno q3 q4 q5 q6 q1 q2) rfl).eq fun ρ => by rw [ev]
    · cases h
  | .lenset a, X, c, W, S, x, g, h => by
    simp only [isE] at h
    split at h
    · obtain ⟨h, h6⟩ := and2 h
      obtain ⟨h, h5⟩ := and2 h
      obtain ⟨h, h4⟩ := and2 h
      obtain ⟨h, h3⟩ := and2 h
      obtain ⟨h1, h2⟩ := and2 h
      have h1 := of_decide_eq_true h1
      have h2 := of_decide_eq_true h2
      subst h1 h2
      obtain ⟨q1, q2⟩ := g.bi h3
      obtain ⟨q3, q4⟩ := g.bi h4
      exact (AllX.of g.K (k_lenset g.K g.calm g.un q1 q2 q3 q4 (okE Φ a g h5).e h6) rfl).eq fun ρ => by rw [ev]
    · cases h
  | .sortset a, X, c, W, S, x, g, h => by
    simp only [isE] at h
    split at h
    · obtain ⟨h, h6⟩ := and2 h
      obtain ⟨h, h5⟩ := and2 h
      obtain ⟨h, h4⟩ := and2 h
      obtain ⟨h, h3⟩ := and2 h
      obtain ⟨h1, h2⟩ := and2 h
      have h1 := of_decide_eq_true h1
      have h2 := of_decide_eq_true h2
      subst h1 h2
      obtain ⟨q1, q2⟩ := g.bi h3
      obtain ⟨q3, q4⟩ := g.bi h4
      exact (AllX.of g.K (k_sortset g.K g.calm q1 q2 q3 q4 (okE Φ a g h5).e h6) rfl).eq fun ρ => by rw [ev]
    · cases h
  | .sortsc tg it d e vs, X, c, W, S, x, g, h => by
    simp only [isE] at h
    split at h
    · rename_i n p y t i fs a scope p2 q
      obtain ⟨h, h8⟩ := and2 h
      obtain ⟨h, h7⟩ := and2 h
      obtain ⟨h, h6⟩ := and2 h
      obtain ⟨h, h5⟩ := and2 h
      obtain ⟨h, h4⟩ := and2 h
      obtain ⟨h, h3⟩ := and2 h
      obtain ⟨h, h2⟩ := and2 h
      obtain ⟨h, h1⟩ := and2 h
      obtain ⟨a1, a2⟩ := and2 h
      have h1 := of_decide_eq_true h1
      subst h1
      have a1 := of_decide_eq_true a1
      subst a1
      obtain ⟨q1, q2⟩ := g.bi a2
      have ok : BlkOk X.N X.env.scope scope (ownOf S vs) := by
        rw [g.N, g.sc]
        exact blkOk_by h3
      have P := k_sortsc (p := p) (pos := q) (pos2 := p2) g.calm g.nd q1 q2 (okIt Φ it g h5) ok (own_snd S vs) (subB_ok h4) (fun s H C cl fp => gBm_of fun L => okTg tg (g.blk s H scope cl C fp L) h6) (fun s H C cl fp => tTm_of fun L => okC Φ d (g.blk s H scope cl C fp L) h7) (fun s H C cl fp => tDm_of fun L => (okE Φ e (g.blk s H scope cl C fp L) h8).e) (fold_of h2 _)
      exact (AllX.of g.K P rfl).eq fun ρ => by first | (rw [ev]; done) | (rw [ev]; rfl)
    · cases h
  | .rev a, X, c, W, S, x, g, h => by
    simp only [isE] at h
    split at h
    · exact (AllX.of g.K (k_rev g.K (okE Φ a g h).e) rfl).eq fun ρ => by rw [ev]
    · cases h
  | .listg f as, X, c, W, S, x, g, h => by
    simp only [isE] at h
    split at h
    · obtain ⟨h, h5⟩ := and2 h
      obtain ⟨h, h4⟩ := and2 h
      obtain ⟨h, h3⟩ := and2 h
      obtain ⟨h1, h2⟩ := and2 h
      have h1 := of_decide_eq_true h1
      subst h1
      obtain ⟨q1, q2⟩ := g.bi h2
      unfold gnB at h3
      obtain ⟨h3, h6⟩ := and2 h3
      obtain ⟨h7, h8⟩ := and2 h3
      obtain ⟨k, f', fd, ps, G, hr, hm, hk, hb⟩ := (g.gs f _ (of_decide_eq_true h7)).ex
      exact (AllX.of g.K (k_listg G hr (g.gl h8) hm hk hb (by unfold ndb at h6; simpa using h6) q1 q2 (okAs Φ as g h4) h5) rfl).eq fun ρ => by rw [ev]
    · cases h
  | .cnt i b, X, c, W, S, x, g, h => by
    simp only [isE] at h
    split at h
    · obtain ⟨h, h5⟩ := and2 h
      obtain ⟨h, h4⟩ := and2 h
      obtain ⟨h, h3⟩ := and2 h
      obtain ⟨h1, h2⟩ := and2 h
      have h1 := of_decide_eq_true h1
      subst h1
      obtain ⟨q1, q2, q3, q4⟩ := g.name h2
      exact (AllX.of g.K (k_cnt g.K g.un q1 q2 q3 q4 (okE Φ b g h3).e h4 h5) rfl).eq fun ρ => by rw [ev]
    · cases h
  | .calltmp f g2 as z, X, c, W, S, x, g, h => by
    simp only [isE] at h
    split at h
    · rename_i n p m p2 ys q k kk p3 pos
      obtain ⟨h, h6⟩ := and2 h
      obtain ⟨h, h5⟩ := and2 h
      obtain ⟨h, h4⟩ := and2 h
      obtain ⟨h, h3⟩ := and2 h
      obtain ⟨h1, h2⟩ := and2 h
      unfold fnB at h1 h2
      obtain ⟨h1, a6⟩ := and2 h1
      obtain ⟨a4, a5⟩ := and2 h1
      obtain ⟨h2, b6⟩ := and2 h2
      obtain ⟨b4, b5⟩ := and2 h2
      obtain ⟨γ1, k1, f', fd, ps, G, hg, hr, hm, hk, hb⟩ := (g.fs f n (of_decide_eq_true a4)).ex
      obtain ⟨γ2, k2, f2', fd2, ps2, G2, hg2, hr2, hm2, hk2, hb2⟩ := (g.fs g2 m (of_decide_eq_true b4)).ex
      have hd : (n == ("__debug__" : Str)) = false := by unfold ndb at a6; simpa using a6
      have hd2 : (m == ("__debug__" : Str)) = false := by unfold ndb at b6; simpa using b6
      have A := okAs Φ as g h3
      cases k with
      | int y =>
        have hy : y = z := of_decide_eq_true h5
        subst hy
        cases ys with
        | cons y ys => exact (AllX.of g.K (k_calltmp G hr hg (g.gl a5) hm hk hb hd G2 hr2 hg2 (g.gl b5) hm2 hk2 hb2 hd2 g.tk A h4) rfl).eq fun ρ => by rw [ev]
        | nil => cases h6
      | _ => cases h5
    · cases h
theorem okEs (Φ : Nat → Fn) : ∀ (e : Es) {X : Cx} {c : Ct} {W : WX} {S : Sx} {l : List Expr}, Gd X c W Φ S → isEs e S l = true → PA X l (tL c W (evEs Φ e))
  | .nil, X, c, W, S, l, g, h => by
    simp only [isEs, List.isEmpty_iff] at h
    subst h
    have : evEs Φ .nil = fun ρ => .ok [] ρ := by funext ρ; rw [evEs]
    rw [this]
    exact k_esNil
  | .cons e r, X, c, W, S, l, g, h => by
    simp only [isEs] at h
    split at h
    · obtain ⟨h, h3⟩ := and2 h
      obtain ⟨h1, h2⟩ := and2 h
      have P := k_esCons (okE Φ e g h1).e (okEs Φ r g h3) h2
      have : evEs Φ (.cons e r) = _ := funext fun ρ => by rw [evEs]
      rw [this]
      exact P
    · cases h
  | .star e r, X, c, W, S, l, g, h => by
    simp only [isEs] at h
    split at h
    · obtain ⟨h1, h2⟩ := and2 h
      have P := k_esStar (p := ‹Pos›) g.K (okE Φ e g h1).e (okEs Φ r g h2)
      have : evEs Φ (.star e r) = _ := funext fun ρ => by rw [evEs]
      rw [this]
      exact P
    · cases h
theorem okAs (Φ : Nat → Fn) : ∀ (e : As) {X : Cx} {c : Ct} {W : WX} {S : Sx} {l : List Expr}, Gd X c W Φ S → isAs e S l = true → PA X l (tAv c W (evAs Φ e))
  | .nil, X, c, W, S, l, g, h => by
    simp only [isAs, List.isEmpty_iff] at h
    subst h
    have : evAs Φ .nil = fun ρ => .ok [] ρ := by funext ρ; rw [evAs]
    rw [this]
    exact k_asNil
  | .val e r, X, c, W, S, l, g, h => by
    simp only [isAs] at h
    split at h
    · obtain ⟨h, h3⟩ := and2 h
      obtain ⟨h1, h2⟩ := and2 h
      have P := k_asVal (okE Φ e g h1).e (okAs Φ r g h3) h2
      have : evAs Φ (.val e r) = _ := funext fun ρ => by rw [evAs]
      rw [this]
      exact P
    · cases h
  | .mut i r, X, c, W, S, l, g, h => by
    simp only [isAs] at h
    split at h
    · obtain ⟨h1, h2⟩ := and2 h
      obtain ⟨q1, q2, q3, q4⟩ := g.name h1
      have P := k_asSlot (p := ‹Pos›) wr (.m i) slot_wr (fun h => h) q1 q2 q3 q4 (okAs Φ r g h2)
      have : evAs Φ (.mut i r) = _ := funext fun ρ => by rw [evAs]
      rw [this]
      exact P
    · cases h
  | .scr i r, X, c, W, S, l, g, h => by
    simp only [isAs] at h
    split at h
    · obtain ⟨h1, h2⟩ := and2 h
      obtain ⟨q1, q2, q3, q4⟩ := g.name h1
      have P := k_asSlot (p := ‹Pos›) isScr (.s i) slot_scr (fun h => h) q1 q2 q3 q4 (okAs Φ r g h2)
      have : evAs Φ (.scr i r) = _ := funext fun ρ => by rw [evAs]
      rw [this]
      exact P
    · cases h
  | .lend i r, X, c, W, S, l, g, h => by
    simp only [isAs] at h
    split at h
    · obtain ⟨h1, h2⟩ := and2 h
      obtain ⟨q1, q2, q3, q4⟩ := g.name h1
      have P := k_asSlot (p := ‹Pos›) isOwn (.l i) slot_own (fun h => h) q1 q2 q3 q4 (okAs Φ r g h2)
      have : evAs Φ (.lend i r) = _ := funext fun ρ => by rw [evAs]
      rw [this]
      exact P
    · cases h
theorem okIt (Φ : Nat → Fn) : ∀ (e : It) {X : Cx} {c : Ct} {W : WX} {S : Sx} {t x : Expr}, Gd X c W Φ S → isIt e S t x = true → PI X t x (tI c W (evIt Φ e))
  | .data e, X, c, W, S, t, x, g, h => by
    simp only [isIt] at h
    have : evIt Φ (.data e) = _ := funext fun ρ => by rw [evIt]
    rw [this]
    exact k_itData g.K (okE Φ e g h).e
  | .rng e, X, c, W, S, t, x, g, h => by
    simp only [isIt] at h
    split at h
    · obtain ⟨h, h4⟩ := and2 h
      obtain ⟨h, h3⟩ := and2 h
      obtain ⟨h1, h2⟩ := and2 h
      have h1 := of_decide_eq_true h1
      subst h1
      obtain ⟨q1, q2⟩ := g.bi h2
      have : evIt Φ (.rng e) = _ := funext fun ρ => by rw [evIt]
      rw [this]
      exact k_itRng (okE Φ e g h3).e q1 q2 h4
    · cases h
  | .zip a b, X, c, W, S, t, x, g, h => by
    simp only [isIt] at h
    split at h
    · obtain ⟨h, h7⟩ := and2 h
      obtain ⟨h, h6⟩ := and2 h
      obtain ⟨h, h5⟩ := and2 h
      obtain ⟨h, h4⟩ := and2 h
      obtain ⟨h, h3⟩ := and2 h
      obtain ⟨h1, h2⟩ := and2 h
      have h1 := of_decide_eq_true h1
      subst h1
      obtain ⟨q1, q2⟩ := g.bi h2
      have : evIt Φ (.zip a b) = _ := funext fun ρ => by rw [evIt]
      rw [this]
      cases t with
      | Tuple es k p => exact k_itZip g.K (okE Φ a g h3).e (okE Φ b g h4).e q1 q2 h5 h6
      | _ => cases h7
    · cases h
  | .enum e, X, c, W, S, t, x, g, h => by
    simp only [isIt] at h
    split at h
    · obtain ⟨h, h5⟩ := and2 h
      obtain ⟨h, h4⟩ := and2 h
      obtain ⟨h, h3⟩ := and2 h
      obtain ⟨h1, h2⟩ := and2 h
      have h1 := of_decide_eq_true h1
      subst h1
      obtain ⟨q1, q2⟩ := g.bi h2
      have : evIt Φ (.enum e) = _ := funext fun ρ => by rw [evIt]
      rw [this]
      cases t with
      | Tuple es k p => exact k_itEnum g.K (okE Φ e g h3).e q1 q2 h4
      | _ => cases h5
    · cases h
theorem okO (Φ : Nat → Fn) : ∀ (e : Eo) {X : Cx} {c : Ct} {W : WX} {S : Sx} {o : Option Expr}, Gd X c W Φ S → isO e S o = true → PO X o (tO c W (evO Φ e))
  | .no, X, c, W, S, o, g, h => by
    simp only [isO] at h
    split at h
    · have : evO Φ .no = fun ρ => .ok none ρ := by funext ρ; rw [evO]
      rw [this]
      exact k_oNo
    · cases h
  | .yes e, X, c, W, S, o, g, h => by
    simp only [isO] at h
    split at h
    · have : evO Φ (.yes e) = _ := funext fun ρ => by rw [evO]
      rw [this]
      exact k_oYes (okE Φ e g h).e
    · cases h
theorem okC (Φ : Nat → Fn) : ∀ (e : Eo) {X : Cx} {c : Ct} {W : WX} {S : Sx} {l : List Expr}, Gd X c W Φ S → isC e S l = true → PTs X l (tT c W (evC Φ e))
  | .no, X, c, W, S, l, g, h => by
    simp only [isC, List.isEmpty_iff] at h
    subst h
    have : evC Φ .no = fun ρ => .ok true ρ := by funext ρ; rw [evC]
    rw [this]
    exact condNo
  | .yes e, X, c, W, S, l, g, h => by
    simp only [isC] at h
    split at h
    · have : evC Φ (.yes e) = _ := funext fun ρ => by rw [evC]
      rw [this]
      exact pts_one (okE Φ e g h).t
    · cases h
end
end DR
/-! Part u: statements: readings and steps. -/
namespace DR
open PySem PySem.Spec PyProof.Rows L2

/-- what is asked where r is how a statement ends, from O, H -/
def Sq (c : Ct) (W : WX) (D : Ends) (O : List Addr) (H : Hp) : SR → Prop
  | .nx ρ' => ∀ σ' H' O', Post c O H O' H' → StOk c H' σ' ρ' O' → D.nx σ' H'
  | .rt d ρ' => ∀ σ' H' O' v, Post c O H O' H' → StOk c H' σ' ρ' O' → Dd c.K (hid O' H') v d → D.rt v H'
  | .rn xs ρ' => ∀ σ' H' O' a ws, Post c O H O' H' → StOk c H' σ' ρ' O' → a ∈ O' → a ∉ c.Fx → H' a = some (.lst ws) → Ds c.K (hid O' H') ws xs → D.rt (.ref a) H'
  | .bk ρ' => ∀ σ' H' O', Post c O H O' H' → StOk c H' σ' ρ' O' → D.bk σ' H'
  | .ct ρ' => ∀ σ' H' O', Post c O H O' H' → StOk c H' σ' ρ' O' → D.ct σ' H'
  | .exc x ρ' => ∀ σ' H' O', Post c O H O' H' → StOk c H' σ' ρ' O' → ∀ cls d, Xo c O' H' x cls d → W cls d σ' H'
  | .bad => False
def tS (c : Ct) (W : WX) (f : Env → SR) : TS := fun D σ H => ∃ ρ O, StOk c H σ ρ O ∧ Sq c W D O H (f ρ)
theorem PS.weak {X : Cx} {e : Stmt} {t t' : TS} (h : PS X e t) (w : ∀ D σ H, t' D σ H → t D σ H) : PS X e t' := ⟨fun pins s σ H D I z => h.run pins s σ H D I (w D σ H z)⟩
theorem PSs.weak {X : Cx} {e : List Stmt} {t t' : TS} (h : PSs X e t) (w : ∀ D σ H, t' D σ H → t D σ H) : PSs X e t' := ⟨fun pins s σ H D I z => h.run pins s σ H D I (w D σ H z)⟩
section
variable {X : Cx} {c : Ct} {W : WX} {D : Ends} {O : List Addr} {H : Hp} {σ : Sg} {α : Type}
theorem Sq.from {r : SR} {O1 : List Addr} {H1 : Hp} (h : Sq c W D O H r) (p : Post c O H O1 H1) (fx : ∀ z ∈ c.Fx, z ∈ O1) : Sq c W D O1 H1 r := by
  cases r with
  | nx ρ => exact fun σ' H' O' q => h σ' H' O' (p.trans q fx)
  | rt d ρ => exact fun σ' H' O' v q => h σ' H' O' v (p.trans q fx)
  | rn xs ρ => exact fun σ' H' O' a ws q => h σ' H' O' a ws (p.trans q fx)
  | bk ρ => exact fun σ' H' O' q => h σ' H' O' (p.trans q fx)
  | ct ρ => exact fun σ' H' O' q => h σ' H' O' (p.trans q fx)
  | exc x ρ => exact fun σ' H' O' q => h σ' H' O' (p.trans q fx)
  | bad => exact h
/-- an expression first -/
theorem Sq.sr {r : Res α} {k : α → Env → SR} (h : Sq c W D O H (r.sr k)) : Rp c W σ O H r fun a ρ1 H1 O1 => Sq c W D O1 H1 (k a ρ1) := by
  cases r with
  | ok a ρ1 => exact fun H1 O1 p s => Sq.from (show Sq c W D O H (k a ρ1) from h) p s.fx
  | exc x ρ' => exact fun H' O' p s cls d => h σ H' O' p s cls d
  | bad => exact h
theorem Sq.then {o : Option α} {ρ : Env} {k : α → Env → SR} (s : StOk c H σ ρ O) (h : Sq c W D O H ((lift o ρ).sr k)) : ∃ a, o = some a ∧ Sq c W D O H (k a ρ) := by
  cases o with
  | none => exact h.elim
  | some a => exact ⟨a, rfl, h⟩
theorem seq_reads {f g : Env → SR} (h : tS c W (fun ρ => (f ρ).seq g) D σ H) : tSeq (tS c W f) (tS c W g) D σ H := by
  obtain ⟨ρ, O, s, h⟩ := h
  refine ⟨ρ, O, s, ?_⟩
  replace h : Sq c W D O H ((f ρ).seq g) := h
  cases r : f ρ with
  | nx ρ1 =>
    rw [r] at h
    exact fun σ' H' O' p s' => ⟨ρ1, O', s', Sq.from (show Sq c W D O H (g ρ1) from h) p s'.fx⟩
  | rt d ρ1 => rw [r] at h; exact h
  | rn xs ρ1 => rw [r] at h; exact h
  | bk ρ1 => rw [r] at h; exact h
  | ct ρ1 => rw [r] at h; exact h
  | exc x ρ1 => rw [r] at h; exact h
  | bad => rw [r] at h; exact h
theorem set_reads {f : Env → Res DR.D} {i : Nat} (h : tS c W (fun ρ => (f ρ).sr fun d ρ1 => if i < ρ1.length then .nx (ρ1.set i (.val d)) else .bad) D σ H) : tAsg (tD c W f) (gName i) D σ H := by
  obtain ⟨ρ, O, s, h⟩ := h
  refine ⟨ρ, O, s, h.sr.imp fun d ρ1 H1 O1 p1 s1 h1 v dv => ?_⟩
  split at h1
  · rename_i lt
    exact h1 _ H1 O1 .refl (s1.set_val lt dv)
  · exact h1.elim
theorem Post.hide {p : Addr} {o : HO} (n : H p = none) : Post c O H (p :: O) (upd H p o) :=
  ⟨fun a x e _ => Le.upd n a x e, fun a m => (List.mem_cons.mp m).elim (fun z => .inr (z ▸ n)) .inl⟩
theorem own_new {σ' : Sg} {ρ : Env} {i : Nat} {p : Addr} {vs : List V} {ds : List DR.D} (s : StOk c H σ' ρ O) (n : H p = none) (d : Ds c.K (hid O H) vs ds) :
    StOk c (upd H p (.lst vs)) σ' ρ (p :: O) ∧ p ∉ c.Fx ∧ upd H p (.lst vs) p = some (.lst vs) ∧ Ds c.K (hid (p :: O) (upd H p (.lst vs))) vs ds ∧ ∀ j ys, ρ.at j = .own ys → σ'.getD j none ≠ some (.ref p) := by
  refine ⟨s.hide n, fun m => s.hx.new n (s.fx p m), upd_same, d.le (Post.hide (c := c) n).hid, fun j ys e z => ?_⟩
  have q := s.sl j
  rw [e] at q
  obtain ⟨a, ws, e1, h1, _⟩ := q
  rw [z] at e1
  cases e1
  exact s.hx.new n h1
theorem seto_reads {f : Env → Res (List DR.D)} {i : Nat} (h : tS c W (fun ρ => (f ρ).sr fun xs ρ1 => if xs.length ≤ 1000000 ∧ i < ρ1.length then .nx (ρ1.set i (.own xs)) else .bad) D σ H) : tAsg (tLst (tL c W f)) (gName i) D σ H := by
  obtain ⟨ρ, O, s, h⟩ := h
  refine ⟨ρ, O, s, h.sr.imp fun ds ρ1 H1 O1 p1 s1 h1 vs dvs => ?_⟩
  split at h1
  · rename_i lt
    refine ⟨by rw [dvs.length]; exact Nat.le_trans lt.1 sizeLine_ge, fun p n => ?_⟩
    obtain ⟨q1, q2, q3, q4, q5⟩ := own_new (i := i) s1 n dvs
    exact h1 _ _ (p :: O1) (Post.hide n) (q1.set_own lt.2 List.mem_cons_self q2 q3 q4 q5)
  · exact h1.elim
theorem ret_reads {f : Env → Res DR.D} (h : tS c W (fun ρ => (f ρ).sr fun d ρ1 => .rt d ρ1) D σ H) : tRet (tD c W f) D σ H := by
  obtain ⟨ρ, O, s, h⟩ := h
  exact ⟨ρ, O, s, h.sr.imp fun d ρ1 H1 O1 p1 s1 h1 v dv => h1 σ H1 O1 v .refl s1 dv⟩
theorem reto_reads {f : Env → Res (List DR.D)} (h : tS c W (fun ρ => (f ρ).sr fun xs ρ1 => if xs.length ≤ 1000000 then .rn xs ρ1 else .bad) D σ H) : tRet (tLst (tL c W f)) D σ H := by
  obtain ⟨ρ, O, s, h⟩ := h
  refine ⟨ρ, O, s, h.sr.imp fun ds ρ1 H1 O1 p1 s1 h1 vs dvs => ?_⟩
  split at h1
  · rename_i lt
    refine ⟨by rw [dvs.length]; exact Nat.le_trans lt sizeLine_ge, fun p n => ?_⟩
    obtain ⟨q1, q2, q3, q4, q5⟩ := own_new (i := 0) s1 n dvs
    exact h1 _ _ (p :: O1) p vs (Post.hide n) q1 List.mem_cons_self q2 q3 q4
  · exact h1.elim
theorem retv_reads {i : Nat} (h : tS c W (fun ρ => (lift (isOwn (ρ.at i)) ρ).sr fun xs _ => .rn xs ρ) D σ H) : tRet (tVar i) D σ H := by
  obtain ⟨ρ, O, s, h⟩ := h
  obtain ⟨xs, e, h⟩ := h.then s
  have q := s.sl i
  cases r : ρ.at i with
  | own ys =>
    rw [r] at e q
    cases e
    obtain ⟨a, ws, ea, m, n, hH, t⟩ := q
    exact ⟨.ref a, sget_some ea, h σ H O a ws .refl s m n hH t⟩
  | _ => rw [r] at e; cases e
theorem retn_reads (h : tS c W (fun ρ => .rt .none ρ) D σ H) : tRetN D σ H := by
  obtain ⟨ρ, O, s, h⟩ := h
  exact h σ H O .non .refl s .non
theorem ex_reads {f : Env → Res DR.D} (h : tS c W (fun ρ => (f ρ).sr fun _ ρ1 => .nx ρ1) D σ H) : tDrop (tD c W f) D σ H := by
  obtain ⟨ρ, O, s, h⟩ := h
  exact ⟨ρ, O, s, h.sr.imp fun d ρ1 H1 O1 p1 s1 h1 v dv => h1 σ H1 O1 .refl s1⟩
theorem if_reads {f : Env → Res Bool} {a b : Env → SR} (h : tS c W (fun ρ => (f ρ).sr fun k ρ1 => if k = true then a ρ1 else b ρ1) D σ H) : tIfS (tT c W f) (tS c W a) (tS c W b) D σ H := by
  obtain ⟨ρ, O, s, h⟩ := h
  refine ⟨ρ, O, s, h.sr.imp fun k ρ1 H1 O1 p1 s1 h1 => ?_⟩
  cases k with
  | true => exact ⟨ρ1, O1, s1, h1⟩
  | false => exact ⟨ρ1, O1, s1, h1⟩
theorem unp_reads {t : Tgs} {f : Env → Res DR.D} (h : tS c W (fun ρ => (f ρ).sr fun d ρ1 => match bindT (.tup t) d ρ1 with
    | some ρ2 => .nx ρ2
    | none => .bad) D σ H) : tAsg (tD c W f) (tB c (.tup t)) D σ H := by
  obtain ⟨ρ, O, s, h⟩ := h
  refine ⟨ρ, O, s, h.sr.imp fun d ρ1 H1 O1 p1 s1 h1 v dv => ?_⟩
  cases e : bindT (.tup t) d ρ1 with
  | none => rw [e] at h1; exact h1.elim
  | some ρ2 =>
    rw [e] at h1
    exact ⟨ρ1, O1, d, ρ2, s1, dv, e, fun σ' s' _ => h1 σ' H1 O1 .refl s'⟩
/-- for -/
theorem for_reads {fi : Env → Res (List DR.D)} {t : Tg} {b : Env → SR} (h : tS c W (fun ρ => (fi ρ).sr fun xs ρ1 => loopF (fun x ρ => match bindT t x ρ with
    | some ρ' => b ρ'
    | none => .bad) xs ρ1) D σ H) : tFor (tI c W fi) (tB c t) (tS c W b) D σ H := by
  obtain ⟨ρ, O, s, h⟩ := h
  refine ⟨ρ, O, s, h.sr.imp fun xs ρ1 H1 O1 p1 s1 h1 J hJ => ?_⟩
  generalize hf : (fun (x : DR.D) (ρ : Env) => match bindT t x ρ with
    | some ρ' => b ρ'
    | none => SR.bad) = f at h1
  refine ⟨fun i m σ G => i + m = xs.length ∧ ∃ ρ O, StOk c G σ ρ O ∧ Post c O1 H1 O G ∧ Sq c W D O G (loopF f (xs.drop i) ρ), ⟨xs.length, by omega, ρ1, O1, s1, .refl, h1⟩, ?_⟩
  rintro i m τ G ⟨im, ρ2, O2, s2, p2, q⟩
  have it := hJ i O2 G p2.hid s2.hx
  cases hx : xs[i]? with
  | none =>
    have hi : xs.length ≤ i := List.getElem?_eq_none_iff.mp hx
    rw [List.drop_eq_nil_of_le hi] at q
    exact .inl ⟨it.2 hi, q τ G O2 .refl s2⟩
  | some x =>
    obtain ⟨hi, ex⟩ := List.getElem?_eq_some_iff.mp hx
    obtain ⟨go, yl⟩ := it.1 x hx
    rw [List.drop_eq_getElem_cons hi, ex] at q
    refine .inr ⟨go, fun σ' G' => ∃ ρ O, StOk c G' σ' ρ O ∧ Post c O1 H1 O G' ∧ Sq c W D O G' (loopF f (xs.drop (i + 1)) ρ), fun σ' G' w => ⟨m - 1, by omega, by omega, w⟩, fun v G1 hy => ?_⟩
    obtain ⟨l1, dv⟩ := yl v G1 hy
    have s3 := s2.le l1
    have p3 : Post c O2 G O2 G1 := Post.of_le l1
    unfold loopF at q
    cases e : bindT t x ρ2 with
    | none =>
      have : f x ρ2 = .bad := by rw [← hf]; simp only [e]
      rw [this] at q
      exact q.elim
    | some ρ3 =>
      have ef : f x ρ2 = b ρ3 := by rw [← hf]; simp only [e]
      rw [ef] at q
      refine ⟨ρ2, O2, x, ρ3, s3, dv, e, fun σ3 s4 _ => ⟨ρ3, O2, s4, ?_⟩⟩
      have q := Sq.from q p3 s2.fx
      cases r : b ρ3 with
      | nx ρ4 =>
        rw [r] at q
        exact fun σ' H' O' p s' => ⟨ρ4, O', s', (p2.trans p3 s2.fx).trans p s2.fx, q.from p s'.fx⟩
      | ct ρ4 =>
        rw [r] at q
        exact fun σ' H' O' p s' => ⟨ρ4, O', s', (p2.trans p3 s2.fx).trans p s2.fx, q.from p s'.fx⟩
      | bk ρ4 => rw [r] at q; exact q
      | rt d ρ4 => rw [r] at q; exact q
      | rn d ρ4 => rw [r] at q; exact q
      | exc d ρ4 => rw [r] at q; exact q
      | bad => rw [r] at q; exact q
/-- while -/
theorem while_reads {n : Nat} {f : Env → Res Bool} {b : Env → SR} (h : tS c W (fun ρ => loopW f b n ρ) D σ H) : tWhile (tT c W f) (tS c W b) D σ H := by
  obtain ⟨ρ, O, s, h⟩ := h
  refine ⟨fun m σ G => ∃ ρ O, StOk c G σ ρ O ∧ Sq c W D O G (loopW f b m ρ), ⟨n, ρ, O, s, h⟩, ?_⟩
  rintro m τ G ⟨ρ1, O1, s1, q⟩
  cases m with
  | zero => exact q.elim
  | succ m =>
    unfold loopW at q
    refine ⟨ρ1, O1, s1, q.sr.imp fun k ρ2 H2 O2 p2 s2 q2 => ?_⟩
    cases k with
    | false =>
      simp only [Bool.false_eq_true, if_false] at q2 ⊢
      exact q2 τ H2 O2 .refl s2
    | true =>
      simp only [if_true] at q2 ⊢
      refine ⟨fun σ' G' => ∃ ρ O, StOk c G' σ' ρ O ∧ Sq c W D O G' (loopW f b m ρ), fun σ' G' w => ⟨m, Nat.lt_succ_self m, w⟩, ρ2, O2, s2, ?_⟩
      cases r : b ρ2 with
      | nx ρ4 =>
        rw [r] at q2
        exact fun σ' H' O' p s' => ⟨ρ4, O', s', Sq.from q2 p s'.fx⟩
      | ct ρ4 =>
        rw [r] at q2
        exact fun σ' H' O' p s' => ⟨ρ4, O', s', Sq.from q2 p s'.fx⟩
      | bk ρ4 => rw [r] at q2; exact q2
      | rt d ρ4 => rw [r] at q2; exact q2
      | rn d ρ4 => rw [r] at q2; exact q2
      | exc d ρ4 => rw [r] at q2; exact q2
      | bad => rw [r] at q2; exact q2
end
end DR
/-! Part v: statements that change lists, calls that answer new lists, parallel assignments. -/
namespace DR
open PySem PySem.Spec PyProof.Rows L2
section
variable {X : Cx} {c : Ct} {W : WX} {D : Ends} {O : List Addr} {H : Hp} {σ : Sg}
theorem app_reads {K : PySem.W.Frag} {f : Env → Res DR.D} {i : Nat} (h : tS c W (fun ρ => (lift (wr (ρ.at i)) ρ).sr fun _ _ => (f ρ).sr fun d ρ1 => (lift (wr (ρ1.at i)) ρ1).sr fun xs _ => if xs.length < 1000000 then .nx (ρ1.set i (rew (ρ1.at i) (xs ++ [d]))) else .bad) D σ H) :
    tDrop (tBM K "list" rAppend (tVar i) (tCons (tD c W f) tNil)) D σ H := by
  obtain ⟨ρ, O, s, h⟩ := h
  obtain ⟨xs0, e0, h⟩ := h.then s
  obtain ⟨a, ws0, ea, _, _, hH, _⟩ := s.cell e0
  refine ⟨.ref a, sget_some ea, .inl ⟨rfl, ws0, .inl (.inl hH)⟩, ρ, O, s, h.sr.imp fun d ρ1 H1 O1 p1 s1 h1 v dv => ?_⟩
  obtain ⟨xs, e1, h1⟩ := h1.then s1
  obtain ⟨b, ws, eb, _, _, hB, t⟩ := s1.cell e1
  rw [ea] at eb
  cases eb
  split at h1
  · rename_i lt
    obtain ⟨q1, q2⟩ := s1.write (us := ws ++ [v]) (ys := xs ++ [d]) e1 ea (t.append (.cons dv .nil))
    refine ⟨a, ws, v, rfl, rfl, hB, ?_, h1 σ _ O1 q1 q2⟩
    have := sizeLine_ge
    rw [t.length]
    omega
  · exact h1.elim
theorem ext_reads {K : PySem.W.Frag} {f : Env → Res DR.D} {i : Nat} (h : tS c W (fun ρ => (lift (wr (ρ.at i)) ρ).sr fun _ _ => (f ρ).sr fun d ρ1 => (lift (lstOf d) ρ1).sr fun ys _ => (lift (wr (ρ1.at i)) ρ1).sr fun xs _ =>
      if xs.length + ys.length ≤ 1000000 then .nx (ρ1.set i (rew (ρ1.at i) (xs ++ ys))) else .bad) D σ H) :
    tDrop (tBM K "list" rExtend (tVar i) (tCons (tD c W f) tNil)) D σ H := by
  obtain ⟨ρ, O, s, h⟩ := h
  obtain ⟨xs0, e0, h⟩ := h.then s
  obtain ⟨a, ws0, ea, _, _, hH, _⟩ := s.cell e0
  refine ⟨.ref a, sget_some ea, .inl ⟨rfl, ws0, .inl (.inl hH)⟩, ρ, O, s, h.sr.imp fun d ρ1 H1 O1 p1 s1 h1 v dv => ?_⟩
  obtain ⟨ys, e2, h2⟩ := h1.then s1
  obtain ⟨xs, e1, h3⟩ := h2.then s1
  clear h1 h2
  obtain ⟨b, ws, eb, _, _, hB, t⟩ := s1.cell e1
  rw [ea] at eb
  cases eb
  cases d with
  | list ys' =>
    cases e2
    obtain ⟨l, zs, rfl, hl, tz⟩ := dv.lst_inv
    split at h3
    · rename_i lt
      obtain ⟨q1, q2⟩ := s1.write (us := ws ++ zs) (ys := xs ++ ys) e1 ea (t.append tz)
      refine ⟨a, l, ws, zs, rfl, rfl, hB, lst_real hl, ?_, h3 σ _ O1 q1 q2⟩
      have := sizeLine_ge
      rw [t.length, tz.length]
      omega
    · exact h3.elim
  | _ => cases e2
theorem sto_reads {f g : Env → Res DR.D} {i : Nat} (h : tS c W (fun ρ => (f ρ).sr fun d ρ1 => (lift (wr (ρ1.at i)) ρ1).sr fun _ _ => (g ρ1).sr fun z ρ2 => (lift (wr (ρ2.at i)) ρ2).sr fun xs _ => (lift (stoL xs z d) ρ2).sr fun ys _ => .nx (ρ2.set i (rew (ρ2.at i) ys))) D σ H) :
    tAsg (tD c W f) (gSub (tVar i) (tD c W g) rSetL) D σ H := by
  obtain ⟨ρ, O, s, h⟩ := h
  refine ⟨ρ, O, s, h.sr.imp fun d ρ1 H1 O1 p1 s1 h1 v dv => ?_⟩
  obtain ⟨xs0, e0, h1⟩ := h1.then s1
  obtain ⟨a, ws0, ea, _, _, hH, _⟩ := s1.cell e0
  refine ⟨.ref a, sget_some ea, ρ1, O1, s1, h1.sr.imp fun z ρ2 H2 O2 p2 s2 h2 k dk => ?_⟩
  obtain ⟨xs, e1, h2⟩ := h2.then s2
  obtain ⟨ys, e2, h2⟩ := h2.then s2
  obtain ⟨b, ws, eb, _, _, hB, t⟩ := s2.cell e1
  rw [ea] at eb
  cases eb
  cases z with
  | int n =>
    simp only [stoL] at e2
    obtain ⟨j, ej, rfl⟩ := Option.map_eq_some_iff.mp e2
    cases dk
    obtain ⟨q1, q2⟩ := s2.write (us := ws.set j v) (ys := xs.set j d) e1 ea (t.set j (dv.le p2.hid))
    exact ⟨a, ws, n, j, rfl, rfl, hB, by rw [t.length]; exact ej, h2 σ _ O2 q1 q2⟩
  | _ => cases e2
/-- x = f(..) with a new list that x alone holds -/
theorem new_step {ρ : Env} {m : Fn} {avs : List Av} {vs : List V} {i : Nat} (s : StOk c H σ ρ O) (hv : AvsOk c O H σ vs avs)
    (h : Sq c W D O H ((lift (args ρ avs) ρ).sr fun zs _ => if (mutsOf avs).Nodup ∧ lends avs = false ∧ i < ρ.length then (match m zs with
      | .new xs outs => (lift (putBack ρ avs outs) ρ).sr fun ρ2 _ => .nx (ρ2.set i (.own xs))
      | _ => .bad) else .bad)) : spD c.K m vs H (fun v H1 => D.nx (σ.set i (some v)) H1) fun cls d H2 => W cls d σ H2 := by
  obtain ⟨as, ea, h⟩ := h.then s
  split at h
  · rename_i ok
    obtain ⟨hn, hl, lt⟩ := ok
    obtain ⟨Bs, q1, q2, q3, q4⟩ := args_of s hv ea hl
    refine ⟨O, Bs, as, s.hx, (muts_ok s hn q2 q4).1, fun b hb => (q3 b hb).1, q1, ?_⟩
    cases r : m as with
    | new xs outs =>
      simp only [r] at h
      intro a ws H' ext na ha os dws
      obtain ⟨ρ', e, h⟩ := h.then s
      obtain ⟨p, s'⟩ := behind s (fun z m => List.mem_cons_of_mem _ m) (fun z m => (List.mem_cons.mp m).elim (fun e => .inr ⟨e ▸ na, by rw [e, ha]; exact fun z => nomatch z⟩) .inl) hn q2 q3 q4 ext os e
      have nO : a ∉ O := s.hx.new na
      have len : ρ'.length = ρ.length := by rw [s'.len, s.len]
      refine h _ H' (a :: O) p (s'.set_own (len ▸ lt) List.mem_cons_self (fun m => nO (s.fx a m)) ha dws fun j ys ej z => ?_)
      obtain ⟨_, lt'⟩ := muts_ok s hn q2 q4
      obtain ⟨_, pb2, pb3⟩ := putBack_at hn lt' e
      have : ∃ zs, ρ.at j = .own zs := by
        by_cases hj : j ∈ mutsOf avs
        · obtain ⟨l, hk, ek⟩ := List.getElem_of_mem hj
          have ek : (mutsOf avs)[l]? = some j := by rw [List.getElem?_eq_getElem hk, ek]
          obtain ⟨_, zs, _, _, e3⟩ := q4 l j ek
          obtain ⟨us, _, z2⟩ := pb3 l j ek
          rw [z2] at ej
          rcases wr_cases e3 with r | ⟨n, r⟩
          · exact ⟨_, r⟩
          · rw [r] at ej
            cases ej
        · exact ⟨ys, (pb2 j hj).symm.trans ej⟩
      obtain ⟨zs, ez⟩ := this
      have q := s.sl j
      rw [ez] at q
      obtain ⟨b, us, eb, mb, _⟩ := q
      rw [z] at eb
      cases eb
      exact nO mb
    | ok d outs => simp only [r] at h; exact h.elim
    | exc x outs => simp only [r] at h; exact h.elim
    | bad => simp only [r] at h; exact h.elim
  · exact h.elim
/-- parallel stores -/
theorem setAll_ok : ∀ {is : List Nat} {ρ ρ' : Env} {σ : Sg} {vs : List V} {ds : List DR.D}, StOk c H σ ρ O → Ds c.K (hid O H) vs ds → setAll ρ is ds = some ρ' → StOk c H ((is.zip vs).foldl (fun τ p => τ.set p.1 (some p.2)) σ) ρ' O
  | [], ρ, ρ', σ, vs, ds, s, dv, e => by
    cases ds with
    | nil => cases e; exact s
    | cons d ds => cases e
  | i :: is, ρ, ρ', σ, vs, ds, s, dv, e => by
    cases ds with
    | nil => cases e
    | cons d ds =>
      cases dv with
      | cons h t =>
        simp only [setAll] at e
        split at e
        · rename_i lt
          have r := setAll_ok (s.set_val lt h) t e
          exact r
        · cases e
theorem setAll_len : ∀ {is : List Nat} {ρ ρ' : Env} {ds : List DR.D}, setAll ρ is ds = some ρ' → ds.length = is.length
  | [], ρ, ρ', ds, e => by
    cases ds with
    | nil => rfl
    | cons d ds => cases e
  | i :: is, ρ, ρ', ds, e => by
    cases ds with
    | nil => cases e
    | cons d ds =>
      simp only [setAll] at e
      split at e
      · exact congrArg (· + 1) (setAll_len e)
      · cases e
theorem par_inv {f : Env → Res (List DR.D)} {is : List Nat} {R : List V → Hp → Prop} (h : tS c W (fun ρ => (f ρ).sr fun ss ρ1 => match setAll ρ1 is ss with
    | some ρ2 => .nx ρ2
    | none => .bad) D σ H) (k : ∀ vs H1, vs.length = is.length → D.nx ((is.zip vs).foldl (fun τ p => τ.set p.1 (some p.2)) σ) H1 → R vs H1) : tL c W f σ H R := by
  obtain ⟨ρ, O, s, h⟩ := h
  refine ⟨ρ, O, s, h.sr.imp fun ds ρ1 H1 O1 p1 s1 h1 vs dvs => ?_⟩
  cases e : setAll ρ1 is ds with
  | none => rw [e] at h1; exact h1.elim
  | some ρ2 =>
    rw [e] at h1
    exact k vs H1 (dvs.length.trans (setAll_len e)) (h1 _ H1 O1 .refl (setAll_ok s1 dvs e))
end
section
variable {X : Cx} {c : Ct} {W : WX} {D : Ends} {O : List Addr} {H : Hp} {σ : Sg}
theorem StOk.less {L : Addr} {ρ : Env} (s : StOk (c.more L) H σ ρ O) (hb : ∀ b ∈ c.Bs, b ∈ c.Fx) : StOk c H σ ρ O := by
  refine ⟨s.len, s.hx, fun a m => s.fx a (List.mem_cons_of_mem _ m), hb, s.bn, fun i => ?_, s.oi, s.bi⟩
  have q := s.sl i
  cases r : ρ.at i with
  | own xs =>
    rw [r] at q
    obtain ⟨a, ws, e, h1, h2, h3, t⟩ := q
    exact ⟨a, ws, e, h1, fun m => h2 (List.mem_cons_of_mem _ m), h3, t⟩
  | un => trivial
  | val d => rw [r] at q; exact q
  | bor k xs => rw [r] at q; exact q
  | scr ns => rw [r] at q; exact q
/-- x, y = [], e -/
theorem paro_reads {f : Env → Res DR.D} {i j : Nat} {R : List V → Hp → Prop} (h : tS c W (fun ρ => (f ρ).calm.sr fun d ρ1 => if i < ρ1.length ∧ j < ρ1.length ∧ i ≠ j then .nx ((ρ1.set i (.own [])).set j (.val d)) else .bad) D σ H)
    (k : ∀ v w H1, D.nx ((σ.set i (some v)).set j (some w)) H1 → R [v, w] H1) :
    tCons (tLst tNil) (tCons (fun σ H Q => ∃ L, tD (c.more L) W f σ H Q) tNil) σ H R := by
  obtain ⟨ρ, O, s, h⟩ := h
  refine ⟨Nat.zero_le _, fun p np => ⟨p, ρ, p :: O, s.enter np, ?_⟩⟩
  have h : Sq c W D O H ((f ρ).calm.sr fun d ρ1 => if i < ρ1.length ∧ j < ρ1.length ∧ i ≠ j then .nx ((ρ1.set i (.own [])).set j (.val d)) else .bad) := h
  cases r : f ρ with
  | ok d ρ1 =>
    rw [r] at h
    intro H1 O1 p1 s1 w dw
    have h : Sq c W D O H (if i < ρ1.length ∧ j < ρ1.length ∧ i ≠ j then .nx ((ρ1.set i (.own [])).set j (.val d)) else .bad) := h
    split at h
    · rename_i q
      obtain ⟨li, lj, ne⟩ := q
      have mO : p ∈ O1 := s1.fx p List.mem_cons_self
      have nF : p ∉ c.Fx := fun m => s.hx.there p (s.fx p m) np
      have nB : p ∉ c.Bs := fun m => nF (s.bs p m)
      have hp : H1 p = some (.lst []) := p1.keep p _ upd_same (.inr ⟨List.mem_cons_self, nB⟩)
      have s2 := s1.less s.bs
      have P : Post c O H O1 H1 := (Post.hide np).trans p1.less fun z m => List.mem_cons_of_mem _ (s.fx z m)
      have own : ∀ l ys, ρ1.at l = .own ys → σ.getD l none ≠ some (.ref p) := fun l ys e z => by
        have q := s1.sl l
        rw [e] at q
        obtain ⟨b, us, eb, _, nb, _⟩ := q
        rw [z] at eb
        cases eb
        exact nb List.mem_cons_self
      have s3 := s2.set_own (i := i) (a := p) (ws := []) (xs := []) li mO nF hp .nil own
      have s4 := s3.set_val (i := j) (by simpa using lj) dw
      exact k (.ref p) w H1 (h _ H1 O1 P s4)
    · exact h.elim
  | exc x ρ1 => rw [r] at h; exact h.elim
  | bad => rw [r] at h; exact h.elim
end
/-! which stores are taken another way -/
def swB (S : Sx) (y : Str) (py : Pos) : Expr → Bool
  | .ListComp _ _ scope p => (S.sc.names.lookup y == some .local) && (py.line == p.line) && !(scope.names.any fun (n, k) => n == y && (k == .local || k == .cell))
  | _ => false
def noSD : Expr → Bool
  | .SetComp .. => false
  | .DictComp .. => false
  | _ => true
theorem sw_is {S : Sx} {env : PySem.Env} {y : Str} {py : Pos} {l : Nat} {x : Expr} (hs : env.scope = S.sc) (hk : S.sc.kind = .function) (hx : noSD x = true) : swapsWith x (some (.Name y py)) l env = pure (swB S y py x) := by
  have hb : env.blockKind = .function := by unfold Env.blockKind; rw [hs, hk]; rfl
  cases x <;> first | rfl | (cases hx; done) | skip
  rename_i elt gs scope p
  unfold swapsWith swB
  simp only [hb, Env.kindOf, hs, Expr.pos, beq_self_eq_true, Bool.true_and]
theorem sw_none {env : PySem.Env} {l : Nat} {f : Expr} {as : List Expr} {ks : List Keyword} {p : Pos} : swapsWith (.Call f as ks p) none l env = pure false := rfl
theorem sw_sub {env : PySem.Env} {l : Nat} {o i x : Expr} {p : Pos} : swapsWithSole [.Subscript o i p] x l env = pure false ∧ swappedStores [.Subscript o i p] x env = pure none := by
  constructor
  · cases x <;> rfl
  · cases x <;> rfl
def notTupE : Expr → Bool
  | .Tuple vs _ _ => vs.all (foldedForSure 8)
  | _ => true
theorem sw_tup {env : PySem.Env} {l k : Nat} {es : List Expr} {x : Expr} {p : Pos} (h : notTupE x = true) : swapsWithSole [.Tuple es k p] x l env = pure false ∧ swappedStores [.Tuple es k p] x env = pure none := by
  constructor
  · cases x <;> rfl
  · cases x <;> first | rfl | skip
    rename_i vs _ _
    have h : vs.all (foldedForSure 8) = true := h
    unfold swappedStores
    simp only [h, if_true]
    repeat first | rfl | split
theorem sw_sole {env : PySem.Env} {l k : Nat} {es : List Expr} {x : Expr} {p : Pos} : swapsWithSole [.Tuple es k p] x l env = pure false := by
  cases x <;> rfl
/-- a target that is no plain local name: the stores go from the left -/
def farTg (S : Sx) : Expr → Bool
  | .Name n _ => !decide (S.sc.names.lookup n = some .local)
  | _ => true
def nmOf (env : PySem.Env) (l : Nat) : Expr → Option Str
  | .Name id pos => if (env.kindOf id == some .local && pos.line == l) = true then some id else none
  | _ => none
theorem nmOf_far {S : Sx} {env : PySem.Env} (hs : env.scope = S.sc) (l : Nat) {e : Expr} (h : farTg S e = true) : nmOf env l e = none := by
  cases e <;> first | rfl | skip
  rename_i n pn
  simp only [farTg, Bool.not_eq_true', decide_eq_false_iff_not] at h
  have : (env.kindOf n == some .local) = false := by
    unfold Env.kindOf
    rw [hs]
    simpa using h
  simp [nmOf, this]
theorem nmOf_less {S : Sx} {env : PySem.Env} (hs : env.scope = S.sc) (l : Nat) : ∀ es : List Expr, es.any (farTg S) = true → (es.filterMap (nmOf env l)).length < es.length
  | [], h => by cases h
  | e :: es, h => by
    rw [List.any_cons, Bool.or_eq_true] at h
    have fw : (es.filterMap (nmOf env l)).length ≤ es.length := List.length_filterMap_le _ _
    rw [List.filterMap_cons]
    rcases h with h | h
    · rw [nmOf_far hs l h]
      simp only [List.length_cons]
      omega
    · have := nmOf_less hs l es h
      split <;> simp only [List.length_cons] <;> omega
theorem sw_far {S : Sx} {env : PySem.Env} {k : Nat} {es : List Expr} {x : Expr} {p : Pos} (hs : env.scope = S.sc) (h : es.any (farTg S) = true) : swappedStores [.Tuple es k p] x env = pure none := by
  cases x <;> first | rfl | skip
  rename_i vs k2 p2
  have lt := nmOf_less hs ((es.head?.map (·.pos.line)).getD 0) es h
  unfold swappedStores
  simp only
  split
  · rfl
  · split
    · rfl
    · rw [if_pos]
      rw [Bool.or_eq_true]
      exact .inl (bne_iff_ne.mpr (Nat.ne_of_lt lt))
/-- names stored from the right -/
def parB (S : Sx) (ns : List (Str × Pos)) (vs : List Expr) : Bool :=
  decide (S.sc.kind = .function) && ns.all (fun n => decide (S.sc.names.lookup n.1 = some .local) && (n.2.line == (ns.head?.map (·.2.line)).getD 0)) && vs.all plainArg && !(vs.all (foldedForSure 8)) && !(vs.all (constantsAlone 8))
theorem notStar : ∀ {e : Expr}, plainArg e = true → (match e with | .Starred .. => true | _ => false) = false := by
  intro e h
  cases e <;> first | rfl | cases h
theorem sw_par2 {S : Sx} {env : PySem.Env} {x y : Str} {px py pt pt2 : Pos} {kt k2 : Nat} {a b : Expr} (hs : env.scope = S.sc) (hxy : x ≠ y) (h : parB S [(x, px), (y, py)] [a, b] = true) :
    swappedStores [.Tuple [.Name x px, .Name y py] kt pt] (.Tuple [a, b] k2 pt2) env = pure (some [x, y]) := by
  unfold parB at h
  simp only [Bool.and_eq_true, decide_eq_true_eq, List.all_cons, List.all_nil, List.head?_cons, Option.map_some, Option.getD_some, Bool.and_true, Bool.not_eq_true'] at h
  obtain ⟨⟨⟨⟨h1, ⟨h2, h3⟩, h4, h5⟩, h6, h7⟩, h8⟩, h9⟩ := h
  have hb : env.blockKind = .function := by unfold Env.blockKind; rw [hs, h1]; rfl
  have n1 := notStar h6
  have n2 := notStar h7
  have l5 : py.line = px.line := eq_of_beq h5
  have hyx' : (y == x) = false := by simpa using Ne.symm hxy
  have er : ([x, y] : List Str).eraseDups.length = 2 := by simp [List.eraseDups_cons, List.filter_cons, hyx']
  unfold swappedStores
  simp [hb, Env.kindOf, hs, h2, h4, l5, h8, h9, Expr.pos, er, List.filterMap_cons]
  rintro (hh | hh)
  · exact nomatch (n1.symm.trans hh)
  · exact nomatch (n2.symm.trans hh)
theorem sw_par3 {S : Sx} {env : PySem.Env} {x y z : Str} {px py pz pt pt2 : Pos} {kt k2 : Nat} {a b c : Expr} (hs : env.scope = S.sc) (hxy : x ≠ y) (hxz : x ≠ z) (hyz : y ≠ z) (h : parB S [(x, px), (y, py), (z, pz)] [a, b, c] = true) :
    swappedStores [.Tuple [.Name x px, .Name y py, .Name z pz] kt pt] (.Tuple [a, b, c] k2 pt2) env = pure (some [x, y, z]) := by
  unfold parB at h
  simp only [Bool.and_eq_true, decide_eq_true_eq, List.all_cons, List.all_nil, List.head?_cons, Option.map_some, Option.getD_some, Bool.and_true, Bool.not_eq_true'] at h
  obtain ⟨⟨⟨⟨h1, ⟨h2, h3⟩, ⟨h4, h5⟩, h4', h5'⟩, h6, h7, h7'⟩, h8⟩, h9⟩ := h
  have hb : env.blockKind = .function := by unfold Env.blockKind; rw [hs, h1]; rfl
  have n1 := notStar h6
  have n2 := notStar h7
  have n3 := notStar h7'
  have l5 : py.line = px.line := eq_of_beq h5
  have l6 : pz.line = px.line := eq_of_beq h5'
  have hyx' : (y == x) = false := by simpa using Ne.symm hxy
  have hzx' : (z == x) = false := by simpa using Ne.symm hxz
  have hzy' : (z == y) = false := by simpa using Ne.symm hyz
  have er : ([x, y, z] : List Str).eraseDups.length = 3 := by simp [List.eraseDups_cons, List.filter_cons, hyx', hzx', hzy']
  unfold swappedStores
  simp [hb, Env.kindOf, hs, h2, h4, h4', l5, l6, h8, h9, Expr.pos, er, List.filterMap_cons]
  rintro (hh | hh | hh)
  · exact nomatch (n1.symm.trans hh)
  · exact nomatch (n2.symm.trans hh)
  · exact nomatch (n3.symm.trans hh)
end DR
/-! Part w: that a piece of the small syntax is this statement; then it runs so. -/
namespace DR
open PySem PySem.Spec PyProof.Rows L2

def isCallE : Expr → Bool
  | .Call .. => true
  | _ => false
def lN (S : Sx) (i : Nat) (y : Str) : Bool := decide (S.N[i]? = some y) && locB S y
def parS (S : Sx) (is : List Nat) (es : Es) (ts vs : List Expr) : Bool := match is, ts, vs with
  | [i, j], [.Name x px, .Name y py], [a, b] => decide (S.N[i]? = some x) && decide (S.N[j]? = some y) && decide (x ≠ y) && decide (i ≠ j) && parB S [(x, px), (y, py)] [a, b] && isEs es S [a, b]
  | [i, j, l], [.Name x px, .Name y py, .Name z pz], [a, b, d] => decide (S.N[i]? = some x) && decide (S.N[j]? = some y) && decide (S.N[l]? = some z) && decide (x ≠ y ∧ x ≠ z ∧ y ≠ z) && decide (i ≠ j ∧ i ≠ l ∧ j ≠ l) && parB S [(x, px), (y, py), (z, pz)] [a, b, d] && isEs es S [a, b, d]
  | _, _, _ => false
mutual
def isS : S → Sx → Stmt → Bool
  | .set i e, S, s => match s with
    | .Assign [.Name y py] x _ => lN S i y && decide (S.sc.kind = .function) && noSD x && isE e S x
    | _ => false
  | .seto i es, S, s => match s with
    | .Assign [.Name y py] (.List l _) _ => lN S i y && isEs es S l
    | _ => false
  | .setn i f as, S, s => match s with
    | .Assign [.Name y py] (.Call (.Name n _) ys [] _) _ => lN S i y && fnB S f n && isAs as S ys && ys.all plainArg
    | _ => false
  | .unp t e, S, s => match s with
    | .Assign [.Tuple ts k p] x _ => isTg S (.tup t) (.Tuple ts k p) && isE e S x && (notTupE x || ts.any (farTg S))
    | _ => false
  | .par is es, S, s => match s with
    | .Assign [.Tuple ts _ _] (.Tuple vs _ _) _ => parS S is es ts vs
    | _ => false
  | .paro i j e, S, s => match s with
    | .Assign [.Tuple [.Name x px, .Name y py] _ _] (.Tuple [.List [] _, b] _ _) _ => decide (S.N[i]? = some x) && decide (S.N[j]? = some y) && decide (x ≠ y) && decide (i ≠ j) && parB S [(x, px), (y, py)] [.List [] px, b] && isE e S b
    | _ => false
  | .ret e, S, s => match s with
    | .Return (some x) _ => isE e S x
    | _ => false
  | .reto es, S, s => match s with
    | .Return (some (.List l _)) _ => isEs es S l
    | _ => false
  | .retv i, S, s => match s with
    | .Return (some (.Name n _)) _ => nameB S i n
    | _ => false
  | .retn, S, s => match s with
    | .Return none _ => true
    | _ => false
  | .ex e, S, s => match s with
    | .Expr x _ => isE e S x && isCallE x
    | _ => false
  | .app i e, S, s => match s with
    | .Expr (.Call (.Attribute (.Name n _) m ap) [x] [] cp) _ => eqStr m "append" && nameB S i n && isE e S x && plainArg x && (ap.endLine == cp.line)
    | _ => false
  | .ext i e, S, s => match s with
    | .Expr (.Call (.Attribute (.Name n _) m ap) [x] [] cp) _ => eqStr m "extend" && nameB S i n && isE e S x && plainArg x && (ap.endLine == cp.line)
    | _ => false
  | .sto i k e, S, s => match s with
    | .Assign [.Subscript (.Name n _) z _] x _ => nameB S i n && isE k S z && isE e S x && notSlice z
    | _ => false
  | .ife c a b, S, s => match s with
    | .If x l r _ => isE c S x && isSs a S l && isSs b S r
    | _ => false
  | .for_ t it b, S, s => match s with
    | .For tg x l [] _ => isIt it S tg x && isTg S t tg && isSs b S l && notSetE x
    | _ => false
  | .wh _ c b, S, s => match s with
    | .While x l [] _ => isE c S x && isSs b S l
    | _ => false
  | .brk, S, s => match s with
    | .Break _ => true
    | _ => false
  | .cont, S, s => match s with
    | .Continue _ => true
    | _ => false
  | .pass, S, s => match s with
    | .Pass _ => true
    | _ => false
  | .raise _, S, s => false
  | .never, S, s => true
def isSs : Ss → Sx → List Stmt → Bool
  | .nil, S, l => l.isEmpty
  | .cons s r, S, l => match l with
    | x :: l => isS s S x && isSs r S l
    | [] => false
end
theorem PS.eq {X : Cx} {c : Ct} {W : WX} {f g : Env → SR} {x : Stmt} (h : PS X x (tS c W f)) (e : ∀ ρ, f ρ = g ρ) : PS X x (tS c W g) := (funext e : f = g) ▸ h
theorem PSs.eq {X : Cx} {c : Ct} {W : WX} {f g : Env → SR} {x : List Stmt} (h : PSs X x (tS c W f)) (e : ∀ ρ, f ρ = g ρ) : PSs X x (tS c W g) := (funext e : f = g) ▸ h
/-- name = a comprehension, stored from within it -/
theorem okSetLc (Φ : Nat → Fn) {e : E} {X : Cx} {c : Ct} {W : WX} {S : Sx} {x : Expr} {i : Nat} {y : Str} {py spos : Pos} (g : Gd X c W Φ S) (hN : X.N[i]? = some y) (hk : S.sc.kind = .function) (hx : noSD x = true) (h : isE e S x = true) (hw : swB S y py x = true) :
    PS X (.Assign [.Name y py] x spos) (tS c W fun ρ => (ev Φ e ρ).sr fun d ρ1 => if i < ρ1.length then .nx (ρ1.set i (.val d)) else .bad) := by
  have sw := sw_is (y := y) (py := py) (l := spos.line) g.sc hk hx
  rw [hw] at sw
  have hyl : X.env.scope.names.lookup y = some .local := by
    rw [g.sc]
    cases x <;> first | (cases hw; done) | skip
    unfold swB at hw
    obtain ⟨h1, _⟩ := and2 hw
    obtain ⟨h1, _⟩ := and2 h1
    exact eq_of_beq h1
  cases x <;> first | (cases hw; done) | skip
  rename_i elt gs scope p
  cases e <;> simp only [isE, Bool.false_eq_true] at h
  · rename_i tg it d e vs
    split at h
    · rename_i y' t i' fs a scope' p' hE
      cases hE
      obtain ⟨h, h8⟩ := and2 h
      obtain ⟨h, h7⟩ := and2 h
      obtain ⟨h, h6⟩ := and2 h
      obtain ⟨h, h5⟩ := and2 h
      obtain ⟨h, h4⟩ := and2 h
      obtain ⟨h, h3⟩ := and2 h
      obtain ⟨h1, h2⟩ := and2 h
      have h1 := of_decide_eq_true h1
      subst h1
      have ok : BlkOk X.N X.env.scope scope (ownOf S vs) := by
        rw [g.N, g.sc]
        exact blkOk_by h3
      have P := ps_setLc g.calm g.nd hN hyl sw (okIt Φ it g h5) ok (fun s H C cl fp => gBm_of fun L => okTg tg (g.blk s H scope cl C fp L) h6) (fun s H C cl fp => tTm_of fun L => okC Φ d (g.blk s H scope cl C fp L) h7) (fun s H C cl fp => tDm_of fun L => (okE Φ e (g.blk s H scope cl C fp L) h8).e) (fold_of h2 _)
      rw [own_snd] at P
      have E : ev Φ (.comp tg it d e vs) = compF (turn1 tg (evC Φ d) (ev Φ e) vs) (evIt Φ it) vs := funext fun ρ => by rw [ev]; rfl
      rw [E]
      refine PS.weak P fun D σ H z => ?_
      exact lc_reads (subB_ok h4) (set_reads z)
    · cases h
  · rename_i tg it d tg2 it2 d2 e vs vs2
    split at h
    · rename_i y' t i' fs a t2 i2 fs2 a2 scope' p' hE
      cases hE
      obtain ⟨h, h15⟩ := and2 h
      obtain ⟨h, h14⟩ := and2 h
      obtain ⟨h, h13⟩ := and2 h
      obtain ⟨h, h12⟩ := and2 h
      obtain ⟨h, h11⟩ := and2 h
      obtain ⟨h, h10⟩ := and2 h
      obtain ⟨h, h9⟩ := and2 h
      obtain ⟨h, h8⟩ := and2 h
      obtain ⟨h, h7⟩ := and2 h
      obtain ⟨h, h6⟩ := and2 h
      obtain ⟨h, h5⟩ := and2 h
      obtain ⟨h, h4⟩ := and2 h
      obtain ⟨h, h3⟩ := and2 h
      obtain ⟨h1, h2⟩ := and2 h
      have h1 := of_decide_eq_true h1
      have h2 := of_decide_eq_true h2
      subst h1 h2
      have ok : BlkOk X.N X.env.scope scope (ownOf S vs) := by
        rw [g.N, g.sc]
        exact blkOk_by h5
      have hvv : ∀ i ∈ vs2, i ∈ (ownOf S vs).map (·.2) := by
        rw [own_snd]
        exact subB_ok h8
      have P := ps_setLc2 g.calm g.nd hN hyl sw (okIt Φ it g h9) ok hvv (fun s H C cl fp => gBm_of fun L => okTg tg (g.blk s H scope cl C fp L) h10) (fun s H C cl fp => tTm_of fun L => okC Φ d (g.blk s H scope cl C fp L) h11)
        (fun s H C cl fp => tIm_of fun L => okIt Φ it2 (g.blk s H scope cl C fp L) h12) (fun s H C cl fp => gBm_of fun L => okTg tg2 (g.blk s H scope cl C fp L) h13) (fun s H C cl fp => tTm_of fun L => okC Φ d2 (g.blk s H scope cl C fp L) h14)
        (fun s H C cl fp => tDm_of fun L => (okE Φ e (g.blk s H scope cl C fp L) h15).e) (fold_of h3 _) (fold_of h4)
      rw [own_snd] at P
      have E : ev Φ (.comp2 tg it d tg2 it2 d2 e vs vs2) = compF (turn2 tg (evC Φ d) (evIt Φ it2) tg2 (evC Φ d2) (ev Φ e) vs vs2) (evIt Φ it) vs := funext fun ρ => by rw [ev]; rfl
      rw [E]
      refine PS.weak P fun D σ H z => ?_
      exact lc2_reads (subB_ok h6) (subB_ok h7) (subB_ok h8) (set_reads z)
    · cases h
set_option maxHeartbeats 40000000 in
mutual
theorem okS (Φ : Nat → Fn) : ∀ (s : S) {X : Cx} {c : Ct} {W : WX} {S : Sx} {x : Stmt}, Gd X c W Φ S → PassesOwn (model X.prog X.w) X.A X.env X.xe → isS s S x = true → PS X x (tS c W (exS Φ s))
  | .set i e, X, c, W, S, x, g, hp, h => by
    simp only [isS] at h
    split at h
    · rename_i y py x p
      obtain ⟨h, h4⟩ := and2 h
      obtain ⟨h, h3⟩ := and2 h
      obtain ⟨h1, h2⟩ := and2 h
      have h2 := of_decide_eq_true h2
      unfold lN at h1
      obtain ⟨h1, h5⟩ := and2 h1
      have hN : X.N[i]? = some y := by rw [g.N]; exact of_decide_eq_true h1
      obtain ⟨q1, q2⟩ := g.loc h5
      cases hw : swB S y py x with
      | true => exact PS.eq (okSetLc Φ g hN h2 h3 h4 hw) fun ρ => by first | (rw [exS]; done) | (rw [exS]; rfl)
      | false =>
        have sw := sw_is (y := y) (py := py) (l := p.line) g.sc h2 h3
        rw [hw] at sw
        exact PS.eq (PS.weak (ps_set g.nd hN q1 (okE Φ e g h4).e sw q2) fun D σ H z => set_reads z) fun ρ => by first | (rw [exS]; done) | (rw [exS]; rfl)
    · cases h
  | .seto i es, X, c, W, S, x, g, hp, h => by
    simp only [isS] at h
    split at h
    · obtain ⟨h1, h4⟩ := and2 h
      unfold lN at h1
      obtain ⟨h1, h5⟩ := and2 h1
      obtain ⟨q1, q2⟩ := g.loc h5
      exact PS.eq (PS.weak (ps_set g.nd (by rw [g.N]; exact of_decide_eq_true h1) q1 (pe_lst (okEs Φ es g h4)) rfl q2) fun D σ H z => seto_reads z) fun ρ => by first | (rw [exS]; done) | (rw [exS]; rfl)
    · cases h
  | .setn i f as, X, c, W, S, x, g, hp, h => by
    simp only [isS] at h
    split at h
    · rename_i y py n pn ys pc p
      obtain ⟨h, h4⟩ := and2 h
      obtain ⟨h, h3⟩ := and2 h
      obtain ⟨h1, h2⟩ := and2 h
      unfold lN at h1
      obtain ⟨h1, h5⟩ := and2 h1
      obtain ⟨q1, q2⟩ := g.loc h5
      unfold fnB at h2
      obtain ⟨h2, h6⟩ := and2 h2
      obtain ⟨h7, h8⟩ := and2 h2
      obtain ⟨γ, k, f', fd, ps, G, hgu, hr, hm, hk, hb⟩ := (g.fs f n (of_decide_eq_true h7)).ex
      have hd : (n == ("__debug__" : Str)) = false := by unfold ndb at h6; simpa using h6
      have A := okAs Φ as g h3
      have hN : X.N[i]? = some y := by rw [g.N]; exact of_decide_eq_true h1
      cases ys with
      | cons z ys =>
        rw [List.all_cons, Bool.and_eq_true] at h4
        refine PS.weak (t' := tS c W (exS Φ (.setn i f as))) (ps_set g.nd hN q1 (g_call G hr hgu (g.gl h8) hm hk hb g.tk A hd (star_cons h4.1) (star_any h4.2)) rfl q2) fun D σ H ⟨ρ, O, s, z⟩ => ?_
        rw [exS] at z
        exact ⟨ρ, O, s, z.sr.imp fun avs ρ1 H1 O1 p1 s1 h1 vs hv => new_step s1 hv h1⟩
      | nil =>
        refine PS.weak (t' := tS c W (exS Φ (.setn i f as))) (ps_set g.nd hN q1 (g_call0 G hr hgu (g.gl h8) hm hk hb g.tk hd) rfl q2) fun D σ H ⟨ρ, O, s, z⟩ => ?_
        rw [exS] at z
        cases as with
        | nil =>
          rw [evAs] at z
          exact new_step s .nil z
        | _ => simp [isAs] at h3
    · cases h
  | .unp t e, X, c, W, S, x, g, hp, h => by
    simp only [isS] at h
    split at h
    · obtain ⟨h, h3⟩ := and2 h
      obtain ⟨h1, h2⟩ := and2 h
      exact PS.eq (PS.weak (ps_asg (okE Φ e g h2).e (okTg (.tup t) g h1) sw_sole ((Bool.or_eq_true_iff.mp h3).elim (fun q => (sw_tup (l := 0) q).2) fun q => sw_far g.sc q)) fun D σ H z => unp_reads z) fun ρ => by first | (rw [exS]; done) | (rw [exS]; rfl)
    · cases h
  | .par is es, X, c, W, S, x, g, hp, h => by
    simp only [isS] at h
    split at h
    · unfold parS at h
      split at h
      · rename_i i j x px y py a b
        obtain ⟨h, h6⟩ := and2 h
        obtain ⟨h, h5⟩ := and2 h
        obtain ⟨h, h4⟩ := and2 h
        obtain ⟨h, h3⟩ := and2 h
        obtain ⟨h1, h2⟩ := and2 h
        have l := h5
        unfold parB at l
        simp only [Bool.and_eq_true, decide_eq_true_eq, List.all_cons, List.all_nil, Bool.and_true] at l
        refine PS.eq (PS.weak (ps_par g.calm g.nd (by rw [g.N]; exact of_decide_eq_true h1) (by rw [g.N]; exact of_decide_eq_true h2) (of_decide_eq_true h4) (by rw [g.sc]; exact l.1.1.1.2.1.1) (by rw [g.sc]; exact l.1.1.1.2.2.1) (okEs Φ es g h6) (sw_par2 g.sc (of_decide_eq_true h3) h5) rfl)
          fun D σ H z => par_inv (is := [i, j]) z fun vs H1 hl q => ?_) fun ρ => by first | (rw [exS]; done) | (rw [exS]; rfl)
        match vs, hl with
        | [v, w], _ => exact ⟨v, w, rfl, q⟩
      · rename_i i j l x px y py z pz a b d
        obtain ⟨h, h7⟩ := and2 h
        obtain ⟨h, h6⟩ := and2 h
        obtain ⟨h, h5⟩ := and2 h
        obtain ⟨h, h4⟩ := and2 h
        obtain ⟨h, h3⟩ := and2 h
        obtain ⟨h1, h2⟩ := and2 h
        have l' := h6
        unfold parB at l'
        simp only [Bool.and_eq_true, decide_eq_true_eq, List.all_cons, List.all_nil, Bool.and_true] at l'
        have d1 := of_decide_eq_true h4
        have d2 := of_decide_eq_true h5
        refine PS.eq (PS.weak (ps_par3 g.calm g.nd (by rw [g.N]; exact of_decide_eq_true h1) (by rw [g.N]; exact of_decide_eq_true h2) (by rw [g.N]; exact of_decide_eq_true h3) d2.1 d2.2.1 d2.2.2 (by rw [g.sc]; exact l'.1.1.1.2.1.1) (by rw [g.sc]; exact l'.1.1.1.2.2.1.1) (by rw [g.sc]; exact l'.1.1.1.2.2.2.1)
          (okEs Φ es g h7) (sw_par3 g.sc d1.1 d1.2.1 d1.2.2 h6) rfl) fun D σ H z => par_inv (is := [i, j, l]) z fun vs H1 hl q => ?_) fun ρ => by first | (rw [exS]; done) | (rw [exS]; rfl)
        match vs, hl with
        | [u, v, w], _ => exact ⟨u, v, w, rfl, q⟩
      · cases h
    · cases h
  | .paro i j e, X, c, W, S, x, g, hp, h => by
    simp only [isS] at h
    split at h
    · rename_i x px y py kt pt pl b k2 pt2 pos
      obtain ⟨h, h6⟩ := and2 h
      obtain ⟨h, h5⟩ := and2 h
      obtain ⟨h, h4⟩ := and2 h
      obtain ⟨h, h3⟩ := and2 h
      obtain ⟨h1, h2⟩ := and2 h
      have l := h5
      unfold parB at l
      simp only [Bool.and_eq_true, decide_eq_true_eq, List.all_cons, List.all_nil, Bool.and_true] at l
      have h5' : parB S [(x, px), (y, py)] [.List [] pl, b] = true := h5
      have pb : plainArg b = true := l.1.1.2.2
      have E : PE X b (fun σ H Q => ∃ L, tD (c.more L) W (ev Φ e) σ H Q) := ⟨fun pins s σ H Q I ⟨L, z⟩ => (okE Φ e (g.moreC L) h6).e.run pins s σ H Q I z⟩
      refine PS.eq (PS.weak (ps_par g.calm g.nd (by rw [g.N]; exact of_decide_eq_true h1) (by rw [g.N]; exact of_decide_eq_true h2) (of_decide_eq_true h4) (by rw [g.sc]; exact l.1.1.1.2.1.1) (by rw [g.sc]; exact l.1.1.1.2.2.1) (pa_cons (pe_lst pa_nil) (pa_cons E pa_nil (star_cons pb)) rfl) (sw_par2 g.sc (of_decide_eq_true h3) h5') rfl)
        fun D σ H z => paro_reads z fun v w H1 q => ⟨v, w, rfl, q⟩) fun ρ => by first | (rw [exS]; done) | (rw [exS]; rfl)
    · cases h
  | .ret e, X, c, W, S, x, g, hp, h => by
    simp only [isS] at h
    split at h
    · exact PS.eq (PS.weak (ps_ret (okE Φ e g h).e) fun D σ H z => ret_reads z) fun ρ => by first | (rw [exS]; done) | (rw [exS]; rfl)
    · cases h
  | .reto es, X, c, W, S, x, g, hp, h => by
    simp only [isS] at h
    split at h
    · exact PS.eq (PS.weak (ps_ret (pe_lst (okEs Φ es g h))) fun D σ H z => reto_reads z) fun ρ => by first | (rw [exS]; done) | (rw [exS]; rfl)
    · cases h
  | .retv i, X, c, W, S, x, g, hp, h => by
    simp only [isS] at h
    split at h
    · obtain ⟨q1, q2, q3, q4⟩ := g.name h
      exact PS.eq (PS.weak (ps_ret (pe_var q1 q2 q3 q4)) fun D σ H z => retv_reads z) fun ρ => by first | (rw [exS]; done) | (rw [exS]; rfl)
    · cases h
  | .retn, X, c, W, S, x, g, hp, h => by
    simp only [isS] at h
    split at h
    · exact PS.eq (PS.weak ps_retN fun D σ H z => retn_reads z) fun ρ => by first | (rw [exS]; done) | (rw [exS]; rfl)
    · cases h
  | .ex e, X, c, W, S, x, g, hp, h => by
    simp only [isS] at h
    split at h
    · rename_i x p
      obtain ⟨h1, h2⟩ := and2 h
      have sw : swapsWith x none p.line X.env = pure false := by cases x <;> first | rfl | cases h2
      exact PS.eq (PS.weak (ps_expr (okE Φ e g h1).e sw) fun D σ H z => ex_reads z) fun ρ => by first | (rw [exS]; done) | (rw [exS]; rfl)
    · cases h
  | .app i e, X, c, W, S, x, g, hp, h => by
    simp only [isS] at h
    split at h
    · obtain ⟨h, h5⟩ := and2 h
      obtain ⟨h, h4⟩ := and2 h
      obtain ⟨h, h3⟩ := and2 h
      obtain ⟨h1, h2⟩ := and2 h
      have h1 := of_decide_eq_true h1
      subst h1
      obtain ⟨q1, q2, q3, q4⟩ := g.name h2
      refine PS.eq (PS.weak (ps_expr (pe_bm PySem.F.plainAttrs_list PySem.F.slot_list_append PySem.F.type_list_append mt_append (pe_var q1 q2 q3 q4) (pa_cons (okE Φ e g h3).e pa_nil (star_cons h4)) rfl ?_ h5 (star_cons h4) rfl)) fun D σ H z => app_reads z) fun ρ => by first | (rw [exS]; done) | (rw [exS]; rfl)
      rw [star_cons h4]
      rfl
    · cases h
  | .ext i e, X, c, W, S, x, g, hp, h => by
    simp only [isS] at h
    split at h
    · obtain ⟨h, h5⟩ := and2 h
      obtain ⟨h, h4⟩ := and2 h
      obtain ⟨h, h3⟩ := and2 h
      obtain ⟨h1, h2⟩ := and2 h
      have h1 := of_decide_eq_true h1
      subst h1
      obtain ⟨q1, q2, q3, q4⟩ := g.name h2
      refine PS.eq (PS.weak (ps_expr (pe_bm PySem.F.plainAttrs_list PySem.F.slot_list_extend PySem.F.type_list_extend mt_extend (pe_var q1 q2 q3 q4) (pa_cons (okE Φ e g h3).e pa_nil (star_cons h4)) rfl ?_ h5 (star_cons h4) rfl)) fun D σ H z => ext_reads z) fun ρ => by first | (rw [exS]; done) | (rw [exS]; rfl)
      rw [star_cons h4]
      rfl
    · cases h
  | .sto i k e, X, c, W, S, x, g, hp, h => by
    simp only [isS] at h
    split at h
    · rename_i n pn z pz x p
      obtain ⟨h, h4⟩ := and2 h
      obtain ⟨h, h3⟩ := and2 h
      obtain ⟨h1, h2⟩ := and2 h
      obtain ⟨q1, q2, q3, q4⟩ := g.name h1
      exact PS.eq (PS.weak (ps_asg (okE Φ e g h3).e (pg_sub (pe_var q1 q2 q3 q4) (okE Φ k g h2).e set_list (fun v => by clear h2; cases z <;> first | rfl | cases h4)) sw_sub.1 (sw_sub (l := 0)).2) fun D σ H z => sto_reads z) fun ρ => by first | (rw [exS]; done) | (rw [exS]; rfl)
    · cases h
  | .ife d a b, X, c, W, S, x, g, hp, h => by
    simp only [isS] at h
    split at h
    · obtain ⟨h, h3⟩ := and2 h
      obtain ⟨h1, h2⟩ := and2 h
      exact PS.eq (PS.weak (ps_if (okE Φ d g h1).t (okSs Φ a g hp h2) (okSs Φ b g hp h3)) fun D σ H z => if_reads z) fun ρ => by first | (rw [exS]; done) | (rw [exS]; rfl)
    · cases h
  | .for_ t it b, X, c, W, S, x, g, hp, h => by
    simp only [isS] at h
    split at h
    · obtain ⟨h, h4⟩ := and2 h
      obtain ⟨h, h3⟩ := and2 h
      obtain ⟨h1, h2⟩ := and2 h
      exact PS.eq (PS.weak (ps_for hp g.calm (okIt Φ it g h1) (okTg t g h2) (okSs Φ b g hp h3) (fold_of h4 _)) fun D σ H z => for_reads z) fun ρ => by first | (rw [exS]; done) | (rw [exS]; rfl)
    · cases h
  | .wh n d b, X, c, W, S, x, g, hp, h => by
    simp only [isS] at h
    split at h
    · obtain ⟨h1, h2⟩ := and2 h
      exact PS.eq (PS.weak (ps_while hp (okE Φ d g h1).t (okSs Φ b g hp h2)) fun D σ H z => while_reads (n := n) z) fun ρ => by first | (rw [exS]; done) | (rw [exS]; rfl)
    · cases h
  | .brk, X, c, W, S, x, g, hp, h => by
    simp only [isS] at h
    split at h
    · exact PS.eq (f := fun ρ => .bk ρ) (PS.weak ps_break fun D σ H ⟨ρ, O, s, z⟩ => z σ H O .refl s) fun ρ => by first | (rw [exS]; done) | (rw [exS]; rfl)
    · cases h
  | .cont, X, c, W, S, x, g, hp, h => by
    simp only [isS] at h
    split at h
    · exact PS.eq (f := fun ρ => .ct ρ) (PS.weak ps_continue fun D σ H ⟨ρ, O, s, z⟩ => z σ H O .refl s) fun ρ => by first | (rw [exS]; done) | (rw [exS]; rfl)
    · cases h
  | .pass, X, c, W, S, x, g, hp, h => by
    simp only [isS] at h
    split at h
    · exact PS.eq (f := fun ρ => .nx ρ) (PS.weak ps_pass fun D σ H ⟨ρ, O, s, z⟩ => z σ H O .refl s) fun ρ => by first | (rw [exS]; done) | (rw [exS]; rfl)
    · cases h
  | .raise y, X, c, W, S, x, g, hp, h => by simp [isS] at h
  | .never, X, c, W, S, x, g, hp, h => PS.eq (f := fun _ => .bad) (PS.weak ps_never fun D σ H ⟨ρ, O, s, z⟩ => z) fun ρ => by first | (rw [exS]; done) | (rw [exS]; rfl)
theorem okSs (Φ : Nat → Fn) : ∀ (s : Ss) {X : Cx} {c : Ct} {W : WX} {S : Sx} {l : List Stmt}, Gd X c W Φ S → PassesOwn (model X.prog X.w) X.A X.env X.xe → isSs s S l = true → PSs X l (tS c W (exSs Φ s))
  | .nil, X, c, W, S, l, g, hp, h => by
    simp only [isSs, List.isEmpty_iff] at h
    subst h
    exact PSs.eq (f := fun ρ => .nx ρ) (PSs.weak pss_nil fun D σ H ⟨ρ, O, s, z⟩ => z σ H O .refl s) fun ρ => by rw [exSs]
  | .cons s r, X, c, W, S, l, g, hp, h => by
    simp only [isSs] at h
    split at h
    · obtain ⟨h1, h2⟩ := and2 h
      exact PSs.eq (PSs.weak (pss_cons (okS Φ s g hp h1) (okSs Φ r g hp h2)) fun D σ H z => seq_reads z) fun ρ => by rw [exSs]
    · cases h
end
end DR
/-! Part x: a def by its body. -/
namespace DR
open PySem PySem.Spec PyProof.Rows L2

theorem hid_anti {O O' : List Addr} {H : Hp} (h : ∀ a ∈ O, a ∈ O') : Le (hid O' H) (hid O H) := fun a o e =>
  have ⟨h1, h2⟩ := hid_some.mp e
  hid_some.mpr ⟨fun m => h1 (h a m), h2⟩
theorem slotsOf_length : ∀ (as : List Arg) (k : Nat), (slotsOf as k).length = as.length
  | [], _ => rfl
  | .val _ :: r, k => congrArg (· + 1) (slotsOf_length r k)
  | .mut _ :: r, k => congrArg (· + 1) (slotsOf_length r (k + 1))
  | .scr _ :: r, k => congrArg (· + 1) (slotsOf_length r k)
/-- the slots at the entry, one by one -/
theorem entry_at {K : PySem.W.Frag} {O Bs : List Addr} {H : Hp} {F : List Addr} : ∀ {bs : List Addr} {vs : List V} {as : List Arg} {k : Nat}, ArgV K O H bs vs as → (∀ (j : Nat) b, bs[j]? = some b → Bs[k + j]? = some b) → ∀ (i : Nat) (s : Slot), (slotsOf as k)[i]? = some s →
    ∃ v, vs[i]? = some v ∧ SlotOk ⟨K, F, Bs⟩ H O (some v) s ∧ ∀ xs, s ≠ .own xs
  | _, _, _, k, .nil, _, i, s, e => by simp [slotsOf] at e
  | _, _, _, k, .val (d := d) hd t, hb, i, s, e => by
    cases i with
    | zero =>
      simp [slotsOf] at e
      subst e
      refine ⟨_, rfl, ?_, fun _ z => nomatch z⟩
      exact ⟨_, rfl, hd⟩
    | succ i =>
      obtain ⟨v, h1, h2, h3⟩ := entry_at t hb i s (by simpa [slotsOf] using e)
      exact ⟨v, by simpa using h1, h2, h3⟩
  | _, _, _, k, .mut hH hd t, hb, i, s, e => by
    cases i with
    | zero =>
      simp [slotsOf] at e
      subst e
      refine ⟨_, rfl, ?_, fun _ z => nomatch z⟩
      exact ⟨_, _, rfl, by simpa using hb 0 _ rfl, hH, hd⟩
    | succ i =>
      obtain ⟨v, h1, h2, h3⟩ := entry_at (Bs := Bs) (k := k + 1) t (fun j b z => by have := hb (j + 1) b (by simpa using z); rw [← this]; congr 1; omega) i s (by simpa [slotsOf] using e)
      exact ⟨v, by simpa using h1, h2, h3⟩
  | _, _, _, k, .scr hs t, hb, i, s, e => by
    cases i with
    | zero =>
      simp [slotsOf] at e
      subst e
      refine ⟨_, rfl, ?_, fun _ z => nomatch z⟩
      exact ⟨_, rfl, hs⟩
    | succ i =>
      obtain ⟨v, h1, h2, h3⟩ := entry_at t hb i s (by simpa [slotsOf] using e)
      exact ⟨v, by simpa using h1, h2, h3⟩
/-- no two slots hold the same lent list -/
theorem entry_inj : ∀ {as : List Arg} {k i j n : Nat} {xs ys : List DR.D}, (slotsOf as k)[i]? = some (.bor n xs) → (slotsOf as k)[j]? = some (.bor n ys) → i = j
  | [], _, _, _, _, _, _, h, _ => by simp [slotsOf] at h
  | .val d :: r, k, i, j, n, xs, ys, h1, h2 => by
    cases i with
    | zero => simp [slotsOf] at h1
    | succ i => cases j with
      | zero => simp [slotsOf] at h2
      | succ j => exact congrArg (· + 1) (entry_inj (as := r) (k := k) (by simpa [slotsOf] using h1) (by simpa [slotsOf] using h2))
  | .scr d :: r, k, i, j, n, xs, ys, h1, h2 => by
    cases i with
    | zero => simp [slotsOf] at h1
    | succ i => cases j with
      | zero => simp [slotsOf] at h2
      | succ j => exact congrArg (· + 1) (entry_inj (as := r) (k := k) (by simpa [slotsOf] using h1) (by simpa [slotsOf] using h2))
  | .mut d :: r, k, i, j, n, xs, ys, h1, h2 => by
    have low : ∀ (as : List Arg) (k i n : Nat) (xs : List DR.D), (slotsOf as k)[i]? = some (.bor n xs) → k ≤ n := by
      intro as
      induction as with
      | nil => intro k i n xs h; simp [slotsOf] at h
      | cons a as ih =>
        intro k i n xs h
        cases a <;> cases i <;> simp [slotsOf] at h
        · exact ih _ _ _ _ h
        · omega
        · exact Nat.le_trans (Nat.le_succ k) (ih _ _ _ _ h)
        · exact ih _ _ _ _ h
    cases i with
    | zero => cases j with
      | zero => rfl
      | succ j =>
        simp [slotsOf] at h1 h2
        have := low _ _ _ _ _ h2
        omega
    | succ i => cases j with
      | zero =>
        simp [slotsOf] at h1 h2
        have := low _ _ _ _ _ h1
        omega
      | succ j => exact congrArg (· + 1) (entry_inj (as := r) (k := k + 1) (by simpa [slotsOf] using h1) (by simpa [slotsOf] using h2))
theorem at_app {ρ : Env} {n i : Nat} : Env.at (ρ ++ List.replicate n Slot.un) i = ρ.at i := by
  unfold Env.at
  rw [List.getD_eq_getElem?_getD, List.getD_eq_getElem?_getD]
  by_cases h : i < ρ.length
  · rw [List.getElem?_append_left h]
  · rw [List.getElem?_append_right (Nat.le_of_not_lt h), List.getElem?_eq_none (l := ρ) (Nat.le_of_not_lt h), List.getElem?_replicate]
    split <;> rfl
theorem at_get {ρ : Env} {i : Nat} {s : Slot} (h : ρ.at i = s) (hs : s ≠ .un) : ρ[i]? = some s := by
  unfold Env.at at h
  rw [List.getD_eq_getElem?_getD] at h
  cases q : ρ[i]? with
  | none => rw [q] at h; exact absurd h.symm hs
  | some t => rw [q] at h; exact congrArg some h
theorem entry_ok {K : PySem.W.Frag} {O Bs : List Addr} {H : Hp} {vs : List V} {as : List Arg} {N : List Str} (hx : Hx O H) (nd : Bs.Nodup) (sub : ∀ b ∈ Bs, b ∈ O) (a : ArgV K O H Bs vs as) (hn : as.length ≤ N.length) :
    StOk ⟨K, O, Bs⟩ H (L2.start N vs) (slotsOf as 0 ++ List.replicate (N.length - as.length) .un) O := by
  have hl := a.length
  have get : ∀ {i : Nat} {s : Slot}, s ≠ .un → Env.at (slotsOf as 0 ++ List.replicate (N.length - as.length) Slot.un) i = s → (slotsOf as 0)[i]? = some s := fun {i s} hs h => at_get (by rw [at_app] at h; exact h) hs
  have E := fun i s => entry_at (Bs := Bs) (F := O) (k := 0) a (fun j b z => by rw [Nat.zero_add]; exact z) i s
  refine ⟨by simp [L2.start, slotsOf_length, hl], hx, fun _ m => m, sub, nd, fun i => ?_, fun i j xs ys h1 _ _ => ?_, fun i j n xs ys h1 h2 => entry_inj (get (by simp) h1) (get (by simp) h2)⟩
  · cases q : Env.at (slotsOf as 0 ++ List.replicate (N.length - as.length) Slot.un) i with
    | un => trivial
    | _ =>
      obtain ⟨v, h1, h2, _⟩ := E i _ (get (by simp) q)
      have : (L2.start N vs).getD i none = some v := by
        have lt : i < vs.length := (List.getElem?_eq_some_iff.mp h1).1
        unfold L2.start
        rw [List.getD_eq_getElem?_getD, List.getElem?_append_left (by simpa using lt), List.getElem?_map, h1]
        rfl
      rw [this]
      exact h2
  · obtain ⟨v, _, _, h3⟩ := E i _ (get (by simp) h1)
    exact absurd rfl (h3 xs)
/-- the lent lists at the end -/
theorem outs_ok {c : Ct} {O O' O2 : List Addr} {H H' : Hp} (sub : ∀ a ∈ O2, a ∈ O') : ∀ {bs : List Addr} {vs : List V} {as : List Arg} {k : Nat} {ρ : Env} {outs : List (List DR.D)}, ArgV c.K O H bs vs as → (∀ (j : Nat) b, bs[j]? = some b → c.Bs[k + j]? = some b) → outsOf as ρ k = some outs →
    (∀ (i : Nat) s, ρ[i]? = some s → ∃ v, SlotOk c H' O' v s) → Outs c.K O2 H' bs outs
  | _, _, _, k, ρ, outs, .nil, _, e, _ => by
    have e : some [] = some outs := by
      cases ρ <;> exact e
    cases e
    exact .nil
  | _, _, _, k, ρ, outs, .val _ t, hb, e, hs => by
    cases ρ with
    | nil => cases e
    | cons s ρ => exact outs_ok sub t hb e fun i s' z => hs (i + 1) s' (by simpa using z)
  | _, _, _, k, ρ, outs, .scr _ t, hb, e, hs => by
    cases ρ with
    | nil => cases e
    | cons s ρ => exact outs_ok sub t hb e fun i s' z => hs (i + 1) s' (by simpa using z)
  | _, _, _, k, ρ, outs, .mut (b := b0) _ _ t, hb, e, hs => by
    cases ρ with
    | nil => cases e
    | cons s ρ =>
      cases s with
      | bor j xs =>
        simp only [outsOf] at e
        split at e
        · rename_i jk
          subst jk
          obtain ⟨os, e1, rfl⟩ := Option.map_eq_some_iff.mp e
          obtain ⟨v, b, ws, _, h2, h3, h4⟩ := hs 0 _ rfl
          have h5 := hb 0 b0 rfl
          rw [Nat.add_zero, h2] at h5
          cases h5
          exact .cons h3 (h4.le (hid_anti sub)) (outs_ok sub t (fun i b z => by have := hb (i + 1) b (by simpa using z); rw [← this]; congr 1; omega) e1 fun i s' z => hs (i + 1) s' (by simpa using z))
        · cases e
      | _ => simp [outsOf] at e
theorem slots_of {c : Ct} {H : Hp} {σ : Sg} {ρ : Env} {O : List Addr} (s : StOk c H σ ρ O) : ∀ (i : Nat) t, ρ[i]? = some t → ∃ v, SlotOk c H O v t := by
  intro i t e
  have q := s.sl i
  have : ρ.at i = t := by
    unfold Env.at
    rw [List.getD_eq_getElem?_getD, e]
    rfl
  rw [this] at q
  exact ⟨_, q⟩
/-- what a body does is what the def answers -/
theorem body_reads {K : PySem.W.Frag} {O Bs : List Addr} {H : Hp} {vs : List V} {as : List Arg} {Q : VK} {E : XK} {r : SR} (sub : ∀ b ∈ Bs, b ∈ O) (a : ArgV K O H Bs vs as) (h : FP K O Bs H (r.fin as) Q E) :
    Sq ⟨K, O, Bs⟩ (fun cls d _ H' => E cls d H') { nx := fun _ H' => Q .non H', rt := Q } O H r := by
  have ext : ∀ {O' : List Addr} {H' : Hp}, Post ⟨K, O, Bs⟩ O H O' H' → Ext Bs H H' := fun {O' H'} p b o e n => p.keep b o e (by
    by_cases m : b ∈ O
    · exact .inr ⟨m, n⟩
    · exact .inl m)
  have base : ∀ (j : Nat) b, Bs[j]? = some b → Bs[0 + j]? = some b := fun j b z => by rw [Nat.zero_add]; exact z
  cases r with
  | nx ρ =>
    intro σ' H' O' p s
    simp only [SR.fin] at h
    cases e : outsOf as ρ 0 with
    | none => rw [e] at h; exact h.elim
    | some os =>
      rw [e] at h
      exact h .non H' (ext p) (outs_ok (c := ⟨K, O, Bs⟩) s.fx a base e (slots_of s)) .non
  | rt d ρ =>
    intro σ' H' O' v p s dv
    simp only [SR.fin] at h
    cases e : outsOf as ρ 0 with
    | none => rw [e] at h; exact h.elim
    | some os =>
      rw [e] at h
      exact h v H' (ext p) (outs_ok (c := ⟨K, O, Bs⟩) s.fx a base e (slots_of s)) (dv.le (hid_anti s.fx))
  | rn xs ρ =>
    intro σ' H' O' b ws p s mb nb hb dws
    simp only [SR.fin] at h
    have more : ∀ z ∈ b :: O, z ∈ O' := fun z m => (List.mem_cons.mp m).elim (fun q => q ▸ mb) (s.fx z)
    cases e : outsOf as ρ 0 with
    | none => rw [e] at h; exact h.elim
    | some os =>
      rw [e] at h
      exact h b ws H' (ext p) ((p.new b mb).elim (fun q => absurd q nb) id) hb (outs_ok (c := ⟨K, O, Bs⟩) more a base e (slots_of s)) (dws.le (hid_anti more))
  | exc x ρ =>
    intro σ' H' O' p s cls d xo
    simp only [SR.fin] at h
    cases e : outsOf as ρ 0 with
    | none => rw [e] at h; exact h.elim
    | some os =>
      rw [e] at h
      refine h cls d H' (ext p) (outs_ok (c := ⟨K, O, Bs⟩) s.fx a base e (slots_of s)) ⟨xo.1, xo.2.imp id fun ⟨p, fs, h1, h2, h3, h4⟩ => ⟨p, fs, h1, h2, h3, h4.le (hid_anti s.fx)⟩⟩
  | bk ρ => exact h.elim
  | ct ρ => exact h.elim
  | bad => exact h.elim
/-- a def that was checked keeps its promise -/
theorem okFn {γ : Bool} {P : Program} {w : World} {K : PySem.W.Frag} {mg : Str → Option Value} {base : Heap} {k : Nat} {f : Addr} {fd : FuncData} {ps N : List Str} {x qual : Str} {params : Arguments} {body : List Stmt} {sc : Scope} {kws : List (Str × V)} {Φ : Nat → Fn} {S : Sx} {b : Ss} {m : Fn}
    (F : FunD K x qual params body sc [] kws f fd) (fs : FnScope N ps sc) (hN : S.N = N) (hs : S.sc = sc) (hf : S.fb = fun _ => true) (ok : isSs b S body = true)
    (bs : ∀ b ∈ S.bs, mg b = none) (gi : ∀ p ∈ S.gi, ∃ u, mg p.1 = some u ∧ RelV (.int p.2) u)
    (hγ : ("repr" : Str) ∈ S.bs → γ = true)
    (calls : ∀ i y, S.nm[i]? = some y → ∃ γ' f' fd' ps', (γ' = true → γ = true) ∧ GFn γ' P w K mg base k f' fd' ps' (spD K (Φ i)) ∧ mg y = some (.ref f') ∧ PySem.W.keepIn K (.ref f') = true ∧ Binds K fd' ps' [])
    (gens : ∀ i y, S.gn[i]? = some y → ∃ j f' fd' ps', j + 3 ≤ k ∧ L2.GFn P w K mg base j f' fd' ps' (spG K (Φ (1000 + i))) ∧ mg y = some (.ref f') ∧ PySem.W.keepIn K (.ref f') = true ∧ Binds K fd' ps' [])
    (hm : ∀ as, m as ≠ .bad → run Φ ps.length N.length b as = m as) : GFn γ P w K mg base (k + 1) f fd ps (spD K m) := by
  have hne : ∀ {as : List Arg} {O Bs : List Addr} {H : Hp} {Q : VK} {E : XK}, FP K O Bs H (m as) Q E → m as ≠ .bad := fun {as O Bs H Q E} h z => by rw [z] at h; exact h
  have hlen : ∀ {as : List Arg}, m as ≠ .bad → as.length = ps.length ∧ ps.length ≤ N.length ∧ (exSs Φ b (slotsOf as 0 ++ List.replicate (N.length - ps.length) .un)).fin as = m as := fun {as} h => by
    have e := hm as h
    unfold run at e
    split at e
    · rename_i q
      exact ⟨q.1, q.2, e⟩
    · exact absurd e.symm h
  refine GFn.of F fs (fun vs H Q E ⟨O, Bs, as, _, _, _, a, h⟩ => a.length.trans (hlen (hne h)).1) fun cd A out s H vs Q E hr hg sp => ?_
  obtain ⟨O, Bs, as, hx, nd, sub, a, h⟩ := sp
  obtain ⟨l1, l2, e⟩ := hlen (hne h)
  rw [← e] at h
  have g : Gd (cxOf (CX P w) P w K mg base N qual sc f cd A out s H E) ⟨K, O, Bs⟩ (fun cls d _ H' => E cls d H') Φ S :=
    { N := hN.symm, nd := fs.nd, sc := hs.symm, fn := hf.symm, K := rfl, calm := rfl, un := (by have := hr.un; show (A.deeper _).units + 68 < cLine; omega), gu := fun q => hg (hγ q), tk := takes_of rfl rfl rfl rfl, bs := bs, gi := gi,
      fs := fun i y z => by
        obtain ⟨γ', f', fd', ps', gg, G, h1, h2, h3⟩ := calls i y z
        exact ⟨γ', k, f', fd', ps', G, fun q => hg (gg q), hr, h1, h2, h3⟩
      gs := fun i y z => by
        obtain ⟨j, f', fd', ps', le, G, h1, h2, h3⟩ := gens i y z
        exact ⟨j, f', fd', ps', G, hr.mono le, h1, h2, h3⟩ }
  refine ⟨_, okSs Φ b g (passes_of rfl) ok, slotsOf as 0 ++ List.replicate (N.length - ps.length) .un, O, ?_, body_reads sub a h⟩
  have en := entry_ok (N := N) hx nd sub a (by omega)
  rw [l1] at en
  exact en
/-! generator defs: some statements, then «yield from» a tuple -/
def okPre : S → Bool
  | .ex _ => true
  | .set _ _ => true
  | .unp _ _ => true
  | _ => false
def isYf : S → Sx → Stmt → Bool
  | .ret e, S, .Expr (.YieldFrom x _) _ => isE e S x
  | _, _, _ => false
def isGs : Ss → Sx → List Stmt → Bool
  | .nil, _, _ => false
  | .cons s r, S, l => match l with
    | [] => false
    | [st] => (match r with
      | .nil => isYf s S st
      | _ => false)
    | st :: l => okPre s && isS s S st && isGs r S l
/-- what is asked where r is how the body ends: the tuple's items are handed out -/
def GQ (c : Ct) (D : GEnds) (ys : List V) (O : List Addr) (H : Hp) : SR → Prop
  | .rt d ρ' => ∃ xs, d = .tuple xs ∧ ∀ σ' H' O' ws, Post c O H O' H' → StOk c H' σ' ρ' O' → Ds c.K (hid O' H') ws xs → ys.length + ws.length ≤ sizeLine ∧ D.nx (ys ++ ws) σ' H'
  | _ => False
theorem GQ.from {c : Ct} {D : GEnds} {ys : List V} {O O1 : List Addr} {H H1 : Hp} {r : SR} (h : GQ c D ys O H r) (p : Post c O H O1 H1) (fx : ∀ z ∈ c.Fx, z ∈ O1) : GQ c D ys O1 H1 r := by
  cases r with
  | rt d ρ =>
    obtain ⟨xs, e, k⟩ := h
    exact ⟨xs, e, fun σ' H' O' ws q => k σ' H' O' ws (p.trans q fx)⟩
  | _ => exact h.elim
theorem pre_ends {Φ : Nat → Fn} {s : S} {ρ : Env} (h : okPre s = true) : (∃ ρ1, exS Φ s ρ = .nx ρ1) ∨ (∃ x ρ1, exS Φ s ρ = .exc x ρ1) ∨ exS Φ s ρ = .bad := by
  cases s with
  | ex e =>
    rw [exS]
    cases ev Φ e ρ with
    | ok d ρ1 => exact .inl ⟨_, rfl⟩
    | exc x ρ1 => exact .inr (.inl ⟨_, _, rfl⟩)
    | bad => exact .inr (.inr rfl)
  | set i e =>
    rw [exS]
    cases ev Φ e ρ with
    | ok d ρ1 =>
      show (∃ ρ2, (if i < ρ1.length then SR.nx (ρ1.set i (.val d)) else .bad) = _) ∨ _
      by_cases q : i < ρ1.length
      · rw [if_pos q]
        exact .inl ⟨_, rfl⟩
      · refine .inr (.inr ?_)
        show (if i < ρ1.length then SR.nx (ρ1.set i (.val d)) else .bad) = _
        rw [if_neg q]
    | exc x ρ1 => exact .inr (.inl ⟨_, _, rfl⟩)
    | bad => exact .inr (.inr rfl)
  | unp t e =>
    rw [exS]
    cases ev Φ e ρ with
    | ok d ρ1 =>
      cases q : bindT (.tup t) d ρ1 with
      | some ρ2 => exact .inl ⟨ρ2, by show (match bindT (.tup t) d ρ1 with | some ρ2 => SR.nx ρ2 | none => .bad) = _; rw [q]⟩
      | none => exact .inr (.inr (by show (match bindT (.tup t) d ρ1 with | some ρ2 => SR.nx ρ2 | none => .bad) = _; rw [q]))
    | exc x ρ1 => exact .inr (.inl ⟨_, _, rfl⟩)
    | bad => exact .inr (.inr rfl)
  | _ => cases h
theorem okGs (Φ : Nat → Fn) : ∀ (b : Ss) {X : Cx} {c : Ct} {W : WX} {S : Sx} {l : List Stmt}, Gd X c W Φ S → PassesOwn (model X.prog X.w) X.A X.env X.xe → X.A.handled = none → interactive X.env = false → isGs b S l = true →
    ∃ t, GSs X l t ∧ ∀ D ys σ H ρ O, StOk c H σ ρ O → GQ c D ys O H (exSs Φ b ρ) → t D ys σ H
  | .nil, X, c, W, S, l, g, hp, hh, hi, h => by cases h
  | .cons s r, X, c, W, S, l, g, hp, hh, hi, h => by
    cases l with
    | nil => cases h
    | cons st l =>
      cases l with
      | nil =>
        cases r with
        | cons _ _ => cases h
        | nil =>
          have h : isYf s S st = true := h
          unfold isYf at h
          split at h
          · rename_i e x yp pos _
            refine ⟨_, gss_cons (DS.gs_yieldT (yp := yp) (pos := pos) (okE Φ e g h).e hh hi) gss_nil, fun D ys σ H ρ O st k => ?_⟩
            have k : GQ c D ys O H (((ev Φ e ρ).sr fun d ρ1 => SR.rt d ρ1).seq fun ρ1 => .nx ρ1) := by
              have e1 : exSs Φ (.cons (.ret e) .nil) ρ = (((ev Φ e ρ).sr fun d ρ1 => SR.rt d ρ1).seq fun ρ1 => .nx ρ1) := by
                rw [exSs, exS]
                congr 1
              rw [← e1]
              exact k
            refine ⟨ρ, O, st, ?_⟩
            cases q : ev Φ e ρ with
            | ok d ρ1 =>
              rw [q] at k
              obtain ⟨xs, rfl, k⟩ := k
              intro H' O' p s' v dv
              obtain ⟨a, ws, rfl, sq, sd⟩ := dv.tup_inv
              obtain ⟨k1, k2⟩ := k σ H' O' ws p s' sd
              exact ⟨a, ws, rfl, g.K ▸ sqT_real sq, k1, k2⟩
            | exc x ρ1 => rw [q] at k; exact k.elim
            | bad => rw [q] at k; exact k.elim
          · cases h
      | cons st2 l =>
        have h : (okPre s && isS s S st && isGs r S (st2 :: l)) = true := h
        rw [Bool.and_eq_true, Bool.and_eq_true] at h
        obtain ⟨⟨h1, h2⟩, h3⟩ := h
        obtain ⟨t, ht, kt⟩ := okGs Φ r g hp hh hi h3
        refine ⟨_, gss_cons (gs_ps (okS Φ s g hp h2)) ht, fun D ys σ H ρ O so k => ⟨ρ, O, so, ?_⟩⟩
        rw [exSs] at k
        rcases pre_ends (Φ := Φ) (ρ := ρ) h1 with ⟨ρ1, e⟩ | ⟨x, ρ1, e⟩ | e
        · rw [e] at k ⊢
          intro σ' H' O' p s'
          exact kt D ys σ' H' ρ1 O' s' (GQ.from k p s'.fx)
        · rw [e] at k
          exact k.elim
        · rw [e] at k
          exact k.elim
/-- a generator def that was checked keeps its promise -/
theorem okGen {P : Program} {w : World} {K : PySem.W.Frag} {mg : Str → Option Value} {base : Heap} {k : Nat} {f : Addr} {fd : FuncData} {ps N : List Str} {x qual : Str} {params : Arguments} {body : List Stmt} {sc : Scope} {kws : List (Str × V)} {Φ : Nat → Fn} {S : Sx} {b : Ss}
    (F : FunD K x qual params body sc [] kws f fd) (fs : L2.GScope N ps sc) (hN : S.N = N) (hs : S.sc = sc) (hf : S.fb = fun _ => true) (ok : isGs b S body = true) (hgn : S.gn = [])
    (bs : ∀ b ∈ S.bs, mg b = none) (gi : ∀ p ∈ S.gi, ∃ u, mg p.1 = some u ∧ RelV (.int p.2) u) (nr : ("repr" : Str) ∉ S.bs)
    (calls : ∀ i y, S.nm[i]? = some y → ∃ f' fd' ps', GFn false P w K mg base k f' fd' ps' (spD K (Φ i)) ∧ mg y = some (.ref f') ∧ PySem.W.keepIn K (.ref f') = true ∧ Binds K fd' ps' []) :
    L2.GFn P w K mg base (k + 1) f fd ps (spG K (run Φ ps.length N.length b)) := by
  obtain ⟨oc, od, dV, kV, doc, pm, an, cd, ct, osl, rfl, lk, hcd, _, _⟩ := F.ex
  have len : ∀ {as : List Arg} {xs : List DR.D}, run Φ ps.length N.length b as = .ok (.tuple xs) [] → as.length = ps.length ∧ ps.length ≤ N.length ∧ (exSs Φ b (slotsOf as 0 ++ List.replicate (N.length - ps.length) .un)).fin as = .ok (.tuple xs) [] := fun {as xs} h => by
    unfold run at h
    split at h
    · rename_i q
      exact ⟨q.1, q.2, h⟩
    · cases h
  refine L2.gfn_of lk hcd fs (fun vs H Q E ⟨O, as, xs, _, a, e, _⟩ => a.length.trans (len e).1) fun A outer s H vs Q E pn hr sp => ?_
  obtain ⟨O, as, xs, hx, a, e, hl, hQ⟩ := sp
  obtain ⟨l1, l2, e⟩ := len e
  have g : Gd (L2.gcxOf P w K mg base N qual sc f cd A outer s H E pn) ⟨K, O, []⟩ (fun cls d _ H' => E cls d H') Φ S :=
    { N := hN.symm, nd := fs.nd, sc := hs.symm, fn := hf.symm, K := rfl, calm := rfl, un := (by have := hr.un; show (A.deeper _).units + 68 < cLine; omega), gu := fun q => absurd q nr, tk := L2.takes_gcx, bs := bs, gi := gi,
      fs := fun i y z => by
        obtain ⟨f', fd', ps', G, h1, h2, h3⟩ := calls i y z
        exact ⟨false, k, f', fd', ps', G, (fun q => nomatch q), hr, h1, h2, h3⟩
      gs := fun i y z => by rw [hgn] at z; simp at z }
  obtain ⟨t, ht, kt⟩ := okGs Φ b g L2.owns_gcx hr.hd (by show (sc.kind == .module && _) = false; rw [fs.kind]; rfl) ok
  refine ⟨t, ht, kt _ _ _ _ (slotsOf as 0 ++ List.replicate (N.length - ps.length) .un) O ?_ ?_⟩
  · have en := entry_ok (N := N) hx List.nodup_nil (fun b m => nomatch m) a (by omega)
    rw [l1] at en
    exact en
  · cases r : exSs Φ b (slotsOf as 0 ++ List.replicate (N.length - ps.length) .un) with
    | rt d ρ =>
      rw [r] at e
      simp only [SR.fin] at e
      split at e
      · cases e
        refine ⟨xs, rfl, fun σ' H' O' ws p s' sd => ⟨?_, ?_⟩⟩
        · have := sizeLine_ge
          rw [sd.length]
          simp
          omega
        · refine hQ ws H' (fun b o q _ => p.keep b o q ?_) (sd.le (hid_anti s'.fx))
          by_cases m : b ∈ O
          · exact .inr ⟨m, by simp⟩
          · exact .inl m
      · cases e
    | nx ρ => rw [r] at e; simp only [SR.fin] at e; split at e <;> cases e
    | rn ys ρ => rw [r] at e; simp only [SR.fin] at e; split at e <;> cases e
    | exc y ρ => rw [r] at e; simp only [SR.fin] at e; split at e <;> cases e
    | bk ρ => rw [r] at e; cases e
    | ct ρ => rw [r] at e; cases e
    | bad => rw [r] at e; cases e
end DR
/-! Part y: a program's defs, one after another; the law. -/
namespace DR
open PySem PySem.Spec PyProof.Rows L2
def fns (l : List Fn) : Nat → Fn := fun j => l.getD j fun _ => .bad
section
variable {P : Program} {w : World} {K : PySem.W.Frag} {mg : Str → Option Value} {base : Heap} {k j : Nat}
/-- the def of this name answers as m -/
structure Ok (γ : Bool) (P : Program) (w : World) (K : PySem.W.Frag) (mg : Str → Option Value) (base : Heap) (k : Nat) (x : Str) (m : Fn) : Prop where
  ex : ∃ f fd ps, GFn γ P w K mg base k f fd ps (spD K m) ∧ mg x = some (.ref f) ∧ PySem.W.keepIn K (.ref f) = true ∧ Binds K fd ps []
theorem Ok.mono {γ δ : Bool} {x : Str} {m : Fn} (h : Ok γ P w K mg base j x m) (le : j ≤ k) (hg : γ = true → δ = true) : Ok δ P w K mg base k x m := by
  obtain ⟨f, fd, ps, g, r⟩ := h.ex
  exact ⟨f, fd, ps, g.mono le hg, r⟩
/-- the defs that a def calls -/
inductive Oks (γ : Bool) (P : Program) (w : World) (K : PySem.W.Frag) (mg : Str → Option Value) (base : Heap) (k : Nat) : List Str → List Fn → Prop
  | nil : Oks γ P w K mg base k [] []
  | cons {δ : Bool} {j : Nat} {x : Str} {m : Fn} {xs : List Str} {ms : List Fn} : Ok δ P w K mg base j x m → ((decide (j ≤ k)) && (!δ || γ)) = true → Oks γ P w K mg base k xs ms → Oks γ P w K mg base k (x :: xs) (m :: ms)
theorem Oks.get {γ : Bool} : ∀ {xs : List Str} {ms : List Fn}, Oks γ P w K mg base k xs ms → ∀ (i : Nat) (y : Str), xs[i]? = some y → Ok γ P w K mg base k y (fns ms i)
  | _, _, .nil, i, y, h => by simp at h
  | _, _, .cons a le t, 0, y, h => by
    simp at h
    subst h
    rw [Bool.and_eq_true] at le
    exact a.mono (of_decide_eq_true le.1) fun q => by
      have := le.2
      rw [q] at this
      simpa using this
  | _, _, .cons a le t, i + 1, y, h => t.get i y (by simpa using h)
theorem Ok.of {γ : Bool} {f : Addr} {fd : FuncData} {ps N : List Str} {x qual : Str} {params : Arguments} {body : List Stmt} {sc : Scope} {kws : List (Str × V)} {nm : List Str} {ms : List Fn} {gi : List (Str × Int)} {bs : List Str} {b : Ss}
    (F : FunD K x qual params body sc [] kws f fd) (hx : mg x = some (.ref f)) (hb : Binds K fd ps []) (fs : FnScope N ps sc) (ok : isSs b ⟨N, sc, fun _ => true, nm, gi, bs, []⟩ body = true)
    (hbs : ∀ b ∈ bs, mg b = none) (hgi : ∀ p ∈ gi, ∃ u, mg p.1 = some u ∧ RelV (.int p.2) u) (hγ : (!decide (("repr" : Str) ∈ bs) || γ) = true) (calls : Oks γ P w K mg base k nm ms) : Ok γ P w K mg base (k + 1) x (run (fns ms) ps.length N.length b) := by
  refine ⟨f, fd, ps, okFn (S := ⟨N, sc, fun _ => true, nm, gi, bs, []⟩) F fs rfl rfl rfl ok hbs hgi (fun q => by rw [decide_eq_true q] at hγ; simpa using hγ) (fun i y h => ?_) (fun i y h => by simp at h) (fun _ _ => rfl), hx, F.kp, hb⟩
  obtain ⟨f', fd', ps', g, r⟩ := (calls.get i y h).ex
  exact ⟨γ, f', fd', ps', id, g, r⟩
/-- the generator def of this name hands out what m answers -/
structure OkG (P : Program) (w : World) (K : PySem.W.Frag) (mg : Str → Option Value) (base : Heap) (k : Nat) (x : Str) (m : Fn) : Prop where
  ex : ∃ f fd ps, L2.GFn P w K mg base k f fd ps (spG K m) ∧ mg x = some (.ref f) ∧ PySem.W.keepIn K (.ref f) = true ∧ Binds K fd ps []
theorem OkG.of {f : Addr} {fd : FuncData} {ps N : List Str} {x qual : Str} {params : Arguments} {body : List Stmt} {sc : Scope} {kws : List (Str × V)} {nm : List Str} {ms : List Fn} {gi : List (Str × Int)} {bs : List Str} {b : Ss}
    (F : FunD K x qual params body sc [] kws f fd) (hx : mg x = some (.ref f)) (hb : Binds K fd ps []) (fs : L2.GScope N ps sc) (ok : isGs b ⟨N, sc, fun _ => true, nm, gi, bs, []⟩ body = true)
    (hbs : ∀ b ∈ bs, mg b = none) (hgi : ∀ p ∈ gi, ∃ u, mg p.1 = some u ∧ RelV (.int p.2) u) (nr : decide (("repr" : Str) ∈ bs) = false) (calls : Oks false P w K mg base k nm ms) : OkG P w K mg base (k + 1) x (run (fns ms) ps.length N.length b) := by
  refine ⟨f, fd, ps, okGen (S := ⟨N, sc, fun _ => true, nm, gi, bs, []⟩) F fs rfl rfl rfl ok rfl hbs hgi (of_decide_eq_false nr) (fun i y h => ?_), hx, F.kp, hb⟩
  obtain ⟨f', fd', ps', g, r⟩ := (calls.get i y h).ex
  exact ⟨f', fd', ps', g, r⟩
/-- the generator defs that a def calls -/
inductive OkGs (P : Program) (w : World) (K : PySem.W.Frag) (mg : Str → Option Value) (base : Heap) (k : Nat) : List Str → List Fn → Prop
  | nil : OkGs P w K mg base k [] []
  | cons {j : Nat} {x : Str} {m : Fn} {xs : List Str} {ms : List Fn} : OkG P w K mg base j x m → j + 3 ≤ k → OkGs P w K mg base k xs ms → OkGs P w K mg base k (x :: xs) (m :: ms)
theorem OkGs.get : ∀ {xs : List Str} {ms : List Fn}, OkGs P w K mg base k xs ms → ∀ (i : Nat) (y : Str), xs[i]? = some y → ∃ j, j + 3 ≤ k ∧ OkG P w K mg base j y (fns ms i)
  | _, _, .nil, i, y, h => by simp at h
  | _, _, .cons a le t, 0, y, h => by
    simp at h
    subst h
    exact ⟨_, le, a⟩
  | _, _, .cons a le t, i + 1, y, h => t.get i y (by simpa using h)
/-- the defs, and the generator defs from 1000 on -/
def fnsG (l g : List Fn) : Nat → Fn := fun j => if j < 1000 then fns l j else fns g (j - 1000)
theorem fnsG_lo {l g : List Fn} {i : Nat} (h : i < 1000) : fnsG l g i = fns l i := by
  unfold fnsG
  rw [if_pos h]
theorem fnsG_hi {l g : List Fn} {i : Nat} : fnsG l g (1000 + i) = fns g i := by
  unfold fnsG
  rw [if_neg (by omega), Nat.add_sub_cancel_left]
theorem fnG {γ : Bool} {f : Addr} {fd : FuncData} {ps N : List Str} {x qual : Str} {params : Arguments} {body : List Stmt} {sc : Scope} {kws : List (Str × V)} {nm gn : List Str} {ms gs : List Fn} {gi : List (Str × Int)} {bs : List Str} {b : Ss}
    (F : FunD K x qual params body sc [] kws f fd) (fs : FnScope N ps sc) (ok : isSs b ⟨N, sc, fun _ => true, nm, gi, bs, gn⟩ body = true) (few : nm.length ≤ 1000)
    (hbs : ∀ b ∈ bs, mg b = none) (hgi : ∀ p ∈ gi, ∃ u, mg p.1 = some u ∧ RelV (.int p.2) u) (hγ : (!decide (("repr" : Str) ∈ bs) || γ) = true) (calls : Oks γ P w K mg base k nm ms) (gens : OkGs P w K mg base k gn gs) : GFn γ P w K mg base (k + 1) f fd ps (spD K (run (fnsG ms gs) ps.length N.length b)) := by
  refine okFn (S := ⟨N, sc, fun _ => true, nm, gi, bs, gn⟩) (Φ := fnsG ms gs) F fs rfl rfl rfl ok hbs hgi (fun q => by rw [decide_eq_true q] at hγ; simpa using hγ) (fun i y h => ?_) (fun i y h => ?_) (fun _ _ => rfl)
  · have lt : i < nm.length := (List.getElem?_eq_some_iff.mp h).1
    obtain ⟨f', fd', ps', g, r⟩ := (calls.get i y h).ex
    rw [fnsG_lo (by omega)]
    exact ⟨γ, f', fd', ps', id, g, r⟩
  · obtain ⟨j, le, q⟩ := gens.get i y h
    obtain ⟨f', fd', ps', g, r⟩ := q.ex
    rw [fnsG_hi]
    exact ⟨j, f', fd', ps', le, g, r⟩
theorem fnO {γ : Bool} {f : Addr} {fd : FuncData} {ps N : List Str} {x qual : Str} {params : Arguments} {body : List Stmt} {sc : Scope} {kws : List (Str × V)} {nm : List Str} {ms : List Fn} {gi : List (Str × Int)} {bs : List Str} {b : Ss}
    (F : FunD K x qual params body sc [] kws f fd) (fs : FnScope N ps sc) (ok : isSs b ⟨N, sc, fun _ => true, nm, gi, bs, []⟩ body = true)
    (hbs : ∀ b ∈ bs, mg b = none) (hgi : ∀ p ∈ gi, ∃ u, mg p.1 = some u ∧ RelV (.int p.2) u) (hγ : (!decide (("repr" : Str) ∈ bs) || γ) = true) (calls : Oks γ P w K mg base k nm ms) : GFn γ P w K mg base (k + 1) f fd ps (spD K (run (fns ms) ps.length N.length b)) := by
  refine okFn (S := ⟨N, sc, fun _ => true, nm, gi, bs, []⟩) F fs rfl rfl rfl ok hbs hgi (fun q => by rw [decide_eq_true q] at hγ; simpa using hγ) (fun i y h => ?_) (fun i y h => by simp at h) (fun _ _ => rfl)
  obtain ⟨f', fd', ps', g, r⟩ := (calls.get i y h).ex
  exact ⟨γ, f', fd', ps', id, g, r⟩
theorem Ok.ofG {γ : Bool} {f : Addr} {fd : FuncData} {ps N : List Str} {x qual : Str} {params : Arguments} {body : List Stmt} {sc : Scope} {kws : List (Str × V)} {nm gn : List Str} {ms gs : List Fn} {gi : List (Str × Int)} {bs : List Str} {b : Ss}
    (F : FunD K x qual params body sc [] kws f fd) (hx : mg x = some (.ref f)) (hb : Binds K fd ps []) (fs : FnScope N ps sc) (ok : isSs b ⟨N, sc, fun _ => true, nm, gi, bs, gn⟩ body = true) (few : nm.length ≤ 1000)
    (hbs : ∀ b ∈ bs, mg b = none) (hgi : ∀ p ∈ gi, ∃ u, mg p.1 = some u ∧ RelV (.int p.2) u) (hγ : (!decide (("repr" : Str) ∈ bs) || γ) = true) (calls : Oks γ P w K mg base k nm ms) (gens : OkGs P w K mg base k gn gs) : Ok γ P w K mg base (k + 1) x (run (fnsG ms gs) ps.length N.length b) :=
  ⟨f, fd, ps, fnG F fs ok few hbs hgi hγ calls gens, hx, F.kp, hb⟩
theorem law_sp {m : Fn} {n : Nat} (h : ∀ ns : List Int, ns.length ≤ n → m [.scr ns] = .ok (.bool true) []) (H : Hp) (a : Addr) (ns : List Int) (hn : ns.length ≤ n) (hS : SqL K H a (ns.map V.int)) : spD K m [.ref a] H (fun v _ => v = .bl true) fun _ _ _ => False := by
  refine ⟨[], [], [.scr ns], ⟨fun a m => nomatch m⟩, List.nodup_nil, (fun b m => nomatch m), .scr (by rw [hid_nil]; exact hS) .nil, ?_⟩
  rw [h ns hn]
  intro v H' _ _ hv
  exact hv.bl_inv
end
end DR
set_option Elab.async false
set_option linter.all false
set_option maxRecDepth 100000
set_option maxHeartbeats 0
/-! The defs of the program and of the laws, in the small syntax. -/
namespace PG
open DR
def b_is_whole : Ss := (.cons (.ret (.and (.isi .int (.var 0)) (.one (.not (.isi .bool (.var 0)))))) .nil)
def f_is_whole : Fn := run (fns []) 1 1 b_is_whole
def b_is_tuple_of : Ss := (.cons (.ret (.and (.isi .tuple (.var 1)) (.one (.cmp .eq (.bi .len (.var 1)) (.var 0))))) .nil)
def f_is_tuple_of : Fn := run (fns []) 2 2 b_is_tuple_of
def b_is_ascending : Ss := (.cons (.ret (.bi .all (.comp (.tup (.cons (.nm 1) (.cons (.nm 2) .nil))) (.zip (.var 0) (.sl (.var 0) (.yes (.lit (.int 1))) .no)) .no (.cmp .lt (.var 1) (.var 2)) [1, 2]))) .nil)
def f_is_ascending : Fn := run (fns []) 1 3 b_is_ascending
def b_is_atoms : Ss := (.cons (.ret (.and (.call 0 (.val (.var 0) .nil)) (.one (.chain .le .le (.lit (.int 1)) (.var 0) (.gint "MOST_ATOMS" 4))))) .nil)
def f_is_atoms : Fn := run (fns [f_is_whole]) 1 1 b_is_atoms
def b_is_atom : Ss := (.cons (.ret (.and (.call 0 (.val (.var 1) .nil)) (.one (.chain .le .lt (.lit (.int 0)) (.var 1) (.var 0))))) .nil)
def f_is_atom : Fn := run (fns [f_is_whole]) 2 2 b_is_atom
def b_is_set : Ss := (.cons (.ife (.not (.isi .tuple (.var 1))) (.cons (.ret (.lit (.bl false))) .nil) .nil) (.cons (.ret (.and (.bi .all (.comp (.nm 2) (.data (.var 1)) .no (.call 0 (.val (.var 0) (.val (.var 2) .nil))) [2])) (.one (.call 1 (.val (.var 1) .nil))))) .nil))
def f_is_set : Fn := run (fns [f_is_atom, f_is_ascending]) 2 3 b_is_set
def b_has_rule_form : Ss := (.cons (.ife (.not (.call 0 (.val (.lit (.int 3)) (.val (.var 1) .nil)))) (.cons (.ret (.lit (.bl false))) .nil) .nil) (.cons (.unp (.cons (.nm 2) (.cons (.nm 3) (.cons (.nm 4) .nil))) (.var 1)) (.cons (.ife (.not (.or (.cmp .is (.var 2) (.lit .non)) (.one (.call 1 (.val (.var 0) (.val (.var 2) .nil)))))) (.cons (.ret (.lit (.bl false))) .nil) .nil) (.cons (.ret (.and (.call 2 (.val (.var 0) (.val (.var 3) .nil))) (.one (.call 2 (.val (.var 0) (.val (.var 4) .nil)))))) .nil))))
def f_has_rule_form : Fn := run (fns [f_is_tuple_of, f_is_atom, f_is_set]) 2 5 b_has_rule_form
def b_are_rules : Ss := (.cons (.ife (.not (.bi .all (.comp (.nm 2) (.data (.var 1)) .no (.call 0 (.val (.var 0) (.val (.var 2) .nil))) [2]))) (.cons (.ret (.lit (.bl false))) .nil) .nil) (.cons (.ret (.cmp .eq (.lenset (.var 1)) (.bi .len (.var 1)))) .nil))
def f_are_rules : Fn := run (fns [f_has_rule_form]) 2 3 b_are_rules
def b_is_rulebook : Ss := (.cons (.ife (.not (.call 0 (.val (.lit (.int 2)) (.val (.var 0) .nil)))) (.cons (.ret (.lit (.bl false))) .nil) .nil) (.cons (.unp (.cons (.nm 1) (.cons (.nm 2) .nil)) (.var 0)) (.cons (.ife (.or (.not (.call 1 (.val (.var 1) .nil))) (.one (.not (.isi .tuple (.var 2))))) (.cons (.ret (.lit (.bl false))) .nil) .nil) (.cons (.ret (.and (.cmp .le (.bi .len (.var 2)) (.gint "MOST_RULES" 100)) (.one (.call 2 (.val (.var 1) (.val (.var 2) .nil)))))) .nil))))
def f_is_rulebook : Fn := run (fns [f_is_tuple_of, f_is_atoms, f_are_rules]) 1 3 b_is_rulebook
def b_check_book : Ss := (.cons (.ife (.not (.call 0 (.val (.var 0) .nil))) (.cons .never .nil) .nil) .nil)
def f_check_book : Fn := run (fns [f_is_rulebook]) 1 1 b_check_book
def b_check_set : Ss := (.cons (.ife (.not (.call 0 (.val (.var 0) (.val (.var 1) .nil)))) (.cons .never .nil) .nil) .nil)
def f_check_set : Fn := run (fns [f_is_set]) 2 2 b_check_set
def b_check_book_and_set : Ss := (.cons (.ex (.call 0 (.val (.var 0) .nil))) (.cons (.ex (.call 1 (.val (.ix (.var 0) (.lit (.int 0))) (.val (.var 1) .nil)))) .nil))
def f_check_book_and_set : Fn := run (fns [f_check_book, f_check_set]) 2 2 b_check_book_and_set
def b_is_within : Ss := (.cons (.ret (.bi .all (.comp (.nm 2) (.data (.var 0)) .no (.cmp .inn (.var 2) (.var 1)) [2]))) .nil)
def f_is_within : Fn := run (fns []) 2 3 b_is_within
def b_remains : Ss := (.cons (.ret (.not (.bi .any (.comp (.nm 2) (.data (.ix (.var 0) (.lit (.int 2)))) .no (.cmp .inn (.var 2) (.var 1)) [2])))) .nil)
def f_remains : Fn := run (fns []) 2 3 b_remains
def b_obeys : Ss := (.cons (.ret (.or (.cmp .inn (.ix (.var 1) (.lit (.int 0))) (.var 0)) (.one (.not (.call 0 (.val (.ix (.var 1) (.lit (.int 1))) (.val (.var 0) .nil))))))) .nil)
def f_obeys : Fn := run (fns [f_is_within]) 2 2 b_obeys
def b_violates : Ss := (.cons (.ret (.and (.call 0 (.val (.var 1) (.val (.var 0) .nil))) (.one (.not (.call 1 (.val (.var 0) (.val (.var 1) .nil))))))) .nil)
def f_violates : Fn := run (fns [f_remains, f_obeys]) 2 2 b_violates
def b_remaining : Ss := (.cons (.ex (.call 0 (.val (.var 0) (.val (.var 1) .nil)))) (.cons (.ret (.bi .tuple (.comp (.nm 2) (.data (.ix (.var 0) (.lit (.int 1)))) (.yes (.call 1 (.val (.var 2) (.val (.var 1) .nil)))) (.var 2) [2]))) .nil))
def f_remaining : Fn := run (fns [f_check_book_and_set, f_remains]) 2 3 b_remaining
def b_violated : Ss := (.cons (.ex (.call 0 (.val (.var 0) (.val (.var 1) .nil)))) (.cons (.ret (.bi .tuple (.comp (.nm 2) (.data (.ix (.var 0) (.lit (.int 1)))) (.yes (.call 1 (.val (.var 1) (.val (.var 2) .nil)))) (.var 2) [2]))) .nil))
def f_violated : Fn := run (fns [f_check_book_and_set, f_violates]) 2 3 b_violated
def b_law_cell_at : Ss := (.cons (.ife (.cmp .lt (.var 1) (.lens 0)) (.cons (.ret (.ixs 0 (.var 1))) .nil) .nil) (.cons (.ret (.lit (.int 0))) .nil))
def f_law_cell_at : Fn := run (fns []) 2 2 b_law_cell_at
def b_law_pen : Ss := (.cons (.reto (.cons (.mm true (.lit (.int 0)) (.bop .sub (.var 0) (.bop .pow (.lit (.int 10)) (.lit (.int 18))))) (.cons (.bop .add (.bop .mod (.var 0) (.lit (.int 2147483629))) (.lit (.int 1))) (.cons (.lit (.int 0)) .nil)))) .nil)
def f_law_pen : Fn := run (fns []) 1 1 b_law_pen
def b_law_draw : Ss := (.cons (.ife (.cmp .gt (.ixo 0 (.lit (.int 0))) (.lit (.int 0))) (.cons (.set 2 (.bop .mod (.ixo 0 (.lit (.int 0))) (.var 1))) (.cons (.sto 0 (.lit (.int 0)) (.bop .fdiv (.ixo 0 (.lit (.int 0))) (.var 1))) (.cons (.ret (.var 2)) .nil))) .nil) (.cons (.sto 0 (.lit (.int 2)) (.bop .add (.ixo 0 (.lit (.int 2))) (.lit (.int 1)))) (.cons (.sto 0 (.lit (.int 1)) (.bop .mod (.bop .add (.bop .add (.bop .mul (.ixo 0 (.lit (.int 1))) (.lit (.int 48271))) (.bop .mul (.lit (.int 1009)) (.ixo 0 (.lit (.int 2))))) (.lit (.int 7))) (.lit (.int 2147483647)))) (.cons (.set 3 (.bop .mod (.bop .add (.bop .add (.bop .mul (.ixo 0 (.lit (.int 1))) (.ixo 0 (.lit (.int 1)))) (.bop .mul (.lit (.int 69621)) (.ixo 0 (.lit (.int 1))))) (.lit (.int 11))) (.lit (.int 2147483629)))) (.cons (.set 3 (.bop .mod (.bop .add (.bop .mul (.var 3) (.var 3)) (.bop .mul (.lit (.int 40014)) (.var 3))) (.lit (.int 2147483587)))) (.cons (.ret (.bop .mod (.bop .fdiv (.var 3) (.lit (.int 16))) (.var 1))) .nil))))))
def f_law_draw : Fn := run (fns []) 2 4 b_law_draw
def b_law_same : Ss := (.cons (.ret (.cmp .eq (.bi .repr (.var 0)) (.bi .repr (.var 1)))) .nil)
def f_law_same : Fn := run (fns []) 2 2 b_law_same
def b_law_sets : Ss := (.cons (.set 1 (.lst (.cons (.tup .nil) .nil))) (.cons (.for_ (.nm 2) (.rng (.var 0)) (.cons (.set 1 (.bop .add (.var 1) (.comp (.nm 3) (.data (.var 1)) .no (.bop .add (.var 3) (.tup (.cons (.var 2) .nil))) [3]))) .nil)) (.cons (.ret (.bi .sorted (.var 1))) .nil)))
def f_law_sets : Fn := run (fns []) 1 4 b_law_sets
def b_law_some : Ss := (.cons (.ret (.bi .tuple (.comp (.nm 3) (.rng (.var 1)) (.yes (.cmp .lt (.call 0 (.mut 0 (.val (.lit (.int 6)) .nil))) (.var 2))) (.var 3) [3]))) .nil)
def f_law_some : Fn := run (fns [f_law_draw]) 3 4 b_law_some
def b_law_rule : Ss := (.cons (.par [2, 3] (.cons (.call 0 (.mut 0 (.val (.var 1) .nil))) (.cons (.call 0 (.mut 0 (.val (.lit (.int 9)) .nil))) .nil))) (.cons (.ife (.cmp .eq (.var 3) (.lit (.int 0))) (.cons (.ret (.tup (.cons (.var 2) (.cons (.tup .nil) (.cons (.tup .nil) .nil))))) .nil) .nil) (.cons (.ife (.cmp .lt (.var 3) (.lit (.int 3))) (.cons (.ret (.tup (.cons (.lit .non) (.cons (.call 1 (.mut 0 (.val (.var 1) (.val (.lit (.int 2)) .nil)))) (.cons (.call 1 (.mut 0 (.val (.var 1) (.val (.lit (.int 2)) .nil)))) .nil))))) .nil) .nil) (.cons (.ife (.cmp .lt (.var 3) (.lit (.int 5))) (.cons (.ret (.tup (.cons (.var 2) (.cons (.tup .nil) (.cons (.call 1 (.mut 0 (.val (.var 1) (.val (.lit (.int 3)) .nil)))) .nil))))) .nil) .nil) (.cons (.ife (.cmp .lt (.var 3) (.lit (.int 7))) (.cons (.ret (.tup (.cons (.var 2) (.cons (.call 1 (.mut 0 (.val (.var 1) (.val (.lit (.int 3)) .nil)))) (.cons (.tup .nil) .nil))))) .nil) .nil) (.cons (.ret (.tup (.cons (.var 2) (.cons (.call 1 (.mut 0 (.val (.var 1) (.val (.lit (.int 2)) .nil)))) (.cons (.call 1 (.mut 0 (.val (.var 1) (.val (.lit (.int 2)) .nil)))) .nil))))) .nil))))))
def f_law_rule : Fn := run (fns [f_law_draw, f_law_some]) 2 4 b_law_rule
def b_law_circle : Ss := (.cons (.seto 2 .nil) (.cons (.for_ (.nm 3) (.rng (.var 1)) (.cons (.set 4 (.tup (.cons (.bop .mod (.bop .add (.var 3) (.lit (.int 1))) (.var 1)) .nil))) (.cons (.app 2 (.ite (.cmp .gt (.call 0 (.mut 0 (.val (.lit (.int 3)) .nil))) (.lit (.int 0))) (.tup (.cons (.var 3) (.cons (.tup .nil) (.cons (.var 4) .nil)))) (.tup (.cons (.var 3) (.cons (.var 4) (.cons (.tup .nil) .nil)))))) .nil))) (.cons (.retv 2) .nil)))
def f_law_circle : Fn := run (fns [f_law_draw]) 2 5 b_law_circle
def b_law_book : Ss := (.cons (.set 1 (.bop .add (.lit (.int 1)) (.call 0 (.mut 0 (.val (.lit (.int 4)) .nil))))) (.cons (.set 2 (.ite (.cmp .eq (.call 0 (.mut 0 (.val (.lit (.int 4)) .nil))) (.lit (.int 0))) (.call 1 (.mut 0 (.val (.var 1) .nil))) (.lst .nil))) (.cons (.for_ (.nm 3) (.rng (.call 0 (.mut 0 (.val (.lit (.int 8)) .nil)))) (.cons (.set 4 (.call 2 (.mut 0 (.val (.var 1) .nil)))) (.cons (.ife (.cmp .nin (.var 4) (.var 2)) (.cons (.set 2 (.ite (.cmp .eq (.call 0 (.mut 0 (.val (.lit (.int 2)) .nil))) (.lit (.int 0))) (.bop .add (.lst (.cons (.var 4) .nil)) (.var 2)) (.bop .add (.var 2) (.lst (.cons (.var 4) .nil))))) .nil) .nil) .nil))) (.cons (.ret (.tup (.cons (.var 1) (.cons (.bi .tuple (.var 2)) .nil)))) .nil))))
def f_law_book : Fn := run (fns [f_law_draw, f_law_circle, f_law_rule]) 1 5 b_law_book
def b_law_remains : Ss := (.cons (.ret (.cmp .eq (.comp (.nm 2) (.data (.ix (.var 0) (.lit (.int 2)))) (.yes (.cmp .inn (.var 2) (.var 1))) (.var 2) [2]) (.lst .nil))) .nil)
def f_law_remains : Fn := run (fns []) 2 3 b_law_remains
def b_law_obeys : Ss := (.cons (.ife (.and (.cmp .isn (.ix (.var 1) (.lit (.int 0))) (.lit .non)) (.one (.cmp .inn (.ix (.var 1) (.lit (.int 0))) (.var 0)))) (.cons (.ret (.lit (.bl true))) .nil) .nil) (.cons (.ret (.cmp .ne (.comp (.nm 2) (.data (.ix (.var 1) (.lit (.int 1)))) (.yes (.cmp .nin (.var 2) (.var 0))) (.var 2) [2]) (.lst .nil))) .nil))
def f_law_obeys : Fn := run (fns []) 2 3 b_law_obeys
def b_law_violates : Ss := (.cons (.ret (.and (.call 0 (.val (.var 1) (.val (.var 0) .nil))) (.one (.not (.call 1 (.val (.var 0) (.val (.var 1) .nil))))))) .nil)
def f_law_violates : Fn := run (fns [f_law_remains, f_law_obeys]) 2 2 b_law_violates
def b_heads_due : Ss := (.cons (.ret (.sortsc (.nm 2) (.data (.var 0)) (.yes (.not (.call 0 (.val (.var 1) (.val (.var 2) .nil))))) (.ix (.var 2) (.lit (.int 0))) [2])) .nil)
def f_heads_due : Fn := run (fns [f_obeys]) 2 3 b_heads_due
def b_least_obeying : Ss := (.cons (.set 1 (.tup .nil)) (.cons (.set 2 (.call 0 (.val (.var 0) (.val (.var 1) .nil)))) (.cons (.wh 6 (.var 2) (.cons (.set 1 (.bi .tuple (.bi .sorted (.lst (.star (.var 1) (.star (.var 2) .nil)))))) (.cons (.set 2 (.call 0 (.val (.var 0) (.val (.var 1) .nil)))) .nil))) (.cons (.ret (.var 1)) .nil))))
def f_least_obeying : Fn := run (fns [f_heads_due]) 1 3 b_least_obeying
def b_least_at : Ss := (.cons (.ret (.call 0 (.val (.comp (.nm 2) (.data (.var 0)) (.yes (.and (.cmp .isn (.ix (.var 2) (.lit (.int 0))) (.lit .non)) (.one (.call 1 (.val (.var 2) (.val (.var 1) .nil)))))) (.var 2) [2]) .nil))) .nil)
def f_least_at : Fn := run (fns [f_least_obeying, f_remains]) 2 3 b_least_at
def b_least : Ss := (.cons (.ex (.call 0 (.val (.var 0) (.val (.var 1) .nil)))) (.cons (.ret (.call 1 (.val (.ix (.var 0) (.lit (.int 1))) (.val (.var 1) .nil)))) .nil))
def f_least : Fn := run (fns [f_check_book_and_set, f_least_at]) 2 2 b_least
def b_law_least : Ss := (.cons (.set 3 (.comp (.nm 4) (.data (.var 1)) (.yes (.and (.cmp .isn (.ix (.var 4) (.lit (.int 0))) (.lit .non)) (.one (.call 0 (.val (.var 4) (.val (.var 2) .nil)))))) (.var 4) [4])) (.cons (.set 5 (.comp (.nm 6) (.data (.call 1 (.val (.var 0) .nil))) (.yes (.cmp .eq (.comp (.nm 4) (.data (.var 3)) (.yes (.not (.call 2 (.val (.var 6) (.val (.var 4) .nil))))) (.lit (.int 1)) [4]) (.lst .nil))) (.var 6) [6])) (.cons (.ret (.ix (.ix (.bi .sorted (.comp (.nm 6) (.data (.var 5)) .no (.tup (.cons (.bi .len (.var 6)) (.cons (.var 6) .nil))) [6])) (.lit (.int 0))) (.lit (.int 1)))) .nil)))
def f_law_least : Fn := run (fns [f_law_remains, f_law_sets, f_law_obeys]) 3 7 b_law_least
def b_can_follow : Ss := (.cons (.ret (.and (.cmp .nin (.ix (.var 1) (.lit (.int 0))) (.var 0)) (.one (.call 0 (.val (.ix (.var 1) (.lit (.int 1))) (.val (.var 0) .nil)))))) .nil)
def f_can_follow : Fn := run (fns [f_is_within]) 2 2 b_can_follow
def b_first_behind : Ss := (.cons (.set 2 (.comp (.nm 3) (.data (.var 0)) .no (.ix (.var 3) (.lit (.int 0))) [3])) (.cons (.set 4 (.comp (.nm 3) (.data (.var 1)) (.yes (.call 0 (.val (.var 2) (.val (.var 3) .nil)))) (.var 3) [3])) (.cons (.ret (.ix (.var 4) (.lit (.int 0)))) .nil)))
def f_first_behind : Fn := run (fns [f_can_follow]) 2 5 b_first_behind
def b_order_taken : Ss := (.cons (.set 2 (.comp (.nm 3) (.data (.var 0)) (.yes (.call 0 (.val (.var 3) (.val (.var 1) .nil)))) (.var 3) [3])) (.cons (.set 4 (.tup .nil)) (.cons (.wh 6 (.cmp .lt (.bi .len (.var 4)) (.bi .len (.var 1))) (.cons (.set 4 (.tup (.star (.var 4) (.cons (.call 1 (.val (.var 4) (.val (.var 2) .nil))) .nil)))) .nil)) (.cons (.ret (.var 4)) .nil))))
def f_order_taken : Fn := run (fns [f_remains, f_first_behind]) 2 5 b_order_taken
def b_reason : Ss := (.cons (.set 2 (.call 0 (.val (.var 0) (.val (.var 1) .nil)))) (.cons (.ife (.var 2) (.cons (.ret (.tup (.cons (.lit (.str "violated")) (.cons (.ix (.var 2) (.lit (.int 0))) .nil)))) .nil) .nil) (.cons (.set 3 (.call 1 (.val (.var 0) (.val (.var 1) .nil)))) (.cons (.ife (.cmp .ne (.var 3) (.var 1)) (.cons (.ret (.tup (.cons (.lit (.str "smaller")) (.cons (.var 3) .nil)))) .nil) .nil) (.cons (.ret (.tup (.cons (.lit (.str "settled")) (.cons (.call 2 (.val (.ix (.var 0) (.lit (.int 1))) (.val (.var 1) .nil))) .nil)))) .nil)))))
def f_reason : Fn := run (fns [f_violated, f_least, f_order_taken]) 2 4 b_reason
def b_law_within : Ss := (.cons (.ret (.cmp .eq (.comp (.nm 2) (.data (.var 0)) (.yes (.cmp .nin (.var 2) (.var 1))) (.var 2) [2]) (.lst .nil))) .nil)
def f_law_within : Fn := run (fns []) 2 3 b_law_within
def b_law_order : Ss := (.cons (.par [2, 3] (.cons (.lst .nil) (.cons (.lst .nil) .nil))) (.cons (.wh 6 (.cmp .ne (.bi .sorted (.var 3)) (.bi .list (.var 1))) (.cons (.for_ (.nm 4) (.data (.var 0)) (.cons (.set 5 (.and (.cmp .isn (.ix (.var 4) (.lit (.int 0))) (.lit .non)) (.one (.cmp .nin (.ix (.var 4) (.lit (.int 0))) (.var 3))))) (.cons (.ife (.and (.var 5) (.and (.call 0 (.val (.var 4) (.val (.var 1) .nil))) (.one (.call 1 (.val (.ix (.var 4) (.lit (.int 1))) (.val (.var 3) .nil)))))) (.cons (.par [2, 3] (.cons (.bop .add (.var 2) (.lst (.cons (.var 4) .nil))) (.cons (.bop .add (.var 3) (.lst (.cons (.ix (.var 4) (.lit (.int 0))) .nil))) .nil))) (.cons .brk .nil)) .nil) .nil))) .nil)) (.cons (.ret (.bi .tuple (.var 2))) .nil)))
def f_law_order : Fn := run (fns [f_law_remains, f_law_within]) 2 6 b_law_order
def b_law_reason : Ss := (.cons (.for_ (.nm 3) (.data (.var 1)) (.cons (.ife (.call 0 (.val (.var 2) (.val (.var 3) .nil))) (.cons (.ret (.tup (.cons (.lit (.str "violated")) (.cons (.var 3) .nil)))) .nil) .nil) .nil)) (.cons (.set 4 (.call 1 (.val (.var 0) (.val (.var 1) (.val (.var 2) .nil))))) (.cons (.ret (.ite (.cmp .eq (.var 4) (.var 2)) (.tup (.cons (.lit (.str "settled")) (.cons (.call 2 (.val (.var 1) (.val (.var 2) .nil))) .nil))) (.tup (.cons (.lit (.str "smaller")) (.cons (.var 4) .nil))))) .nil)))
def f_law_reason : Fn := run (fns [f_law_violates, f_law_least, f_law_order]) 3 5 b_law_reason
def b_is_rule_of : Ss := (.cons (.ret (.and (.call 0 (.val (.ix (.var 0) (.lit (.int 0))) (.val (.var 1) .nil))) (.one (.cmp .inn (.var 1) (.ix (.var 0) (.lit (.int 1))))))) .nil)
def f_is_rule_of : Fn := run (fns [f_has_rule_form]) 2 2 b_is_rule_of
def b_is_pair : Ss := (.cons (.ife (.not (.call 0 (.val (.lit (.int 2)) (.val (.var 1) .nil)))) (.cons (.ret (.lit (.bl false))) .nil) .nil) (.cons (.unp (.cons (.nm 2) (.cons (.nm 3) .nil)) (.var 1)) (.cons (.ret (.and (.call 1 (.val (.var 0) (.val (.var 2) .nil))) (.and (.call 1 (.val (.var 0) (.val (.var 3) .nil))) (.one (.call 2 (.val (.var 2) (.val (.var 3) .nil))))))) .nil)))
def f_is_pair : Fn := run (fns [f_is_tuple_of, f_is_set, f_is_within]) 2 4 b_is_pair
def b_fits_rule : Ss := (.cons (.unp (.cons (.nm 2) (.cons (.nm 3) .nil)) (.var 0)) (.cons (.ife (.not (.call 0 (.val (.var 1) (.val (.var 3) .nil)))) (.cons (.ret (.lit (.bl true))) .nil) .nil) (.cons (.ret (.and (.call 1 (.val (.var 3) (.val (.var 1) .nil))) (.one (.call 1 (.val (.var 2) (.val (.var 1) .nil)))))) .nil)))
def f_fits_rule : Fn := run (fns [f_remains, f_obeys]) 2 4 b_fits_rule
def b_fits_rules : Ss := (.cons (.ret (.bi .all (.comp (.nm 2) (.data (.var 1)) .no (.call 0 (.val (.var 0) (.val (.var 2) .nil))) [2]))) .nil)
def f_fits_rules : Fn := run (fns [f_fits_rule]) 2 3 b_fits_rules
def b_fits : Ss := (.cons (.ex (.call 0 (.val (.var 0) .nil))) (.cons (.unp (.cons (.nm 2) (.cons (.nm 3) .nil)) (.var 0)) (.cons (.ret (.and (.call 1 (.val (.var 2) (.val (.var 1) .nil))) (.one (.call 2 (.val (.var 1) (.val (.var 3) .nil)))))) .nil)))
def f_fits : Fn := run (fns [f_check_book, f_is_pair, f_fits_rules]) 2 4 b_fits
def b_settles : Ss := (.cons (.ife (.bi .any (.comp (.nm 2) (.data (.var 0)) .no (.call 0 (.val (.var 1) (.val (.var 2) .nil))) [2])) (.cons (.ret (.lit (.bl false))) .nil) .nil) (.cons (.ret (.cmp .eq (.call 1 (.val (.var 0) (.val (.var 1) .nil))) (.var 1))) .nil))
def f_settles : Fn := run (fns [f_violates, f_least_at]) 2 3 b_settles
def b_is_settled : Ss := (.cons (.ex (.call 0 (.val (.var 0) (.val (.var 1) .nil)))) (.cons (.ret (.call 1 (.val (.ix (.var 0) (.lit (.int 1))) (.val (.var 1) .nil)))) .nil))
def f_is_settled : Fn := run (fns [f_check_book_and_set, f_settles]) 2 2 b_is_settled
def b_is_order : Ss := (.cons (.ife (.not (.call 0 (.val (.bi .len (.var 1)) (.val (.var 2) .nil)))) (.cons (.ret (.lit (.bl false))) .nil) .nil) (.cons (.ife (.not (.bi .all (.comp (.nm 3) (.data (.var 2)) .no (.and (.call 1 (.val (.var 0) (.val (.var 3) .nil))) (.one (.call 2 (.val (.var 3) (.val (.var 1) .nil))))) [3]))) (.cons (.ret (.lit (.bl false))) .nil) .nil) (.cons (.set 4 (.comp (.nm 5) (.data (.var 2)) .no (.ix (.var 5) (.lit (.int 0))) [5])) (.cons (.ife (.not (.bi .all (.comp (.tup (.cons (.nm 6) (.cons (.nm 5) .nil))) (.enum (.var 2)) .no (.call 3 (.val (.sl (.var 4) .no (.yes (.var 6))) (.val (.var 5) .nil))) [6, 5]))) (.cons (.ret (.lit (.bl false))) .nil) .nil) (.cons (.ret (.call 4 (.val (.var 1) (.val (.var 4) .nil)))) .nil)))))
def f_is_order : Fn := run (fns [f_is_tuple_of, f_is_rule_of, f_remains, f_can_follow, f_is_within]) 3 7 b_is_order
def b_shows : Ss := (.cons (.ex (.call 0 (.val (.var 0) (.val (.var 1) .nil)))) (.cons (.ife (.not (.call 1 (.val (.lit (.int 2)) (.val (.var 2) .nil)))) (.cons (.ret (.lit (.bl false))) .nil) .nil) (.cons (.unp (.cons (.nm 3) (.cons (.nm 4) .nil)) (.var 2)) (.cons (.ife (.cmp .eq (.var 3) (.lit (.str "violated"))) (.cons (.ret (.and (.call 2 (.val (.var 0) (.val (.var 4) .nil))) (.one (.call 3 (.val (.var 1) (.val (.var 4) .nil)))))) .nil) .nil) (.cons (.ife (.cmp .eq (.var 3) (.lit (.str "settled"))) (.cons (.ret (.and (.not (.call 4 (.val (.var 0) (.val (.var 1) .nil)))) (.one (.call 5 (.val (.var 0) (.val (.var 1) (.val (.var 4) .nil))))))) .nil) .nil) (.cons (.ret (.and (.cmp .eq (.var 3) (.lit (.str "smaller"))) (.and (.cmp .ne (.var 4) (.var 1)) (.one (.call 6 (.val (.var 0) (.val (.tup (.cons (.var 4) (.cons (.var 1) .nil))) .nil))))))) .nil))))))
def f_shows : Fn := run (fns [f_check_book_and_set, f_is_tuple_of, f_is_rule_of, f_violates, f_violated, f_is_order, f_fits]) 3 5 b_shows
def b_law_is_right : Ss := (.cons (.par [2, 3] (.cons (.call 0 (.val (.var 0) (.val (.var 1) .nil))) (.cons (.call 1 (.val (.var 0) (.val (.var 1) .nil))) .nil))) (.cons (.ife (.or (.cmp .ne (.cmp .eq (.ix (.var 2) (.lit (.int 0))) (.lit (.str "settled"))) (.var 3)) (.one (.cmp .isn (.call 2 (.val (.var 0) (.val (.var 1) (.val (.var 2) .nil)))) (.lit (.bl true))))) (.cons (.ret (.lit (.bl false))) .nil) .nil) (.cons (.ife (.cmp .ne (.cmp .eq (.ix (.var 2) (.lit (.int 0))) (.lit (.str "violated"))) (.cmp .ne (.call 3 (.val (.var 0) (.val (.var 1) .nil))) (.tup .nil))) (.cons (.ret (.lit (.bl false))) .nil) .nil) (.cons (.for_ (.nm 4) (.data (.call 4 (.val (.ix (.var 0) (.lit (.int 0))) .nil))) (.cons (.set 5 (.and (.cmp .ne (.var 4) (.var 1)) (.and (.call 5 (.val (.var 4) (.val (.var 1) .nil))) (.one (.call 6 (.val (.var 0) (.val (.tup (.cons (.var 4) (.cons (.var 1) .nil))) .nil))))))) (.cons (.ife (.or (.cmp .ne (.call 2 (.val (.var 0) (.val (.var 1) (.val (.tup (.cons (.lit (.str "smaller")) (.cons (.var 4) .nil))) .nil)))) (.var 5)) (.one (.and (.var 3) (.one (.var 5))))) (.cons (.ret (.lit (.bl false))) .nil) .nil) .nil))) (.cons (.set 6 (.bi .tuple (.comp (.nm 7) (.data (.var 1)) (.yes (.cmp .nin (.tup (.cons (.var 7) (.cons (.tup .nil) (.cons (.tup .nil) .nil)))) (.ix (.var 0) (.lit (.int 1))))) (.tup (.cons (.var 7) (.cons (.tup .nil) (.cons (.tup .nil) .nil)))) [7]))) (.cons (.ret (.cmp .eq (.call 1 (.val (.tup (.cons (.ix (.var 0) (.lit (.int 0))) (.cons (.bop .add (.ix (.var 0) (.lit (.int 1))) (.var 6)) .nil))) (.val (.var 1) .nil))) (.cmp .eq (.call 3 (.val (.var 0) (.val (.var 1) .nil))) (.tup .nil)))) .nil))))))
def f_law_is_right : Fn := run (fns [f_reason, f_is_settled, f_shows, f_violated, f_law_sets, f_law_within, f_fits]) 2 8 b_law_is_right
def b_selections : Ss := (.cons (.set 1 (.lst (.cons (.tup .nil) .nil))) (.cons (.for_ (.nm 2) (.data (.var 0)) (.cons (.set 1 (.bop .add (.var 1) (.comp (.nm 3) (.data (.var 1)) .no (.tup (.star (.var 3) (.cons (.var 2) .nil))) [3]))) .nil)) (.cons (.ret (.bi .sorted (.var 1))) .nil)))
def f_selections : Fn := run (fns []) 1 4 b_selections
def b_all_sets : Ss := (.cons (.ret (.call 0 (.val (.rng true (.var 0)) .nil))) .nil)
def f_all_sets : Fn := run (fns [f_selections]) 1 1 b_all_sets
def b_all_pairs : Ss := (.cons (.ret (.bi .sorted (.comp2 (.nm 1) (.data (.call 0 (.val (.var 0) .nil))) .no (.nm 2) (.data (.call 1 (.val (.var 1) .nil))) .no (.tup (.cons (.var 2) (.cons (.var 1) .nil))) [1, 2] [2]))) .nil)
def f_all_pairs : Fn := run (fns [f_all_sets, f_selections]) 1 3 b_all_pairs
def b_pairs : Ss := (.cons (.ex (.call 0 (.val (.var 0) .nil))) (.cons (.unp (.cons (.nm 1) (.cons (.nm 2) .nil)) (.var 0)) (.cons (.ret (.bi .tuple (.comp (.nm 3) (.data (.call 1 (.val (.var 1) .nil))) (.yes (.call 2 (.val (.var 3) (.val (.var 2) .nil)))) (.var 3) [3]))) .nil)))
def f_pairs : Fn := run (fns [f_check_book, f_all_pairs, f_fits_rules]) 1 4 b_pairs
def b_law_fits : Ss := (.cons (.for_ (.nm 2) (.data (.var 1)) (.cons (.ife (.and (.call 0 (.val (.var 2) (.val (.ix (.var 0) (.lit (.int 1))) .nil))) (.one (.not (.and (.call 1 (.val (.ix (.var 0) (.lit (.int 0))) (.val (.var 2) .nil))) (.one (.call 1 (.val (.ix (.var 0) (.lit (.int 1))) (.val (.var 2) .nil)))))))) (.cons (.ret (.lit (.bl false))) .nil) .nil) .nil)) (.cons (.ret (.lit (.bl true))) .nil))
def f_law_fits : Fn := run (fns [f_law_remains, f_law_obeys]) 2 3 b_law_fits
def b_law_all_pairs : Ss := (.cons (.par [1, 2] (.cons (.call 0 (.val (.var 0) .nil)) (.cons (.lst .nil) .nil))) (.cons (.for_ (.nm 3) (.data (.var 1)) (.cons (.set 2 (.bop .add (.var 2) (.comp (.nm 4) (.data (.var 1)) (.yes (.call 1 (.val (.var 3) (.val (.var 4) .nil)))) (.tup (.cons (.var 3) (.cons (.var 4) .nil))) [4]))) .nil)) (.cons (.ret (.var 2)) .nil)))
def f_law_all_pairs : Fn := run (fns [f_law_sets, f_law_within]) 1 5 b_law_all_pairs
def b_law_pairs : Ss := (.cons (.ret (.bi .tuple (.comp (.nm 2) (.data (.call 0 (.val (.var 0) .nil))) (.yes (.call 1 (.val (.var 2) (.val (.var 1) .nil)))) (.var 2) [2]))) .nil)
def f_law_pairs : Fn := run (fns [f_law_all_pairs, f_law_fits]) 2 3 b_law_pairs
def b_law_many : Ss := (.cons (.set 1 (.bop .add (.lit (.int 3)) (.call 0 (.mut 0 (.val (.lit (.int 2)) .nil))))) (.cons (.set 2 (.comp (.nm 3) (.rng (.bop .add (.lit (.int 10)) (.call 0 (.mut 0 (.val (.lit (.int 90)) .nil))))) .no (.call 1 (.mut 0 (.val (.var 1) .nil))) [3])) (.cons (.ret (.tup (.cons (.var 1) (.cons (.bi .tuple (.sortset (.comp (.nm 4) (.data (.var 2)) (.yes (.cmp .isn (.ix (.var 4) (.lit (.int 0))) (.lit .non))) (.var 4) [4]))) .nil)))) .nil)))
def f_law_many : Fn := run (fns [f_law_draw, f_law_rule]) 1 5 b_law_many
def b_check_atoms : Ss := (.cons (.ife (.not (.call 0 (.val (.var 0) .nil))) (.cons .never .nil) .nil) .nil)
def f_check_atoms : Fn := run (fns [f_is_atoms]) 1 1 b_check_atoms
def b_are_pairs : Ss := (.cons (.ret (.and (.isi .tuple (.var 1)) (.one (.bi .all (.comp (.nm 2) (.data (.var 1)) .no (.call 0 (.val (.var 0) (.val (.var 2) .nil))) [2]))))) .nil)
def f_are_pairs : Fn := run (fns [f_is_pair]) 2 3 b_are_pairs
def b_has_tops : Ss := (.cons (.ret (.bi .all (.comp (.tup (.cons (.nm 1) (.cons (.nm 2) .nil))) (.data (.var 0)) .no (.cmp .inn (.tup (.cons (.var 2) (.cons (.var 2) .nil))) (.var 0)) [1, 2]))) .nil)
def f_has_tops : Fn := run (fns []) 1 3 b_has_tops
def b_has_larger : Ss := (.cons (.set 1 (.comp (.tup (.cons (.nm 2) (.cons (.nm 3) .nil))) (.data (.var 0)) (.yes (.cmp .eq (.var 2) (.var 3))) (.var 3) [2, 3])) (.cons (.ret (.bi .all (.comp2 (.tup (.cons (.nm 2) (.cons (.nm 3) .nil))) (.data (.var 0)) .no (.nm 4) (.data (.var 1)) (.yes (.call 0 (.val (.var 3) (.val (.var 4) .nil)))) (.cmp .inn (.tup (.cons (.var 2) (.cons (.var 4) .nil))) (.var 0)) [2, 3, 4] [4]))) .nil))
def f_has_larger : Fn := run (fns [f_is_within]) 1 5 b_has_larger
def b_common_part : Ss := (.cons (.ret (.bi .tuple (.comp (.nm 2) (.data (.var 0)) (.yes (.cmp .inn (.var 2) (.var 1))) (.var 2) [2]))) .nil)
def f_common_part : Fn := run (fns []) 2 3 b_common_part
def b_has_common : Ss := (.cons (.ret (.bi .all (.comp2 (.tup (.cons (.nm 1) (.cons (.nm 2) .nil))) (.data (.var 0)) .no (.tup (.cons (.nm 3) (.cons (.nm 4) .nil))) (.data (.var 0)) (.yes (.cmp .eq (.var 4) (.var 2))) (.cmp .inn (.tup (.cons (.call 0 (.val (.var 1) (.val (.var 3) .nil))) (.cons (.var 2) .nil))) (.var 0)) [1, 2, 3, 4] [3, 4]))) .nil)
def f_has_common : Fn := run (fns [f_common_part]) 1 5 b_has_common
def b_is_closed : Ss := (.cons (.ret (.and (.call 0 (.val (.var 0) .nil)) (.and (.call 1 (.val (.var 0) .nil)) (.one (.call 2 (.val (.var 0) .nil)))))) .nil)
def f_is_closed : Fn := run (fns [f_has_tops, f_has_larger, f_has_common]) 1 1 b_is_closed
def b_is_table : Ss := (.cons (.ex (.call 0 (.val (.var 0) .nil))) (.cons (.ret (.and (.call 1 (.val (.var 0) (.val (.var 1) .nil))) (.and (.call 2 (.val (.var 1) .nil)) (.one (.call 3 (.val (.var 1) .nil)))))) .nil))
def f_is_table : Fn := run (fns [f_check_atoms, f_are_pairs, f_is_ascending, f_is_closed]) 2 2 b_is_table
def b_forced_atom : Ss := (.cons (.set 3 (.comp (.tup (.cons (.nm 4) (.cons (.nm 5) .nil))) (.data (.var 0)) (.yes (.and (.cmp .eq (.var 5) (.var 2)) (.one (.call 0 (.val (.var 1) (.val (.var 4) .nil)))))) (.var 4) [4, 5])) (.cons (.ret (.bi .min (.comp (.nm 6) (.data (.var 2)) (.yes (.and (.cmp .nin (.var 6) (.var 1)) (.one (.bi .all (.comp (.nm 7) (.data (.var 3)) .no (.cmp .inn (.var 6) (.var 7)) [7]))))) (.var 6) [6]))) .nil))
def f_forced_atom : Fn := run (fns [f_is_within]) 3 8 b_forced_atom
def b_rules_at : Ss := (.cons (.set 3 (.bi .tuple (.comp (.nm 4) (.rng (.var 0)) (.yes (.cmp .nin (.var 4) (.var 2))) (.var 4) [4]))) (.cons (.ife (.cmp .nin (.tup (.cons (.var 2) (.cons (.var 2) .nil))) (.var 1)) (.cons (.reto (.cons (.tup (.cons (.lit .non) (.cons (.var 2) (.cons (.var 3) .nil)))) .nil)) .nil) .nil) (.cons (.ret (.comp (.nm 5) (.data (.call 0 (.val (.var 2) .nil))) (.yes (.cmp .nin (.tup (.cons (.var 5) (.cons (.var 2) .nil))) (.var 1))) (.tup (.cons (.call 1 (.val (.var 1) (.val (.var 5) (.val (.var 2) .nil)))) (.cons (.var 5) (.cons (.var 3) .nil)))) [5])) .nil)))
def f_rules_at : Fn := run (fns [f_selections, f_forced_atom]) 3 6 b_rules_at
def b_rules_of : Ss := (.cons (.ife (.not (.call 0 (.val (.var 0) (.val (.var 1) .nil)))) (.cons .never .nil) .nil) (.cons (.set 2 (.lst .nil)) (.cons (.for_ (.nm 3) (.data (.call 1 (.val (.var 0) .nil))) (.cons (.set 2 (.bop .add (.var 2) (.call 2 (.val (.var 0) (.val (.var 1) (.val (.var 3) .nil)))))) .nil)) (.cons (.ret (.tup (.cons (.var 0) (.cons (.bi .tuple (.var 2)) .nil)))) .nil))))
def f_rules_of : Fn := run (fns [f_is_table, f_all_sets, f_rules_at]) 2 4 b_rules_of
def b_law_pick : Ss := (.cons (.ret (.ix (.var 1) (.call 0 (.mut 0 (.val (.bi .len (.var 1)) .nil))))) .nil)
def f_law_pick : Fn := run (fns [f_law_draw]) 2 2 b_law_pick
def b_law_more : Ss := (.cons (.seto 1 .nil) (.cons (.for_ (.tup (.cons (.nm 2) (.cons (.nm 3) .nil))) (.data (.var 0)) (.cons (.app 1 (.tup (.cons (.var 3) (.cons (.var 3) .nil)))) (.cons (.for_ (.tup (.cons (.nm 4) (.cons (.nm 5) .nil))) (.data (.var 0)) (.cons (.ife (.and (.cmp .eq (.var 4) (.var 5)) (.one (.call 0 (.val (.var 3) (.val (.var 5) .nil))))) (.cons (.app 1 (.tup (.cons (.var 2) (.cons (.var 5) .nil)))) .nil) .nil) (.cons (.ife (.cmp .eq (.var 5) (.var 3)) (.cons (.app 1 (.tup (.cons (.bi .tuple (.comp (.nm 6) (.data (.var 2)) (.yes (.cmp .inn (.var 6) (.var 4))) (.var 6) [6])) (.cons (.var 3) .nil)))) .nil) .nil) .nil))) .nil))) (.cons (.retv 1) .nil)))
def f_law_more : Fn := run (fns [f_law_within]) 1 7 b_law_more
def b_law_closed : Ss := (.cons (.par [1, 2] (.cons (.sortset (.var 0)) (.cons (.neg (.lit (.int 1))) .nil))) (.cons (.wh 90 (.cmp .lt (.var 2) (.bi .len (.var 1))) (.cons (.set 2 (.bi .len (.var 1))) (.cons (.set 1 (.sortset (.bop .add (.var 1) (.call 0 (.val (.var 1) .nil))))) .nil))) (.cons (.ret (.bi .tuple (.var 1))) .nil)))
def f_law_closed : Fn := run (fns [f_law_more]) 1 3 b_law_closed
def b_law_table : Ss := (.cons (.set 2 (.call 0 (.val (.var 1) .nil))) (.cons (.ife (.cmp .eq (.call 1 (.mut 0 (.val (.lit (.int 3)) .nil))) (.lit (.int 0))) (.cons (.ret (.call 2 (.val (.var 1) (.val (.comp (.nm 3) (.rng (.call 1 (.mut 0 (.val (.lit (.int 5)) .nil)))) .no (.call 3 (.mut 0 (.val (.var 1) .nil))) [3]) .nil)))) .nil) .nil) (.cons (.ret (.call 4 (.val (.comp (.nm 3) (.rng (.call 1 (.mut 0 (.val (.lit (.int 7)) .nil)))) .no (.call 5 (.mut 0 (.val (.var 2) .nil))) [3]) .nil))) .nil)))
def f_law_table : Fn := run (fns [f_law_all_pairs, f_law_draw, f_law_pairs, f_law_rule, f_law_closed, f_law_pick]) 2 4 b_law_table
def b_law_written : Ss := (.cons (.seto 2 .nil) (.cons (.for_ (.nm 3) (.data (.call 0 (.val (.var 0) .nil))) (.cons (.set 4 (.bi .tuple (.comp (.nm 5) (.rng (.var 0)) (.yes (.cmp .nin (.var 5) (.var 3))) (.var 5) [5]))) (.cons (.ife (.cmp .nin (.tup (.cons (.var 3) (.cons (.var 3) .nil))) (.var 1)) (.cons (.app 2 (.tup (.cons (.lit .non) (.cons (.var 3) (.cons (.var 4) .nil))))) (.cons .cont .nil)) .nil) (.cons (.for_ (.nm 6) (.data (.call 0 (.val (.var 0) .nil))) (.cons (.ife (.and (.call 1 (.val (.var 6) (.val (.var 3) .nil))) (.one (.cmp .nin (.tup (.cons (.var 6) (.cons (.var 3) .nil))) (.var 1)))) (.cons (.set 7 (.comp (.tup (.cons (.nm 8) (.cons (.nm 9) .nil))) (.data (.var 1)) (.yes (.and (.cmp .eq (.var 9) (.var 3)) (.one (.call 1 (.val (.var 6) (.val (.var 8) .nil)))))) (.var 8) [8, 9])) (.cons (.set 10 (.comp (.nm 5) (.data (.var 3)) (.yes (.cmp .nin (.var 5) (.var 6))) (.var 5) [5])) (.cons (.set 10 (.comp (.nm 5) (.data (.var 10)) (.yes (.cmp .eq (.comp (.nm 8) (.data (.var 7)) (.yes (.cmp .nin (.var 5) (.var 8))) (.lit (.int 1)) [8]) (.lst .nil))) (.var 5) [5])) (.cons (.app 2 (.tup (.cons (.ix (.var 10) (.lit (.int 0))) (.cons (.var 6) (.cons (.var 4) .nil))))) .nil)))) .nil) .nil)) .nil)))) (.cons (.ret (.tup (.cons (.var 0) (.cons (.bi .tuple (.var 2)) .nil)))) .nil)))
def f_law_written : Fn := run (fns [f_law_sets, f_law_within]) 2 11 b_law_written
def b_facts_of : Ss := (.cons (.ret (.bi .tuple (.comp (.nm 1) (.data (.var 0)) .no (.tup (.cons (.var 1) (.cons (.tup .nil) (.cons (.tup .nil) .nil)))) [1]))) .nil)
def f_facts_of : Fn := run (fns []) 1 2 b_facts_of
def b_round_of : Ss := (.cons (.ret (.bi .tuple (.comp2 (.nm 1) (.data (.var 0)) .no (.nm 2) (.data (.var 0)) (.yes (.cmp .ne (.var 1) (.var 2))) (.tup (.cons (.var 1) (.cons (.tup (.cons (.var 2) .nil)) (.cons (.tup .nil) .nil)))) [1, 2] [2]))) .nil)
def f_round_of : Fn := run (fns []) 1 3 b_round_of
def b_check_match : Ss := (.cons (.for_ (.nm 1) (.data (.var 0)) (.cons (.ex (.call 0 (.val (.var 1) .nil))) .nil)) (.cons (.ife (.bi .any (.comp (.nm 1) (.data (.var 0)) .no (.cmp .ne (.ix (.var 1) (.lit (.int 0))) (.ix (.ix (.var 0) (.lit (.int 0))) (.lit (.int 0)))) [1])) (.cons .never .nil) .nil) .nil))
def f_check_match : Fn := run (fns [f_check_book]) 1 2 b_check_match
def b_compare : Ss := (.cons (.ex (.call 0 (.val (.lst (.cons (.var 0) (.cons (.var 1) .nil))) .nil))) (.cons (.unp (.cons (.nm 2) (.cons (.nm 3) .nil)) (.tup (.cons (.call 1 (.val (.var 0) .nil)) (.cons (.call 1 (.val (.var 1) .nil)) .nil)))) (.cons (.ife (.cmp .eq (.var 2) (.var 3)) (.cons (.ret (.tup (.cons (.lit (.str "same")) (.cons (.var 2) .nil)))) .nil) .nil) (.cons (.set 4 (.ix (.var 0) (.lit (.int 0)))) (.cons (.set 5 (.comp (.nm 6) (.data (.call 2 (.val (.var 4) .nil))) (.yes (.cmp .ne (.cmp .inn (.var 6) (.var 2)) (.cmp .inn (.var 6) (.var 3)))) (.var 6) [6])) (.cons (.unp (.cons (.nm 7) (.cons (.nm 8) .nil)) (.ix (.var 5) (.lit (.int 0)))) (.cons (.ife (.cmp .inn (.tup (.cons (.var 8) (.cons (.var 8) .nil))) (.var 5)) (.cons (.ret (.tup (.cons (.lit (.str "differ")) (.cons (.tup (.cons (.var 4) (.cons (.call 3 (.val (.var 8) .nil)) .nil))) (.cons (.var 8) .nil))))) .nil) .nil) (.cons (.set 9 (.comp (.nm 10) (.data (.var 8)) (.yes (.cmp .nin (.var 10) (.var 7))) (.var 10) [10])) (.cons (.ret (.tup (.cons (.lit (.str "differ")) (.cons (.tup (.cons (.var 4) (.cons (.bop .add (.call 3 (.val (.var 7) .nil)) (.call 4 (.val (.var 9) .nil))) .nil))) (.cons (.var 8) .nil))))) .nil)))))))))
def f_compare : Fn := run (fns [f_check_match, f_pairs, f_all_pairs, f_facts_of, f_round_of]) 2 11 b_compare
def b_law_cell : Ss := (.cons (.ife (.cmp .lt (.var 1) (.lens 0)) (.cons (.ret (.ixs 0 (.var 1))) .nil) .nil) (.cons (.ret (.lit (.int 0))) .nil))
def f_law_cell : Fn := run (fns []) 2 2 b_law_cell
def b_law_source : Ss := (.cons (.reto (.cons (.mm true (.lit (.int 0)) (.bop .sub (.var 0) (.bop .pow (.lit (.int 10)) (.lit (.int 18))))) (.cons (.bop .add (.bop .mod (.var 0) (.lit (.int 2147483629))) (.lit (.int 1))) (.cons (.lit (.int 0)) .nil)))) .nil)
def f_law_source : Fn := run (fns []) 1 1 b_law_source
def b_law_choose : Ss := (.cons (.ret (.ix (.var 1) (.call 0 (.mut 0 (.val (.bi .len (.var 1)) .nil))))) .nil)
def f_law_choose : Fn := run (fns [f_law_draw]) 2 2 b_law_choose
def b_law_is_equal : Ss := (.cons (.ret (.cmp .eq (.bi .repr (.var 0)) (.bi .repr (.var 1)))) .nil)
def f_law_is_equal : Fn := run (fns []) 2 2 b_law_is_equal
def b_law_stays : Ss := (.cons (.ret (.cmp .eq (.comp (.nm 2) (.data (.ix (.var 0) (.lit (.int 2)))) (.yes (.cmp .inn (.var 2) (.var 1))) (.var 2) [2]) (.lst .nil))) .nil)
def f_law_stays : Fn := run (fns []) 2 3 b_law_stays
def b_law_keeps : Ss := (.cons (.ret (.or (.cmp .inn (.ix (.var 1) (.lit (.int 0))) (.var 0)) (.one (.not (.call 0 (.val (.ix (.var 1) (.lit (.int 1))) (.val (.var 0) .nil))))))) .nil)
def f_law_keeps : Fn := run (fns [f_law_within]) 2 2 b_law_keeps
def b_law_fits_2 : Ss := (.cons (.unp (.cons (.nm 2) (.cons (.nm 3) .nil)) (.var 0)) (.cons (.ret (.or (.not (.call 0 (.val (.var 1) (.val (.var 3) .nil)))) (.one (.and (.call 1 (.val (.var 3) (.val (.var 1) .nil))) (.one (.call 1 (.val (.var 2) (.val (.var 1) .nil)))))))) .nil))
def f_law_fits_2 : Fn := run (fns [f_law_stays, f_law_keeps]) 2 4 b_law_fits_2
def b_law_all_pairs_2 : Ss := (.cons (.paro 1 2 (.call 0 (.val (.var 0) .nil))) (.cons (.for_ (.nm 3) (.data (.var 2)) (.cons (.ext 1 (.comp (.nm 4) (.data (.var 2)) (.yes (.call 1 (.val (.var 3) (.val (.var 4) .nil)))) (.tup (.cons (.var 3) (.cons (.var 4) .nil))) [4])) .nil)) (.cons (.retv 1) .nil)))
def f_law_all_pairs_2 : Fn := run (fns [f_law_sets, f_law_within]) 1 5 b_law_all_pairs_2
def b_law_pairs_2 : Ss := (.cons (.set 2 (.call 0 (.val (.var 0) .nil))) (.cons (.for_ (.nm 3) (.data (.var 1)) (.cons (.set 2 (.comp (.nm 4) (.data (.var 2)) (.yes (.call 1 (.val (.var 4) (.val (.var 3) .nil)))) (.var 4) [4])) .nil)) (.cons (.ret (.bi .tuple (.var 2))) .nil)))
def f_law_pairs_2 : Fn := run (fns [f_law_all_pairs_2, f_law_fits_2]) 2 5 b_law_pairs_2
def b_law_joined : Ss := (.cons (.ret (.bop .add (.var 0) (.bi .tuple (.comp (.nm 2) (.data (.var 1)) (.yes (.cmp .nin (.var 2) (.var 0))) (.var 2) [2])))) .nil)
def f_law_joined : Fn := run (fns []) 2 3 b_law_joined
def b_law_facts : Ss := (.cons (.ret (.bi .tuple (.comp (.nm 1) (.data (.var 0)) .no (.tup (.cons (.var 1) (.cons (.tup .nil) (.cons (.tup .nil) .nil)))) [1]))) .nil)
def f_law_facts : Fn := run (fns []) 1 2 b_law_facts
def b_law_part : Ss := (.cons (.ret (.bi .tuple (.comp (.nm 3) (.rng (.var 1)) (.yes (.cmp .eq (.call 0 (.mut 0 (.val (.var 2) .nil))) (.lit (.int 0)))) (.var 3) [3]))) .nil)
def f_law_part : Fn := run (fns [f_law_draw]) 3 4 b_law_part
def b_law_rule_2 : Ss := (.cons (.set 2 (.ite (.cmp .gt (.call 0 (.mut 0 (.val (.lit (.int 6)) .nil))) (.lit (.int 0))) (.call 0 (.mut 0 (.val (.var 1) .nil))) (.lit .non))) (.cons (.ret (.tup (.cons (.var 2) (.cons (.call 1 (.mut 0 (.val (.var 1) (.val (.lit (.int 3)) .nil)))) (.cons (.call 1 (.mut 0 (.val (.var 1) (.val (.lit (.int 3)) .nil)))) .nil))))) .nil))
def f_law_rule_2 : Fn := run (fns [f_law_draw, f_law_part]) 2 3 b_law_rule_2
def b_law_rules : Ss := (.cons (.seto 3 .nil) (.cons (.for_ (.nm 4) (.rng (.call 0 (.mut 0 (.val (.bop .add (.var 2) (.lit (.int 1))) .nil)))) (.cons (.set 5 (.call 1 (.mut 0 (.val (.var 1) .nil)))) (.cons (.ife (.ino true (.var 5) 3) (.cons (.app 3 (.var 5)) .nil) .nil) .nil))) (.cons (.ret (.bi .tuple (.var 3))) .nil)))
def f_law_rules : Fn := run (fns [f_law_draw, f_law_rule_2]) 3 6 b_law_rules
def b_law_atoms : Ss := (.cons (.ret (.call 0 (.mut 0 (.val (.lst (.cons (.lit (.int 1)) (.cons (.lit (.int 2)) (.cons (.lit (.int 2)) (.cons (.lit (.int 3)) (.cons (.lit (.int 3)) (.cons (.lit (.int 3)) (.cons (.lit (.int 4)) .nil)))))))) .nil)))) .nil)
def f_law_atoms : Fn := run (fns [f_law_choose]) 1 1 b_law_atoms
def b_law_twin : Ss := (.cons (.set 3 (.call 0 (.mut 0 (.val (.lit (.int 7)) .nil)))) (.cons (.ife (.or (.cmp .eq (.var 2) (.tup .nil)) (.one (.cmp .eq (.var 3) (.lit (.int 0))))) (.cons (.ret (.call 1 (.val (.rev (.var 2)) (.val (.call 2 (.mut 0 (.val (.var 1) (.val (.lit (.int 1)) .nil)))) .nil)))) .nil) .nil) (.cons (.set 4 (.call 0 (.mut 0 (.val (.bi .len (.var 2)) .nil)))) (.cons (.unp (.cons (.nm 5) (.cons (.nm 6) (.cons (.nm 7) .nil))) (.ix (.var 2) (.var 4))) (.cons (.ife (.cmp .eq (.var 3) (.lit (.int 1))) (.cons (.ret (.call 1 (.val (.rev (.var 2)) (.val (.tup (.cons (.tup (.cons (.var 5) (.cons (.bi .tuple (.sortset (.bop .add (.var 6) (.call 3 (.mut 0 (.val (.var 1) (.val (.lit (.int 2)) .nil))))))) (.cons (.var 7) .nil)))) .nil)) .nil)))) .nil) .nil) (.cons (.ife (.cmp .eq (.var 3) (.lit (.int 2))) (.cons (.ret (.call 1 (.val (.var 2) (.val (.tup (.cons (.tup (.cons (.var 5) (.cons (.var 6) (.cons (.bi .tuple (.sortset (.bop .add (.var 7) (.call 3 (.mut 0 (.val (.var 1) (.val (.lit (.int 2)) .nil))))))) .nil)))) .nil)) .nil)))) .nil) .nil) (.cons (.ife (.cmp .eq (.var 3) (.lit (.int 3))) (.cons (.ret (.bop .add (.sl (.var 2) .no (.yes (.var 4))) (.sl (.var 2) (.yes (.bop .add (.var 4) (.lit (.int 1)))) .no))) .nil) .nil) (.cons (.ife (.cmp .eq (.var 3) (.lit (.int 4))) (.cons (.set 8 (.ite (.cmp .ne (.var 6) (.tup .nil)) (.tup (.cons (.var 5) (.cons (.sl (.var 6) (.yes (.lit (.int 1))) .no) (.cons (.var 7) .nil)))) (.tup (.cons (.var 5) (.cons (.var 6) (.cons (.sl (.var 7) (.yes (.lit (.int 1))) .no) .nil)))))) (.cons (.ret (.call 1 (.val (.bop .add (.sl (.var 2) .no (.yes (.var 4))) (.sl (.var 2) (.yes (.bop .add (.var 4) (.lit (.int 1)))) .no)) (.val (.tup (.cons (.var 8) .nil)) .nil)))) .nil)) .nil) (.cons (.ife (.cmp .eq (.var 3) (.lit (.int 5))) (.cons (.set 9 (.call 0 (.mut 0 (.val (.var 1) .nil)))) (.cons (.ret (.call 1 (.val (.var 2) (.val (.tup (.cons (.tup (.cons (.var 9) (.cons (.tup (.cons (.var 9) .nil)) (.cons (.tup .nil) .nil)))) (.cons (.tup (.cons (.lit .non) (.cons (.tup (.cons (.var 9) .nil)) (.cons (.tup (.cons (.var 9) .nil)) .nil)))) .nil))) .nil)))) .nil)) .nil) (.cons (.ret (.call 2 (.mut 0 (.val (.var 1) (.val (.lit (.int 5)) .nil))))) .nil))))))))))
def f_law_twin : Fn := run (fns [f_law_draw, f_law_joined, f_law_rules, f_law_part]) 3 10 b_law_twin
def b_law_two : Ss := (.cons (.set 1 (.call 0 (.mut 0 .nil))) (.cons (.set 2 (.call 1 (.mut 0 (.val (.var 1) (.val (.lit (.int 5)) .nil))))) (.cons (.ret (.tup (.cons (.var 1) (.cons (.var 2) (.cons (.call 2 (.mut 0 (.val (.var 1) (.val (.var 2) .nil)))) .nil))))) .nil)))
def f_law_two : Fn := run (fns [f_law_atoms, f_law_rules, f_law_twin]) 1 3 b_law_two
def b_law_round : Ss := (.cons (.seto 1 .nil) (.cons (.for_ (.nm 2) (.data (.var 0)) (.cons (.ext 1 (.comp (.nm 3) (.data (.var 0)) (.yes (.cmp .ne (.var 3) (.var 2))) (.tup (.cons (.var 2) (.cons (.tup (.cons (.var 3) .nil)) (.cons (.tup .nil) .nil)))) [3])) .nil)) (.cons (.ret (.bi .tuple (.var 1))) .nil)))
def f_law_round : Fn := run (fns []) 1 4 b_law_round
def b_law_due : Ss := (.cons (.unp (.cons (.nm 3) (.cons (.nm 4) .nil)) (.tup (.cons (.call 0 (.val (.var 0) (.val (.var 1) .nil))) (.cons (.call 0 (.val (.var 0) (.val (.var 2) .nil))) .nil)))) (.cons (.ife (.cmp .eq (.var 3) (.var 4)) (.cons (.ret (.tup (.cons (.lit (.str "same")) (.cons (.var 3) .nil)))) .nil) .nil) (.cons (.set 5 (.comp (.nm 6) (.data (.call 1 (.val (.var 0) .nil))) (.yes (.cmp .ne (.cmp .inn (.var 6) (.var 3)) (.cmp .inn (.var 6) (.var 4)))) (.var 6) [6])) (.cons (.unp (.cons (.nm 7) (.cons (.nm 8) .nil)) (.ix (.var 5) (.lit (.int 0)))) (.cons (.set 9 (.comp (.nm 10) (.data (.var 8)) (.yes (.cmp .nin (.var 10) (.var 7))) (.var 10) [10])) (.cons (.set 11 (.bop .add (.call 2 (.val (.var 7) .nil)) (.call 3 (.val (.var 9) .nil)))) (.cons (.ife (.cmp .inn (.tup (.cons (.var 8) (.cons (.var 8) .nil))) (.var 5)) (.cons (.set 11 (.call 2 (.val (.var 8) .nil))) .nil) .nil) (.cons (.ret (.tup (.cons (.lit (.str "differ")) (.cons (.tup (.cons (.var 0) (.cons (.var 11) .nil))) (.cons (.var 8) .nil))))) .nil))))))))
def f_law_due : Fn := run (fns [f_law_pairs_2, f_law_all_pairs_2, f_law_facts, f_law_round]) 3 12 b_law_due
def b_settled_sets : Ss := (.cons (.ret (.bi .tuple (.comp (.nm 2) (.data (.call 0 (.val (.var 0) .nil))) (.yes (.call 1 (.val (.var 1) (.val (.var 2) .nil)))) (.var 2) [2]))) .nil)
def f_settled_sets : Fn := run (fns [f_all_sets, f_settles]) 2 3 b_settled_sets
def b_union : Ss := (.cons (.set 2 (.var 0)) (.cons (.for_ (.nm 3) (.data (.var 1)) (.cons (.ife (.cmp .nin (.var 3) (.var 2)) (.cons (.set 2 (.tup (.star (.var 2) (.cons (.var 3) .nil)))) .nil) .nil) .nil)) (.cons (.ret (.var 2)) .nil)))
def f_union : Fn := run (fns []) 2 4 b_union
def b_settled_beside : Ss := (.cons (.ret (.call 0 (.val (.ix (.var 0) (.lit (.int 0))) (.val (.call 1 (.val (.ix (.var 0) (.lit (.int 1))) (.val (.var 1) .nil))) .nil)))) .nil)
def f_settled_beside : Fn := run (fns [f_settled_sets, f_union]) 2 2 b_settled_beside
def b_left_over : Ss := (.cons (.ret (.bi .tuple (.comp (.nm 2) (.data (.var 0)) (.yes (.cmp .nin (.var 2) (.var 1))) (.var 2) [2]))) .nil)
def f_left_over : Fn := run (fns []) 2 3 b_left_over
def b_apart : Ss := (.cons (.ex (.call 0 (.val (.lst (.cons (.var 0) (.cons (.var 1) (.cons (.var 2) .nil)))) .nil))) (.cons (.set 3 (.call 1 (.val (.var 0) (.val (.ix (.var 2) (.lit (.int 1))) .nil)))) (.cons (.set 4 (.call 1 (.val (.var 1) (.val (.ix (.var 2) (.lit (.int 1))) .nil)))) (.cons (.ret (.tup (.cons (.call 2 (.val (.var 3) (.val (.var 4) .nil))) (.cons (.call 2 (.val (.var 4) (.val (.var 3) .nil))) .nil)))) .nil))))
def f_apart : Fn := run (fns [f_check_match, f_settled_beside, f_left_over]) 3 5 b_apart
def b_law_grown : Ss := (.cons (.paro 2 3 (.comp (.nm 4) (.data (.var 0)) (.yes (.and (.cmp .isn (.ix (.var 4) (.lit (.int 0))) (.lit .non)) (.one (.call 0 (.val (.var 4) (.val (.var 1) .nil)))))) (.var 4) [4])) (.cons (.for_ (.nm 5) (.rng (.lit (.int 4))) (.cons (.for_ (.nm 4) (.data (.var 3)) (.cons (.ife (.and (.ino true (.ix (.var 4) (.lit (.int 0))) 2) (.one (.call 1 (.val (.ix (.var 4) (.lit (.int 1))) (.lend 2 .nil))))) (.cons (.app 2 (.ix (.var 4) (.lit (.int 0)))) .nil) .nil) .nil)) .nil)) (.cons (.ret (.bi .tuple (.bi .sorted (.var 2)))) .nil)))
def f_law_grown : Fn := run (fns [f_law_stays, f_law_within]) 2 6 b_law_grown
def b_law_is_settled : Ss := (.cons (.set 2 (.comp (.nm 3) (.data (.var 0)) (.yes (.and (.call 0 (.val (.var 3) (.val (.var 1) .nil))) (.one (.not (.call 1 (.val (.var 1) (.val (.var 3) .nil))))))) (.var 3) [3])) (.cons (.ret (.and (.cmp .eq (.var 2) (.lst .nil)) (.one (.cmp .eq (.call 2 (.val (.var 0) (.val (.var 1) .nil))) (.var 1))))) .nil))
def f_law_is_settled : Fn := run (fns [f_law_stays, f_law_keeps, f_law_grown]) 2 4 b_law_is_settled
def b_law_settled : Ss := (.cons (.ret (.comp (.nm 2) (.data (.call 0 (.val (.var 0) .nil))) (.yes (.call 1 (.val (.var 1) (.val (.var 2) .nil)))) (.var 2) [2])) .nil)
def f_law_settled : Fn := run (fns [f_law_sets, f_law_is_settled]) 2 3 b_law_settled
def b_law_due_2 : Ss := (.cons (.unp (.cons (.nm 4) (.cons (.nm 5) .nil)) (.tup (.cons (.call 0 (.val (.var 0) (.val (.call 1 (.val (.var 1) (.val (.var 3) .nil))) .nil))) (.cons (.call 0 (.val (.var 0) (.val (.call 1 (.val (.var 2) (.val (.var 3) .nil))) .nil))) .nil)))) (.cons (.set 6 (.bi .tuple (.comp (.nm 7) (.data (.var 4)) (.yes (.cmp .nin (.var 7) (.var 5))) (.var 7) [7]))) (.cons (.ret (.tup (.cons (.var 6) (.cons (.bi .tuple (.comp (.nm 7) (.data (.var 5)) (.yes (.cmp .nin (.var 7) (.var 4))) (.var 7) [7])) .nil)))) .nil)))
def f_law_due_2 : Fn := run (fns [f_law_settled, f_law_joined]) 4 8 b_law_due_2
def b_tells_apart : Ss := (.cons (.ret (.cmp .ne (.call 0 (.val (.call 1 (.val (.ix (.var 0) (.lit (.int 1))) (.val (.var 2) .nil))) (.val (.var 3) .nil))) (.call 0 (.val (.call 1 (.val (.ix (.var 1) (.lit (.int 1))) (.val (.var 2) .nil))) (.val (.var 3) .nil))))) .nil)
def f_tells_apart : Fn := run (fns [f_settles, f_union]) 4 4 b_tells_apart
def b_shows_difference : Ss := (.cons (.set 4 (.ix (.var 0) (.lit (.int 0)))) (.cons (.ife (.or (.not (.call 0 (.val (.var 2) .nil))) (.or (.cmp .ne (.ix (.var 2) (.lit (.int 0))) (.var 4)) (.one (.not (.call 1 (.val (.var 4) (.val (.var 3) .nil))))))) (.cons (.ret (.lit (.bl false))) .nil) .nil) (.cons (.ret (.call 2 (.val (.var 0) (.val (.var 1) (.val (.ix (.var 2) (.lit (.int 1))) (.val (.var 3) .nil)))))) .nil)))
def f_shows_difference : Fn := run (fns [f_is_rulebook, f_is_set, f_tells_apart]) 4 5 b_shows_difference
def b_shows_compare : Ss := (.cons (.ex (.call 0 (.val (.lst (.cons (.var 0) (.cons (.var 1) .nil))) .nil))) (.cons (.ife (.call 1 (.val (.lit (.int 2)) (.val (.var 2) .nil))) (.cons (.unp (.cons (.nm 3) (.cons (.nm 4) .nil)) (.var 2)) (.cons (.ret (.and (.cmp .eq (.var 3) (.lit (.str "same"))) (.and (.call 2 (.val (.ix (.var 0) (.lit (.int 0))) (.val (.var 4) .nil))) (.one (.chain .eq .eq (.call 3 (.val (.var 0) .nil)) (.var 4) (.call 3 (.val (.var 1) .nil))))))) .nil)) .nil) (.cons (.ife (.call 1 (.val (.lit (.int 3)) (.val (.var 2) .nil))) (.cons (.unp (.cons (.nm 3) (.cons (.nm 5) (.cons (.nm 6) .nil))) (.var 2)) (.cons (.ret (.and (.cmp .eq (.var 3) (.lit (.str "differ"))) (.one (.call 4 (.val (.var 0) (.val (.var 1) (.val (.var 5) (.val (.var 6) .nil)))))))) .nil)) .nil) (.cons (.ret (.lit (.bl false))) .nil))))
def f_shows_compare : Fn := run (fns [f_check_match, f_is_tuple_of, f_are_pairs, f_pairs, f_shows_difference]) 3 7 b_shows_compare
def b_law_contexts : Ss := (.cons (.seto 1 .nil) (.cons (.for_ (.tup (.cons (.nm 2) (.cons (.nm 3) .nil))) (.data (.call 0 (.val (.var 0) .nil))) (.cons (.set 4 (.comp (.nm 5) (.data (.var 3)) (.yes (.cmp .nin (.var 5) (.var 2))) (.var 5) [5])) (.cons (.app 1 (.bop .add (.call 1 (.val (.var 2) .nil)) (.call 2 (.val (.var 4) .nil)))) .nil))) (.cons (.retv 1) .nil)))
def f_law_contexts : Fn := run (fns [f_law_all_pairs_2, f_law_facts, f_law_round]) 1 6 b_law_contexts
def b_law_right : Ss := (.cons (.unp (.cons (.nm 3) (.cons (.nm 4) .nil)) (.tup (.cons (.call 0 (.val (.var 1) (.val (.var 2) .nil))) (.cons (.ix (.var 1) (.lit (.int 0))) .nil)))) (.cons (.set 5 (.comp (.nm 6) (.data (.call 1 (.val (.var 4) .nil))) .no (.call 2 (.val (.var 1) (.val (.var 2) (.val (.tup (.cons (.var 4) (.cons (.var 6) .nil))) .nil)))) [6])) (.cons (.ife (.cmp .ne (.cmp .eq (.ix (.var 3) (.lit (.int 0))) (.lit (.str "same"))) (.cmp .eq (.comp (.nm 7) (.data (.var 5)) (.yes (.cmp .ne (.var 7) (.tup (.cons (.tup .nil) (.cons (.tup .nil) .nil))))) (.var 7) [7]) (.lst .nil))) (.cons (.ret (.lit (.bl false))) .nil) .nil) (.cons (.for_ (.nm 8) (.rng (.lit (.int 4))) (.cons (.set 6 (.tup (.cons (.var 4) (.cons (.call 3 (.mut 0 (.val (.var 4) (.val (.lit (.int 4)) .nil)))) .nil)))) (.cons (.unp (.cons (.nm 9) (.cons (.nm 10) .nil)) (.call 2 (.val (.var 1) (.val (.var 2) (.val (.var 6) .nil))))) (.cons (.ife (.or (.and (.cmp .eq (.ix (.var 3) (.lit (.int 0))) (.lit (.str "same"))) (.one (.cmp .ne (.tup (.cons (.var 9) (.cons (.var 10) .nil))) (.tup (.cons (.tup .nil) (.cons (.tup .nil) .nil)))))) (.one (.cmp .ne (.call 2 (.val (.var 2) (.val (.var 1) (.val (.var 6) .nil)))) (.tup (.cons (.var 10) (.cons (.var 9) .nil)))))) (.cons (.ret (.lit (.bl false))) .nil) .nil) .nil)))) (.cons (.ife (.cmp .eq (.ix (.var 3) (.lit (.int 0))) (.lit (.str "differ"))) (.cons (.unp (.cons (.nm 9) (.cons (.nm 10) .nil)) (.call 2 (.val (.var 1) (.val (.var 2) (.val (.ix (.var 3) (.lit (.int 1))) .nil))))) (.cons (.ife (.cmp .eq (.cmp .inn (.ix (.var 3) (.lit (.int 2))) (.var 9)) (.cmp .inn (.ix (.var 3) (.lit (.int 2))) (.var 10))) (.cons (.ret (.lit (.bl false))) .nil) .nil) .nil)) .nil) (.cons (.ret (.and (.cmp .is (.call 4 (.val (.var 1) (.val (.var 2) (.val (.var 3) .nil)))) (.lit (.bl true))) (.one (.cmp .is (.call 4 (.val (.var 2) (.val (.var 1) (.val (.var 3) .nil)))) (.lit (.bl true)))))) .nil))))))
def f_law_right : Fn := run (fns [f_compare, f_law_contexts, f_apart, f_law_rules, f_shows_compare]) 3 11 b_law_right
def b_law_either_right : Ss := (.cons (.set 0 (.tup (.cons (.lit (.int 2)) (.cons (.tup (.cons (.tup (.cons (.lit (.int 0)) (.cons (.tup .nil) (.cons (.tup (.cons (.lit (.int 1)) .nil)) .nil)))) (.cons (.tup (.cons (.lit (.int 1)) (.cons (.tup .nil) (.cons (.tup (.cons (.lit (.int 0)) .nil)) .nil)))) .nil))) .nil)))) (.cons (.set 1 (.tup (.cons (.lit (.int 2)) (.cons (.bop .add (.ix (.var 0) (.lit (.int 1))) (.tup (.cons (.tup (.cons (.lit .non) (.cons (.tup (.cons (.lit (.int 0)) (.cons (.lit (.int 1)) .nil))) (.cons (.tup .nil) .nil)))) .nil))) .nil)))) (.cons (.set 2 (.tup (.cons (.lit (.int 2)) (.cons (.tup (.cons (.tup (.cons (.lit (.int 0)) (.cons (.tup .nil) (.cons (.tup .nil) .nil)))) (.cons (.tup (.cons (.lit (.int 1)) (.cons (.tup .nil) (.cons (.tup .nil) .nil)))) .nil))) .nil)))) (.cons (.ife (.not (.call 0 (.val (.call 1 (.val (.var 0) (.val (.var 1) .nil))) (.val (.tup (.cons (.lit (.str "differ")) (.cons (.var 2) (.cons (.tup (.cons (.lit (.int 0)) (.cons (.lit (.int 1)) .nil))) .nil)))) .nil)))) (.cons (.ret (.lit (.bl false))) .nil) .nil) (.cons (.ife (.or (.cmp .ne (.call 2 (.val (.var 0) (.val (.var 1) (.val (.tup (.cons (.lit (.int 2)) (.cons (.tup .nil) .nil))) .nil)))) (.tup (.cons (.tup .nil) (.cons (.tup .nil) .nil)))) (.one (.cmp .ne (.call 2 (.val (.var 0) (.val (.var 1) (.val (.var 2) .nil)))) (.tup (.cons (.tup (.cons (.tup (.cons (.lit (.int 0)) (.cons (.lit (.int 1)) .nil))) .nil)) (.cons (.tup .nil) .nil)))))) (.cons (.ret (.lit (.bl false))) .nil) .nil) (.cons (.ret (.cmp .is (.call 3 (.val (.var 0) (.val (.var 1) (.val (.tup (.cons (.lit (.str "differ")) (.cons (.tup (.cons (.lit (.int 2)) (.cons (.tup .nil) .nil))) (.cons (.tup (.cons (.lit (.int 0)) .nil)) .nil)))) .nil)))) (.lit (.bl false)))) .nil))))))
def f_law_either_right : Fn := run (fns [f_law_is_equal, f_compare, f_apart, f_shows_compare]) 0 3 b_law_either_right
def b_law_alike_right : Ss := (.cons (.unp (.cons (.nm 0) (.cons (.nm 1) .nil)) (.tup (.cons (.tup (.cons (.lit (.int 1)) (.cons (.tup (.cons (.tup (.cons (.lit (.int 0)) (.cons (.tup .nil) (.cons (.tup (.cons (.lit (.int 0)) .nil)) .nil)))) .nil)) .nil))) (.cons (.tup (.cons (.lit (.int 1)) (.cons (.tup (.cons (.tup (.cons (.lit .non) (.cons (.tup .nil) (.cons (.tup (.cons (.lit (.int 0)) .nil)) .nil)))) .nil)) .nil))) .nil)))) (.cons (.ife (.not (.call 0 (.val (.call 1 (.val (.var 0) (.val (.var 1) .nil))) (.val (.tup (.cons (.lit (.str "same")) (.cons (.tup (.cons (.tup (.cons (.tup .nil) (.cons (.tup (.cons (.lit (.int 0)) .nil)) .nil))) (.cons (.tup (.cons (.tup (.cons (.lit (.int 0)) .nil)) (.cons (.tup (.cons (.lit (.int 0)) .nil)) .nil))) .nil))) .nil))) .nil)))) (.cons (.ret (.lit (.bl false))) .nil) .nil) (.cons (.unp (.cons (.nm 0) (.cons (.nm 1) .nil)) (.tup (.cons (.tup (.cons (.lit (.int 2)) (.cons (.tup (.cons (.tup (.cons (.lit (.int 0)) (.cons (.tup (.cons (.lit (.int 1)) .nil)) (.cons (.tup .nil) .nil)))) (.cons (.tup (.cons (.lit (.int 1)) (.cons (.tup .nil) (.cons (.tup .nil) .nil)))) .nil))) .nil))) (.cons (.tup (.cons (.lit (.int 2)) (.cons (.tup (.cons (.tup (.cons (.lit (.int 1)) (.cons (.tup .nil) (.cons (.tup .nil) .nil)))) (.cons (.tup (.cons (.lit (.int 0)) (.cons (.tup .nil) (.cons (.tup .nil) .nil)))) .nil))) .nil))) .nil)))) (.cons (.ret (.call 0 (.val (.call 1 (.val (.var 1) (.val (.var 0) .nil))) (.val (.tup (.cons (.lit (.str "same")) (.cons (.tup (.cons (.tup (.cons (.tup (.cons (.lit (.int 0)) (.cons (.lit (.int 1)) .nil))) (.cons (.tup (.cons (.lit (.int 0)) (.cons (.lit (.int 1)) .nil))) .nil))) .nil)) .nil))) .nil)))) .nil))))
def f_law_alike_right : Fn := run (fns [f_law_is_equal, f_compare]) 0 2 b_law_alike_right
def b_law_round_right : Ss := (.cons (.unp (.cons (.nm 1) (.cons (.nm 2) (.cons (.nm 3) .nil))) (.tup (.cons (.tup (.cons (.lit (.int 2)) (.cons (.tup (.cons (.tup (.cons (.lit (.int 0)) (.cons (.tup (.cons (.lit (.int 1)) .nil)) (.cons (.tup .nil) .nil)))) (.cons (.tup (.cons (.lit (.int 1)) (.cons (.tup (.cons (.lit (.int 0)) .nil)) (.cons (.tup .nil) .nil)))) .nil))) .nil))) (.cons (.tup (.cons (.lit (.int 2)) (.cons (.tup .nil) .nil))) (.cons (.tup (.cons (.tup (.cons (.tup (.cons (.lit (.int 0)) (.cons (.lit (.int 1)) .nil))) .nil)) (.cons (.tup (.cons (.tup (.cons (.lit (.int 0)) .nil)) .nil)) .nil))) .nil))))) (.cons (.ife (.cmp .eq (.var 0) (.lit (.int 1))) (.cons (.par [1, 2, 3] (.cons (.var 2) (.cons (.var 1) (.cons (.rev (.var 3)) .nil)))) .nil) .nil) (.cons (.set 4 (.tup (.cons (.lit (.int 2)) (.cons (.tup (.cons (.tup (.cons (.lit (.int 0)) (.cons (.tup .nil) (.cons (.tup .nil) .nil)))) .nil)) .nil)))) (.cons (.ret (.and (.call 0 (.val (.call 1 (.val (.var 1) (.val (.var 2) .nil))) (.val (.tup (.cons (.lit (.str "differ")) (.cons (.var 4) (.cons (.tup (.cons (.lit (.int 0)) .nil)) .nil)))) .nil))) (.one (.cmp .eq (.call 2 (.val (.var 1) (.val (.var 2) (.val (.var 4) .nil)))) (.var 3))))) .nil))))
def f_law_round_right : Fn := run (fns [f_law_is_equal, f_compare, f_apart]) 1 5 b_law_round_right
def b_law_first_right : Ss := (.cons (.unp (.cons (.nm 0) (.cons (.nm 1) .nil)) (.tup (.cons (.tup (.cons (.lit (.int 2)) (.cons (.tup (.cons (.tup (.cons (.lit (.int 0)) (.cons (.tup .nil) (.cons (.tup (.cons (.lit (.int 1)) .nil)) .nil)))) .nil)) .nil))) (.cons (.tup (.cons (.lit (.int 2)) (.cons (.tup (.cons (.tup (.cons (.lit (.int 0)) (.cons (.tup .nil) (.cons (.tup .nil) .nil)))) .nil)) .nil))) .nil)))) (.cons (.set 2 (.tup (.cons (.lit (.int 2)) (.cons (.tup (.cons (.tup (.cons (.lit (.int 0)) (.cons (.tup (.cons (.lit (.int 1)) .nil)) (.cons (.tup .nil) .nil)))) (.cons (.tup (.cons (.lit (.int 1)) (.cons (.tup (.cons (.lit (.int 0)) .nil)) (.cons (.tup .nil) .nil)))) .nil))) .nil)))) (.cons (.ife (.not (.call 0 (.val (.call 1 (.val (.var 0) (.val (.var 1) .nil))) (.val (.tup (.cons (.lit (.str "differ")) (.cons (.var 2) (.cons (.tup (.cons (.lit (.int 0)) (.cons (.lit (.int 1)) .nil))) .nil)))) .nil)))) (.cons (.ret (.lit (.bl false))) .nil) .nil) (.cons (.ife (.cmp .ne (.call 2 (.val (.var 0) (.val (.var 1) (.val (.var 2) .nil)))) (.tup (.cons (.tup .nil) (.cons (.tup (.cons (.tup (.cons (.lit (.int 0)) (.cons (.lit (.int 1)) .nil))) .nil)) .nil)))) (.cons (.ret (.lit (.bl false))) .nil) .nil) (.cons (.ret (.cmp .eq (.call 2 (.val (.var 0) (.val (.var 1) (.val (.tup (.cons (.lit (.int 2)) (.cons (.tup (.cons (.tup (.cons (.lit (.int 1)) (.cons (.tup .nil) (.cons (.tup .nil) .nil)))) .nil)) .nil))) .nil)))) (.tup (.cons (.tup (.cons (.tup (.cons (.lit (.int 1)) .nil)) .nil)) (.cons (.tup (.cons (.tup (.cons (.lit (.int 0)) (.cons (.lit (.int 1)) .nil))) .nil)) .nil))))) .nil)))))
def f_law_first_right : Fn := run (fns [f_law_is_equal, f_compare, f_apart]) 0 3 b_law_first_right
def b_has_between : Ss := (.cons (.unp (.cons (.nm 2) (.cons (.nm 3) .nil)) (.var 1)) (.cons (.ret (.bi .any (.comp (.tup (.cons (.nm 4) (.cons (.nm 5) .nil))) (.data (.var 0)) .no (.and (.cmp .eq (.var 5) (.var 3)) (.and (.call 0 (.val (.var 2) (.val (.var 4) .nil))) (.and (.cmp .ne (.var 4) (.var 2)) (.one (.cmp .ne (.var 4) (.var 3)))))) [4, 5]))) .nil))
def f_has_between : Fn := run (fns [f_is_within]) 2 6 b_has_between
def b_kernel : Ss := (.cons (.set 1 (.call 0 (.val (.var 0) .nil))) (.cons (.ret (.bi .tuple (.comp (.nm 2) (.data (.var 1)) (.yes (.not (.call 1 (.val (.var 1) (.val (.var 2) .nil))))) (.var 2) [2]))) .nil))
def f_kernel : Fn := run (fns [f_pairs, f_has_between]) 1 3 b_kernel
def b_law_kernel : Ss := (.cons (.paro 2 3 (.call 0 (.val (.var 0) (.val (.var 1) .nil)))) (.cons (.for_ (.tup (.cons (.nm 4) (.cons (.nm 5) .nil))) (.data (.var 3)) (.cons (.set 6 (.comp (.tup (.cons (.nm 7) (.cons (.nm 8) .nil))) (.data (.var 3)) (.yes (.and (.cmp .eq (.var 8) (.var 5)) (.one (.cmp .nin (.var 7) (.tup (.cons (.var 4) (.cons (.var 5) .nil))))))) (.var 7) [7, 8])) (.cons (.ife (.or (.cmp .eq (.var 4) (.var 5)) (.one (.cmp .eq (.comp (.nm 7) (.data (.var 6)) (.yes (.call 1 (.val (.var 4) (.val (.var 7) .nil)))) (.var 7) [7]) (.lst .nil)))) (.cons (.app 2 (.tup (.cons (.var 4) (.cons (.var 5) .nil)))) .nil) .nil) .nil))) (.cons (.ret (.bi .tuple (.var 2))) .nil)))
def f_law_kernel : Fn := run (fns [f_law_pairs_2, f_law_within]) 2 9 b_law_kernel
def b_compare_by_facts : Ss := (.cons (.ex (.call 0 (.val (.lst (.cons (.var 0) (.cons (.var 1) .nil))) .nil))) (.cons (.for_ (.nm 2) (.data (.call 1 (.val (.ix (.var 0) (.lit (.int 0))) .nil))) (.cons (.for_ (.nm 3) (.data (.call 2 (.val (.var 2) .nil))) (.cons (.ife (.call 3 (.val (.var 0) (.val (.var 1) (.val (.call 4 (.val (.var 3) .nil)) (.val (.var 2) .nil))))) (.cons (.ret (.tup (.cons (.lit (.str "differ")) (.cons (.var 3) (.cons (.var 2) .nil))))) .nil) .nil) .nil)) .nil)) (.cons (.ret (.tup (.cons (.lit (.str "same")) (.cons (.call 5 (.val (.var 0) .nil)) .nil)))) .nil)))
def f_compare_by_facts : Fn := run (fns [f_check_match, f_all_sets, f_selections, f_tells_apart, f_facts_of, f_kernel]) 2 4 b_compare_by_facts
def b_law_due_3 : Ss := (.cons (.par [3, 4] (.cons (.call 0 (.val (.var 0) (.val (.var 1) .nil))) (.cons (.call 0 (.val (.var 0) (.val (.var 2) .nil))) .nil))) (.cons (.ife (.cmp .eq (.var 3) (.var 4)) (.cons (.ret (.tup (.cons (.lit (.str "same")) (.cons (.var 3) .nil)))) .nil) .nil) (.cons (.set 5 (.call 1 (.val (.var 0) .nil))) (.cons (.for_ (.nm 6) (.data (.var 5)) (.cons (.for_ (.nm 7) (.data (.var 5)) (.cons (.set 8 (.call 2 (.val (.var 7) .nil))) (.cons (.ife (.cmp .ne (.call 3 (.val (.bop .add (.var 1) (.var 8)) (.val (.var 6) .nil))) (.call 3 (.val (.bop .add (.var 2) (.var 8)) (.val (.var 6) .nil)))) (.cons (.ret (.tup (.cons (.lit (.str "differ")) (.cons (.var 7) (.cons (.var 6) .nil))))) .nil) .nil) .nil))) .nil)) (.cons (.ret (.lit .non)) .nil)))))
def f_law_due_3 : Fn := run (fns [f_law_kernel, f_law_sets, f_law_facts, f_law_is_settled]) 3 9 b_law_due_3
def b_shows_by_facts : Ss := (.cons (.ex (.call 0 (.val (.lst (.cons (.var 0) (.cons (.var 1) .nil))) .nil))) (.cons (.set 3 (.ix (.var 0) (.lit (.int 0)))) (.cons (.ife (.call 1 (.val (.lit (.int 2)) (.val (.var 2) .nil))) (.cons (.unp (.cons (.nm 4) (.cons (.nm 5) .nil)) (.var 2)) (.cons (.ret (.and (.cmp .eq (.var 4) (.lit (.str "same"))) (.and (.call 2 (.val (.var 3) (.val (.var 5) .nil))) (.one (.chain .eq .eq (.call 3 (.val (.var 0) .nil)) (.var 5) (.call 3 (.val (.var 1) .nil))))))) .nil)) .nil) (.cons (.ife (.call 1 (.val (.lit (.int 3)) (.val (.var 2) .nil))) (.cons (.unp (.cons (.nm 4) (.cons (.nm 6) (.cons (.nm 7) .nil))) (.var 2)) (.cons (.ife (.or (.cmp .ne (.var 4) (.lit (.str "differ"))) (.or (.not (.call 4 (.val (.var 3) (.val (.var 6) .nil)))) (.one (.not (.call 4 (.val (.var 3) (.val (.var 7) .nil))))))) (.cons (.ret (.lit (.bl false))) .nil) .nil) (.cons (.ret (.call 5 (.val (.var 0) (.val (.var 1) (.val (.call 6 (.val (.var 6) .nil)) (.val (.var 7) .nil)))))) .nil))) .nil) (.cons (.ret (.lit (.bl false))) .nil)))))
def f_shows_by_facts : Fn := run (fns [f_check_match, f_is_tuple_of, f_are_pairs, f_kernel, f_is_set, f_tells_apart, f_facts_of]) 3 8 b_shows_by_facts
def b_settled_with : Ss := (.cons (.ex (.call 0 (.val (.var 0) (.val (.var 1) .nil)))) (.cons (.ret (.call 1 (.val (.var 0) (.val (.call 2 (.val (.var 1) .nil)) .nil)))) .nil))
def f_settled_with : Fn := run (fns [f_check_book_and_set, f_settled_beside, f_facts_of]) 2 2 b_settled_with
def b_law_told : Ss := (.cons (.seto 2 .nil) (.cons (.for_ (.nm 3) (.data (.call 0 (.val (.ix (.var 0) (.lit (.int 0))) .nil))) (.cons (.unp (.cons (.nm 4) (.cons (.nm 5) .nil)) (.tup (.cons (.call 1 (.val (.var 0) (.val (.var 3) .nil))) (.cons (.call 1 (.val (.var 1) (.val (.var 3) .nil))) .nil)))) (.cons (.ext 2 (.comp (.nm 6) (.data (.bop .add (.var 4) (.var 5))) (.yes (.cmp .ne (.cmp .inn (.var 6) (.var 4)) (.cmp .inn (.var 6) (.var 5)))) (.tup (.cons (.var 6) (.cons (.var 3) .nil))) [6])) .nil))) (.cons (.ret (.bi .sorted (.var 2))) .nil)))
def f_law_told : Fn := run (fns [f_law_sets, f_settled_with]) 2 7 b_law_told
def b_law_right_2 : Ss := (.cons (.par [2, 3] (.cons (.call 0 (.val (.var 0) (.val (.var 1) .nil))) (.cons (.call 1 (.val (.var 0) (.val (.var 1) .nil))) .nil))) (.cons (.ife (.or (.cmp .ne (.cmp .eq (.ix (.var 2) (.lit (.int 0))) (.lit (.str "same"))) (.cmp .eq (.var 3) (.lst .nil))) (.one (.cmp .isn (.call 2 (.val (.var 0) (.val (.var 1) (.val (.var 2) .nil)))) (.lit (.bl true))))) (.cons (.ret (.lit (.bl false))) .nil) .nil) (.cons (.ife (.cmp .eq (.var 3) (.lst .nil)) (.cons (.ret (.lit (.bl true))) .nil) .nil) (.cons (.ret (.call 3 (.val (.var 2) (.val (.tup (.cons (.lit (.str "differ")) (.cons (.ix (.ix (.var 3) (.lit (.int 0))) (.lit (.int 1))) (.cons (.ix (.ix (.var 3) (.lit (.int 0))) (.lit (.int 0))) .nil)))) .nil)))) .nil))))
def f_law_right_2 : Fn := run (fns [f_compare_by_facts, f_law_told, f_shows_by_facts, f_law_is_equal]) 2 4 b_law_right_2
def b_law_either_right_2 : Ss := (.cons (.set 0 (.tup (.cons (.lit (.int 2)) (.cons (.tup (.cons (.tup (.cons (.lit (.int 0)) (.cons (.tup .nil) (.cons (.tup (.cons (.lit (.int 1)) .nil)) .nil)))) (.cons (.tup (.cons (.lit (.int 1)) (.cons (.tup .nil) (.cons (.tup (.cons (.lit (.int 0)) .nil)) .nil)))) .nil))) .nil)))) (.cons (.set 1 (.tup (.cons (.lit (.int 2)) (.cons (.bop .add (.ix (.var 0) (.lit (.int 1))) (.tup (.cons (.tup (.cons (.lit .non) (.cons (.tup (.cons (.lit (.int 0)) (.cons (.lit (.int 1)) .nil))) (.cons (.tup .nil) .nil)))) .nil))) .nil)))) (.cons (.set 2 (.tup (.cons (.tup (.cons (.tup (.cons (.lit (.int 0)) .nil)) (.cons (.tup (.cons (.lit (.int 0)) .nil)) .nil))) (.cons (.tup (.cons (.tup (.cons (.lit (.int 0)) .nil)) (.cons (.tup (.cons (.lit (.int 0)) (.cons (.lit (.int 1)) .nil))) .nil))) (.cons (.tup (.cons (.tup (.cons (.lit (.int 0)) (.cons (.lit (.int 1)) .nil))) (.cons (.tup (.cons (.lit (.int 0)) (.cons (.lit (.int 1)) .nil))) .nil))) (.cons (.tup (.cons (.tup (.cons (.lit (.int 1)) .nil)) (.cons (.tup (.cons (.lit (.int 0)) (.cons (.lit (.int 1)) .nil))) .nil))) (.cons (.tup (.cons (.tup (.cons (.lit (.int 1)) .nil)) (.cons (.tup (.cons (.lit (.int 1)) .nil)) .nil))) .nil))))))) (.cons (.ife (.not (.call 0 (.val (.lst (.cons (.call 1 (.val (.var 0) .nil)) (.cons (.call 1 (.val (.var 1) .nil)) .nil))) (.val (.lst (.cons (.var 2) (.cons (.tup (.cons (.tup (.cons (.tup (.cons (.lit (.int 0)) .nil)) (.cons (.tup (.cons (.lit (.int 0)) .nil)) .nil))) (.cons (.tup (.cons (.tup (.cons (.lit (.int 1)) .nil)) (.cons (.tup (.cons (.lit (.int 1)) .nil)) .nil))) .nil))) .nil))) .nil)))) (.cons (.ret (.lit (.bl false))) .nil) .nil) (.cons (.ife (.or (.cmp .ne (.call 2 (.val (.var 0) (.val (.tup (.cons (.lit (.int 0)) (.cons (.lit (.int 1)) .nil))) .nil))) (.tup (.cons (.tup (.cons (.lit (.int 0)) (.cons (.lit (.int 1)) .nil))) .nil))) (.one (.cmp .ne (.call 2 (.val (.var 1) (.val (.tup (.cons (.lit (.int 0)) (.cons (.lit (.int 1)) .nil))) .nil))) (.tup .nil)))) (.cons (.ret (.lit (.bl false))) .nil) .nil) (.cons (.ret (.call 0 (.val (.call 3 (.val (.var 0) (.val (.var 1) .nil))) (.val (.tup (.cons (.lit (.str "differ")) (.cons (.tup (.cons (.lit (.int 0)) (.cons (.lit (.int 1)) .nil))) (.cons (.tup (.cons (.lit (.int 0)) (.cons (.lit (.int 1)) .nil))) .nil)))) .nil)))) .nil))))))
def f_law_either_right_2 : Fn := run (fns [f_law_is_equal, f_kernel, f_settled_with, f_compare_by_facts]) 0 3 b_law_either_right_2
def b_law_low_right : Ss := (.cons (.set 1 (.lst (.cons (.tup (.cons (.lit (.int 2)) (.cons (.tup (.cons (.tup (.cons (.lit (.int 0)) (.cons (.tup .nil) (.cons (.tup .nil) .nil)))) .nil)) .nil))) (.cons (.tup (.cons (.lit (.int 2)) (.cons (.tup (.cons (.tup (.cons (.lit (.int 0)) (.cons (.tup .nil) (.cons (.tup (.cons (.lit (.int 1)) .nil)) .nil)))) (.cons (.tup (.cons (.lit (.int 0)) (.cons (.tup (.cons (.lit (.int 1)) .nil)) (.cons (.tup .nil) .nil)))) .nil))) .nil))) .nil)))) (.cons (.par [2, 3] (.cons (.ix (.var 1) (.var 0)) (.cons (.ix (.var 1) (.bop .sub (.lit (.int 1)) (.var 0))) .nil))) (.cons (.set 4 (.tup (.cons (.tup (.cons (.tup (.cons (.lit (.int 0)) .nil)) (.cons (.tup (.cons (.lit (.int 0)) .nil)) .nil))) (.cons (.tup (.cons (.tup (.cons (.lit (.int 0)) .nil)) (.cons (.tup (.cons (.lit (.int 0)) (.cons (.lit (.int 1)) .nil))) .nil))) (.cons (.tup (.cons (.tup (.cons (.lit (.int 0)) (.cons (.lit (.int 1)) .nil))) (.cons (.tup (.cons (.lit (.int 0)) (.cons (.lit (.int 1)) .nil))) .nil))) .nil))))) (.cons (.ife (.not (.call 0 (.val (.lst (.cons (.call 1 (.val (.var 2) .nil)) (.cons (.call 2 (.val (.var 2) (.val (.var 3) .nil))) .nil))) (.val (.lst (.cons (.var 4) (.cons (.tup (.cons (.lit (.str "same")) (.cons (.var 4) .nil))) .nil))) .nil)))) (.cons (.ret (.lit (.bl false))) .nil) .nil) (.cons (.set 5 (.tup (.cons (.lit (.int 2)) (.cons (.tup (.cons (.tup (.cons (.lit (.int 0)) (.cons (.tup (.cons (.lit (.int 1)) .nil)) (.cons (.tup .nil) .nil)))) (.cons (.tup (.cons (.lit (.int 1)) (.cons (.tup (.cons (.lit (.int 0)) .nil)) (.cons (.tup .nil) .nil)))) .nil))) .nil)))) (.cons (.ife (.not (.call 0 (.val (.call 3 (.val (.var 2) (.val (.var 3) .nil))) (.val (.tup (.cons (.lit (.str "differ")) (.cons (.var 5) (.cons (.tup (.cons (.lit (.int 0)) (.cons (.lit (.int 1)) .nil))) .nil)))) .nil)))) (.cons (.ret (.lit (.bl false))) .nil) .nil) (.cons (.ret (.and (.cmp .eq (.call 4 (.val (.var 2) (.val (.tup (.cons (.lit (.int 1)) .nil)) .nil))) (.tup (.cons (.tup (.cons (.lit (.int 0)) (.cons (.lit (.int 1)) .nil))) .nil))) (.one (.cmp .eq (.call 4 (.val (.var 3) (.val (.tup .nil) .nil))) (.tup (.cons (.tup (.cons (.lit (.int 0)) .nil)) .nil)))))) .nil)))))))
def f_law_low_right : Fn := run (fns [f_law_is_equal, f_kernel, f_compare_by_facts, f_compare, f_settled_with]) 1 6 b_law_low_right
def b_law_round_right_2 : Ss := (.cons (.set 0 (.tup (.cons (.lit (.int 2)) (.cons (.tup (.cons (.tup (.cons (.lit (.int 0)) (.cons (.tup (.cons (.lit (.int 1)) .nil)) (.cons (.tup .nil) .nil)))) (.cons (.tup (.cons (.lit (.int 1)) (.cons (.tup (.cons (.lit (.int 0)) .nil)) (.cons (.tup .nil) .nil)))) .nil))) .nil)))) (.cons (.ret (.call 0 (.val (.call 1 (.val (.var 0) (.val (.tup (.cons (.lit (.int 2)) (.cons (.tup .nil) .nil))) .nil))) (.val (.tup (.cons (.lit (.str "differ")) (.cons (.tup (.cons (.lit (.int 0)) .nil)) (.cons (.tup (.cons (.lit (.int 0)) .nil)) .nil)))) .nil)))) .nil))
def f_law_round_right_2 : Fn := run (fns [f_law_is_equal, f_compare_by_facts]) 0 1 b_law_round_right_2
def b_check_rule : Ss := (.cons (.ife (.not (.call 0 (.val (.var 0) (.val (.var 1) .nil)))) (.cons .never .nil) .nil) .nil)
def f_check_rule : Fn := run (fns [f_has_rule_form]) 2 2 b_check_rule
def b_counter : Ss := (.cons (.ex (.call 0 (.val (.var 0) .nil))) (.cons (.ex (.call 1 (.val (.ix (.var 0) (.lit (.int 0))) (.val (.var 1) .nil)))) (.cons (.set 2 (.comp (.nm 3) (.data (.call 2 (.val (.var 0) .nil))) (.yes (.not (.call 3 (.val (.var 3) (.val (.var 1) .nil))))) (.var 3) [3])) (.cons (.ret (.ite (.var 2) (.ix (.var 2) (.lit (.int 0))) (.lit .non))) .nil))))
def f_counter : Fn := run (fns [f_check_book, f_check_rule, f_pairs, f_fits_rule]) 2 4 b_counter
def b_law_more_2 : Ss := (.cons (.unp (.cons (.nm 3) (.cons (.nm 4) (.cons (.nm 5) .nil))) (.var 2)) (.cons (.set 4 (.bi .tuple (.sortset (.bop .add (.var 4) (.call 0 (.mut 0 (.val (.var 1) (.val (.lit (.int 3)) .nil)))))))) (.cons (.ret (.tup (.cons (.var 3) (.cons (.var 4) (.cons (.bi .tuple (.sortset (.bop .add (.var 5) (.call 0 (.mut 0 (.val (.var 1) (.val (.lit (.int 3)) .nil))))))) .nil))))) .nil)))
def f_law_more_2 : Fn := run (fns [f_law_part]) 3 6 b_law_more_2
def b_barred : Ss := (.cons (.set 2 (.lit (.int 0))) (.cons (.for_ (.nm 3) (.data (.var 0)) (.cons (.set 2 (.bop .add (.bop .mul (.var 2) (.lit (.int 2))) (.ite (.call 0 (.val (.var 3) (.val (.var 1) .nil))) (.lit (.int 0)) (.lit (.int 1))))) .nil)) (.cons (.ret (.var 2)) .nil)))
def f_barred : Fn := run (fns [f_fits_rule]) 2 4 b_barred
def b_marked : Ss := (.cons (.ret (.bi .tuple (.comp (.nm 2) (.data (.var 1)) .no (.tup (.cons (.var 2) (.cons (.call 0 (.val (.var 0) (.val (.var 2) .nil))) .nil))) [2]))) .nil)
def f_marked : Fn := run (fns [f_barred]) 2 3 b_marked
def b_barred_by_any : Ss := (.cons (.set 1 (.lit (.int 0))) (.cons (.for_ (.tup (.cons (.nm 2) (.cons (.nm 3) .nil))) (.data (.var 0)) (.cons (.set 1 (.bop .bor (.var 1) (.var 3))) .nil)) (.cons (.ret (.var 1)) .nil)))
def f_barred_by_any : Fn := run (fns []) 1 4 b_barred_by_any
def b_without_row : Ss := (.cons (.ret (.bop .add (.sl (.var 0) .no (.yes (.var 1))) (.sl (.var 0) (.yes (.bop .add (.var 1) (.lit (.int 1)))) .no))) .nil)
def f_without_row : Fn := run (fns []) 2 2 b_without_row
def b_needless : Ss := (.cons (.ex (.call 0 (.val (.var 0) .nil))) (.cons (.unp (.cons (.nm 1) (.cons (.nm 2) .nil)) (.var 0)) (.cons (.set 3 (.call 1 (.val (.call 2 (.val (.var 1) .nil)) (.val (.var 2) .nil)))) (.cons (.set 4 (.call 3 (.val (.var 3) .nil))) (.cons (.ret (.bi .tuple (.comp (.tup (.cons (.nm 5) (.cons (.nm 6) .nil))) (.enum (.var 2)) (.yes (.cmp .eq (.call 3 (.val (.call 4 (.val (.var 3) (.val (.var 5) .nil))) .nil)) (.var 4))) (.var 6) [5, 6]))) .nil)))))
def f_needless : Fn := run (fns [f_check_book, f_marked, f_all_pairs, f_barred_by_any, f_without_row]) 1 7 b_needless
def b_law_due_4 : Ss := (.cons (.seto 2 .nil) (.cons (.for_ (.nm 3) (.rng (.bi .len (.var 1))) (.cons (.set 4 (.call 0 (.val (.var 0) (.val (.bop .add (.sl (.var 1) .no (.yes (.var 3))) (.sl (.var 1) (.yes (.bop .add (.var 3) (.lit (.int 1)))) .no)) .nil)))) (.cons (.ife (.cmp .eq (.comp (.nm 5) (.data (.var 4)) (.yes (.not (.call 1 (.val (.var 5) (.val (.ix (.var 1) (.var 3)) .nil))))) (.var 5) [5]) (.lst .nil)) (.cons (.app 2 (.ix (.var 1) (.var 3))) .nil) .nil) .nil))) (.cons (.ret (.bi .tuple (.var 2))) .nil)))
def f_law_due_4 : Fn := run (fns [f_law_pairs_2, f_law_fits_2]) 2 6 b_law_due_4
def b_without_atom : Ss := (.cons (.ret (.bi .tuple (.comp (.nm 2) (.data (.var 0)) (.yes (.cmp .ne (.var 2) (.var 1))) (.var 2) [2]))) .nil)
def f_without_atom : Fn := run (fns []) 2 3 b_without_atom
def b_shorter_rules : Ss := (.cons (.unp (.cons (.nm 1) (.cons (.nm 2) (.cons (.nm 3) .nil))) (.var 0)) (.cons (.set 4 (.comp (.nm 5) (.data (.var 2)) .no (.tup (.cons (.var 1) (.cons (.call 0 (.val (.var 2) (.val (.var 5) .nil))) (.cons (.var 3) .nil)))) [5])) (.cons (.set 6 (.comp (.nm 5) (.data (.var 3)) .no (.tup (.cons (.var 1) (.cons (.var 2) (.cons (.call 0 (.val (.var 3) (.val (.var 5) .nil))) .nil)))) [5])) (.cons (.ret (.bop .add (.var 4) (.var 6))) .nil))))
def f_shorter_rules : Fn := run (fns [f_without_atom]) 1 7 b_shorter_rules
def b_one_step : Ss := (.cons (.set 2 (.call 0 (.val (.var 1) .nil))) (.cons (.for_ (.nm 3) (.rng (.bi .len (.var 1))) (.cons (.set 4 (.call 1 (.val (.var 1) (.val (.var 3) .nil)))) (.cons (.ife (.cmp .eq (.call 0 (.val (.var 4) .nil)) (.var 2)) (.cons (.ret (.var 4)) .nil) .nil) .nil))) (.cons (.for_ (.tup (.cons (.nm 3) (.cons (.tup (.cons (.nm 5) (.cons (.nm 6) .nil))) .nil))) (.enum (.var 1)) (.cons (.for_ (.nm 7) (.data (.call 2 (.val (.var 0) (.val (.call 3 (.val (.var 5) .nil)) .nil)))) (.cons (.set 4 (.tup (.star (.sl (.var 1) .no (.yes (.var 3))) (.cons (.var 7) (.star (.sl (.var 1) (.yes (.bop .add (.var 3) (.lit (.int 1)))) .no) .nil))))) (.cons (.ife (.cmp .eq (.call 0 (.val (.var 4) .nil)) (.var 2)) (.cons (.ret (.var 4)) .nil) .nil) .nil))) .nil)) (.cons (.ret (.var 1)) .nil))))
def f_one_step : Fn := run (fns [f_barred_by_any, f_without_row, f_marked, f_shorter_rules]) 2 8 b_one_step
def b_tidy : Ss := (.cons (.ex (.call 0 (.val (.var 0) .nil))) (.cons (.unp (.cons (.nm 1) (.cons (.nm 2) .nil)) (.var 0)) (.cons (.set 3 (.call 1 (.val (.var 1) .nil))) (.cons (.set 4 (.call 2 (.val (.var 3) (.val (.var 2) .nil)))) (.cons (.set 5 (.call 3 (.val (.var 3) (.val (.var 4) .nil)))) (.cons (.wh 120 (.cmp .ne (.var 5) (.var 4)) (.cons (.set 4 (.var 5)) (.cons (.set 5 (.call 3 (.val (.var 3) (.val (.var 4) .nil)))) .nil))) (.cons (.ret (.tup (.cons (.var 1) (.cons (.bi .tuple (.comp (.tup (.cons (.nm 6) (.cons (.nm 7) .nil))) (.data (.var 4)) .no (.var 6) [6, 7])) .nil)))) .nil)))))))
def f_tidy : Fn := run (fns [f_check_book, f_all_pairs, f_marked, f_one_step]) 1 8 b_tidy
def b_is_tidy : Ss := (.cons (.ex (.call 0 (.val (.var 0) .nil))) (.cons (.unp (.cons (.nm 1) (.cons (.nm 2) .nil)) (.var 0)) (.cons (.set 3 (.call 1 (.val (.var 1) .nil))) (.cons (.set 4 (.call 2 (.val (.var 3) (.val (.var 2) .nil)))) (.cons (.ret (.cmp .eq (.call 3 (.val (.var 3) (.val (.var 4) .nil))) (.var 4))) .nil)))))
def f_is_tidy : Fn := run (fns [f_check_book, f_all_pairs, f_marked, f_one_step]) 1 5 b_is_tidy
def b_law_shorter : Ss := (.cons (.unp (.cons (.nm 1) (.cons (.nm 2) (.cons (.nm 3) .nil))) (.var 0)) (.cons (.set 4 (.comp (.nm 6) (.data (.var 2)) .no (.tup (.cons (.var 1) (.cons (.bi .tuple (.comp (.nm 5) (.data (.var 2)) (.yes (.cmp .ne (.var 5) (.var 6))) (.var 5) [5])) (.cons (.var 3) .nil)))) [6])) (.cons (.ret (.bop .add (.var 4) (.comp (.nm 6) (.data (.var 3)) .no (.tup (.cons (.var 1) (.cons (.var 2) (.cons (.bi .tuple (.comp (.nm 5) (.data (.var 3)) (.yes (.cmp .ne (.var 5) (.var 6))) (.var 5) [5])) .nil)))) [6]))) .nil)))
def f_law_shorter : Fn := run (fns []) 1 7 b_law_shorter
def b_law_less : Ss := (.cons (.set 2 (.call 0 (.val (.var 0) (.val (.var 1) .nil)))) (.cons (.for_ (.nm 3) (.rng (.bi .len (.var 1))) (.cons (.ife (.cmp .eq (.call 0 (.val (.var 0) (.val (.bop .add (.sl (.var 1) .no (.yes (.var 3))) (.sl (.var 1) (.yes (.bop .add (.var 3) (.lit (.int 1)))) .no)) .nil))) (.var 2)) (.cons (.ret (.bop .add (.sl (.var 1) .no (.yes (.var 3))) (.sl (.var 1) (.yes (.bop .add (.var 3) (.lit (.int 1)))) .no))) .nil) .nil) .nil)) (.cons (.for_ (.nm 3) (.rng (.bi .len (.var 1))) (.cons (.for_ (.nm 4) (.data (.call 1 (.val (.ix (.var 1) (.var 3)) .nil))) (.cons (.ife (.cmp .eq (.call 0 (.val (.var 0) (.val (.bop .add (.bop .add (.sl (.var 1) .no (.yes (.var 3))) (.tup (.cons (.var 4) .nil))) (.sl (.var 1) (.yes (.bop .add (.var 3) (.lit (.int 1)))) .no)) .nil))) (.var 2)) (.cons (.ret (.bop .add (.bop .add (.sl (.var 1) .no (.yes (.var 3))) (.tup (.cons (.var 4) .nil))) (.sl (.var 1) (.yes (.bop .add (.var 3) (.lit (.int 1)))) .no))) .nil) .nil) .nil)) .nil)) (.cons (.ret (.lit .non)) .nil))))
def f_law_less : Fn := run (fns [f_law_pairs_2, f_law_shorter]) 2 5 b_law_less
def b_law_due_5 : Ss := (.cons (.set 2 (.call 0 (.val (.var 0) (.val (.var 1) .nil)))) (.cons (.wh 200 (.cmp .isn (.var 2) (.lit .non)) (.cons (.set 1 (.var 2)) (.cons (.set 2 (.call 0 (.val (.var 0) (.val (.var 1) .nil)))) .nil))) (.cons (.ret (.var 1)) .nil)))
def f_law_due_5 : Fn := run (fns [f_law_less]) 2 3 b_law_due_5
def b_law_tidy_right : Ss := (.cons (.unp (.cons (.nm 1) (.cons (.nm 2) .nil)) (.call 0 (.val (.var 0) .nil))) (.cons (.ife (.or (.cmp .ne (.ix (.call 1 (.val (.var 0) (.val (.tup (.cons (.var 1) (.cons (.var 2) .nil))) .nil))) (.lit (.int 0))) (.lit (.str "same"))) (.one (.cmp .isn (.call 2 (.val (.tup (.cons (.var 1) (.cons (.var 2) .nil))) .nil)) (.lit (.bl true))))) (.cons (.ret (.lit (.bl false))) .nil) .nil) (.cons (.ife (.or (.not (.call 3 (.val (.call 0 (.val (.tup (.cons (.var 1) (.cons (.var 2) .nil))) .nil)) (.val (.tup (.cons (.var 1) (.cons (.var 2) .nil))) .nil)))) (.one (.cmp .gt (.bi .len (.var 2)) (.bi .len (.ix (.var 0) (.lit (.int 1))))))) (.cons (.ret (.lit (.bl false))) .nil) .nil) (.cons (.for_ (.nm 3) (.rng (.bi .len (.var 2))) (.cons (.ife (.cmp .is (.call 4 (.val (.tup (.cons (.var 1) (.cons (.bop .add (.sl (.var 2) .no (.yes (.var 3))) (.sl (.var 2) (.yes (.bop .add (.var 3) (.lit (.int 1)))) .no)) .nil))) (.val (.ix (.var 2) (.var 3)) .nil))) (.lit .non)) (.cons (.ret (.lit (.bl false))) .nil) .nil) .nil)) (.cons (.ret (.and (.cmp .eq (.call 2 (.val (.var 0) .nil)) (.cmp .eq (.tup (.cons (.var 1) (.cons (.var 2) .nil))) (.var 0))) (.one (.cmp .eq (.call 5 (.val (.tup (.cons (.var 1) (.cons (.var 2) .nil))) .nil)) (.tup .nil))))) .nil)))))
def f_law_tidy_right : Fn := run (fns [f_tidy, f_compare, f_is_tidy, f_law_is_equal, f_counter, f_needless]) 1 4 b_law_tidy_right
def b_law_follows_right : Ss := (.cons (.set 3 (.call 0 (.val (.tup (.cons (.var 0) (.cons (.var 1) .nil))) (.val (.var 2) .nil)))) (.cons (.ret (.cmp .eq (.cmp .is (.var 3) (.lit .non)) (.cmp .eq (.ix (.call 1 (.val (.tup (.cons (.var 0) (.cons (.var 1) .nil))) (.val (.tup (.cons (.var 0) (.cons (.call 2 (.val (.var 1) (.val (.tup (.cons (.var 2) .nil)) .nil))) .nil))) .nil))) (.lit (.int 0))) (.lit (.str "same"))))) .nil))
def f_law_follows_right : Fn := run (fns [f_counter, f_compare, f_law_joined]) 3 4 b_law_follows_right
def b_law_needless_right : Ss := (.cons (.seto 2 .nil) (.cons (.for_ (.nm 3) (.rng (.bi .len (.var 1))) (.cons (.ife (.cmp .is (.call 0 (.val (.tup (.cons (.var 0) (.cons (.bop .add (.sl (.var 1) .no (.yes (.var 3))) (.sl (.var 1) (.yes (.bop .add (.var 3) (.lit (.int 1)))) .no)) .nil))) (.val (.ix (.var 1) (.var 3)) .nil))) (.lit .non)) (.cons (.app 2 (.ix (.var 1) (.var 3))) .nil) .nil) .nil)) (.cons (.ret (.cmp .eq (.call 1 (.val (.tup (.cons (.var 0) (.cons (.var 1) .nil))) .nil)) (.bi .tuple (.var 2)))) .nil)))
def f_law_needless_right : Fn := run (fns [f_counter, f_needless]) 2 4 b_law_needless_right
def b_law_fact_right : Ss := (.cons (.unp (.cons (.nm 1) (.cons (.nm 2) (.cons (.nm 3) .nil))) (.tup (.cons (.tup (.cons (.lit (.int 0)) (.cons (.tup .nil) (.cons (.tup .nil) .nil)))) (.cons (.tup (.cons (.lit (.int 0)) (.cons (.tup (.cons (.lit (.int 1)) .nil)) (.cons (.tup .nil) .nil)))) (.cons (.tup (.cons (.lit (.int 1)) (.cons (.tup (.cons (.lit (.int 0)) .nil)) (.cons (.tup (.cons (.lit (.int 1)) .nil)) .nil)))) .nil))))) (.cons (.set 4 (.ix (.lst (.cons (.tup (.cons (.var 1) (.cons (.var 2) (.cons (.var 3) .nil)))) (.cons (.tup (.cons (.var 2) (.cons (.var 1) (.cons (.var 3) .nil)))) (.cons (.tup (.cons (.var 1) (.cons (.var 3) (.cons (.var 2) .nil)))) .nil)))) (.var 0))) (.cons (.ife (.or (.cmp .ne (.call 0 (.val (.tup (.cons (.lit (.int 2)) (.cons (.var 4) .nil))) .nil)) (.tup (.cons (.var 2) .nil))) (.one (.cmp .isn (.call 1 (.val (.tup (.cons (.lit (.int 2)) (.cons (.var 4) .nil))) .nil)) (.lit (.bl false))))) (.cons (.ret (.lit (.bl false))) .nil) .nil) (.cons (.ret (.call 2 (.val (.call 3 (.val (.tup (.cons (.lit (.int 2)) (.cons (.var 4) .nil))) .nil)) (.val (.tup (.cons (.lit (.int 2)) (.cons (.tup (.cons (.var 1) (.cons (.tup (.cons (.lit (.int 1)) (.cons (.tup .nil) (.cons (.tup (.cons (.lit (.int 1)) .nil)) .nil)))) .nil))) .nil))) .nil)))) .nil))))
def f_law_fact_right : Fn := run (fns [f_needless, f_is_tidy, f_law_is_equal, f_tidy]) 1 5 b_law_fact_right
def b_law_counter_right : Ss := (.cons (.unp (.cons (.nm 0) (.cons (.nm 1) .nil)) (.tup (.cons (.tup (.cons (.lit (.int 2)) (.cons (.tup (.cons (.tup (.cons (.lit (.int 0)) (.cons (.tup .nil) (.cons (.tup (.cons (.lit (.int 1)) .nil)) .nil)))) .nil)) .nil))) (.cons (.tup (.cons (.lit (.int 2)) (.cons (.tup (.cons (.tup (.cons (.lit (.int 0)) (.cons (.tup .nil) (.cons (.tup .nil) .nil)))) .nil)) .nil))) .nil)))) (.cons (.ife (.not (.call 0 (.val (.call 1 (.val (.var 0) (.val (.tup (.cons (.lit (.int 0)) (.cons (.tup .nil) (.cons (.tup .nil) .nil)))) .nil))) (.val (.tup (.cons (.tup .nil) (.cons (.tup (.cons (.lit (.int 0)) (.cons (.lit (.int 1)) .nil))) .nil))) .nil)))) (.cons (.ret (.lit (.bl false))) .nil) .nil) (.cons (.ret (.and (.cmp .is (.call 1 (.val (.var 1) (.val (.tup (.cons (.lit (.int 0)) (.cons (.tup .nil) (.cons (.tup (.cons (.lit (.int 1)) .nil)) .nil)))) .nil))) (.lit .non)) (.one (.cmp .eq (.call 1 (.val (.tup (.cons (.lit (.int 1)) (.cons (.tup .nil) .nil))) (.val (.tup (.cons (.lit .non) (.cons (.tup .nil) (.cons (.tup .nil) .nil)))) .nil))) (.tup (.cons (.tup .nil) (.cons (.tup .nil) .nil))))))) .nil)))
def f_law_counter_right : Fn := run (fns [f_law_is_equal, f_counter]) 0 2 b_law_counter_right
def b_law_small_right : Ss := (.cons (.ife (.or (.cmp .isn (.call 0 (.val (.tup (.cons (.lit (.int 1)) (.cons (.tup (.cons (.tup (.cons (.lit (.int 0)) (.cons (.tup .nil) (.cons (.tup (.cons (.lit (.int 0)) .nil)) .nil)))) .nil)) .nil))) .nil)) (.lit (.bl true))) (.one (.not (.call 1 (.val (.call 2 (.val (.tup (.cons (.lit (.int 1)) (.cons (.tup (.cons (.tup (.cons (.lit (.int 0)) (.cons (.tup (.cons (.lit (.int 0)) .nil)) (.cons (.tup .nil) .nil)))) .nil)) .nil))) .nil)) (.val (.tup (.cons (.lit (.int 1)) (.cons (.tup .nil) .nil))) .nil)))))) (.cons (.ret (.lit (.bl false))) .nil) .nil) (.cons (.set 0 (.tup (.cons (.lit .non) (.cons (.tup (.cons (.lit (.int 1)) .nil)) (.cons (.tup .nil) .nil))))) (.cons (.ife (.not (.call 1 (.val (.call 2 (.val (.tup (.cons (.lit (.int 2)) (.cons (.tup (.cons (.tup (.cons (.lit (.int 0)) (.cons (.tup .nil) (.cons (.tup (.cons (.lit (.int 1)) .nil)) .nil)))) (.cons (.var 0) .nil))) .nil))) .nil)) (.val (.tup (.cons (.lit (.int 2)) (.cons (.tup (.cons (.tup (.cons (.lit (.int 0)) (.cons (.tup .nil) (.cons (.tup .nil) .nil)))) (.cons (.var 0) .nil))) .nil))) .nil)))) (.cons (.ret (.lit (.bl false))) .nil) .nil) (.cons (.set 1 (.tup (.cons (.lit (.int 3)) (.cons (.tup (.cons (.tup (.cons (.lit (.int 0)) (.cons (.tup (.cons (.lit (.int 1)) .nil)) (.cons (.tup (.cons (.lit (.int 2)) .nil)) .nil)))) (.cons (.tup (.cons (.lit (.int 0)) (.cons (.tup (.cons (.lit (.int 1)) .nil)) (.cons (.tup .nil) .nil)))) .nil))) .nil)))) (.cons (.ret (.and (.call 1 (.val (.call 2 (.val (.var 1) .nil)) (.val (.tup (.cons (.lit (.int 3)) (.cons (.tup (.cons (.tup (.cons (.lit (.int 0)) (.cons (.tup (.cons (.lit (.int 1)) .nil)) (.cons (.tup .nil) .nil)))) .nil)) .nil))) .nil))) (.one (.cmp .eq (.call 2 (.val (.tup (.cons (.lit (.int 4)) (.cons (.tup .nil) .nil))) .nil)) (.tup (.cons (.lit (.int 4)) (.cons (.tup .nil) .nil))))))) .nil)))))
def f_law_small_right : Fn := run (fns [f_is_tidy, f_law_is_equal, f_tidy]) 0 2 b_law_small_right
def b_law_can : Ss := (.cons (.par [2, 3] (.cons (.ix (.call 0 (.val (.var 0) (.val (.var 1) .nil))) (.lit (.int 0))) (.cons (.ix (.call 0 (.val (.var 1) (.val (.var 0) .nil))) (.lit (.int 0))) .nil))) (.cons (.ife (.or (.cmp .ne (.var 2) (.var 3)) (.one (.cmp .nin (.var 2) (.tup (.cons (.lit (.str "same")) (.cons (.lit (.str "differ")) .nil)))))) (.cons (.ret (.lit .non)) .nil) .nil) (.cons (.ret (.cmp .eq (.var 2) (.lit (.str "same")))) .nil)))
def f_law_can : Fn := run (fns [f_compare]) 2 4 b_law_can
def b_law_right_3 : Ss := (.cons (.unp (.cons (.nm 3) (.cons (.nm 4) (.cons (.nm 5) .nil))) (.comp (.nm 6) (.data (.var 1)) .no (.tup (.cons (.var 0) (.cons (.var 6) .nil))) [6])) (.cons (.set 7 (.lst (.cons (.call 0 (.val (.var 3) (.val (.var 4) .nil))) (.cons (.call 0 (.val (.var 4) (.val (.var 5) .nil))) (.cons (.call 0 (.val (.var 3) (.val (.var 5) .nil))) .nil))))) (.cons (.ife (.or (.cmp .inn (.lit .non) (.var 7)) (.one (.cmp .isn (.call 0 (.val (.var 3) (.val (.var 3) .nil))) (.lit (.bl true))))) (.cons (.ret (.lit (.bl false))) .nil) .nil) (.cons (.ife (.cmp .eq (.cnt 7 (.lit (.bl false))) (.lit (.int 1))) (.cons (.ret (.lit (.bl false))) .nil) .nil) (.cons (.set 8 (.comp (.nm 6) (.data (.sl (.var 1) .no (.yes (.lit (.int 2))))) .no (.tup (.cons (.var 0) (.cons (.call 1 (.val (.var 6) (.val (.var 2) .nil))) .nil))) [6])) (.cons (.ret (.or (.cmp .is (.ix (.var 7) (.lit (.int 0))) (.lit (.bl false))) (.one (.cmp .is (.call 0 (.val (.ix (.var 8) (.lit (.int 0))) (.val (.ix (.var 8) (.lit (.int 1))) .nil))) (.lit (.bl true)))))) .nil))))))
def f_law_right_3 : Fn := run (fns [f_law_can, f_law_joined]) 3 9 b_law_right_3
def b_settled : Ss := (.cons (.ex (.call 0 (.val (.var 0) .nil))) (.cons (.unp (.cons (.nm 1) (.cons (.nm 2) .nil)) (.var 0)) (.cons (.ret (.call 1 (.val (.var 1) (.val (.var 2) .nil)))) .nil)))
def f_settled : Fn := run (fns [f_check_book, f_settled_sets]) 1 3 b_settled
def b_can_be_settled : Ss := (.cons (.ife (.or (.not (.isi .tuple (.var 1))) (.one (.not (.bi .all (.comp (.nm 2) (.data (.var 1)) .no (.call 0 (.val (.var 0) (.val (.var 2) .nil))) [2]))))) (.cons (.ret (.lit (.bl false))) .nil) .nil) (.cons (.ret (.and (.call 1 (.val (.var 1) .nil)) (.one (.not (.bi .any (.comp2 (.nm 3) (.data (.var 1)) .no (.nm 4) (.data (.var 1)) (.yes (.cmp .ne (.var 3) (.var 4))) (.call 2 (.val (.var 3) (.val (.var 4) .nil))) [3, 4] [4])))))) .nil))
def f_can_be_settled : Fn := run (fns [f_is_set, f_is_ascending, f_is_within]) 2 5 b_can_be_settled
def b_rules_settling : Ss := (.cons (.ex (.call 0 (.val (.var 0) .nil))) (.cons (.ife (.not (.call 1 (.val (.var 0) (.val (.var 1) .nil)))) (.cons .never .nil) .nil) (.cons (.ret (.call 2 (.val (.var 0) (.val (.bi .tuple (.comp (.nm 2) (.data (.var 1)) .no (.tup (.cons (.var 2) (.cons (.var 2) .nil))) [2])) .nil)))) .nil)))
def f_rules_settling : Fn := run (fns [f_check_atoms, f_can_be_settled, f_rules_of]) 2 3 b_rules_settling
def b_law_choice_right : Ss := (.cons (.set 0 (.tup (.cons (.lit (.int 2)) (.cons (.tup (.cons (.tup (.cons (.lit (.int 0)) (.cons (.tup .nil) (.cons (.tup (.cons (.lit (.int 1)) .nil)) .nil)))) (.cons (.tup (.cons (.lit (.int 1)) (.cons (.tup .nil) (.cons (.tup (.cons (.lit (.int 0)) .nil)) .nil)))) .nil))) .nil)))) (.cons (.set 1 (.lst (.cons (.listg 0 (.val (.var 0) .nil)) (.cons (.call 0 (.val (.var 0) .nil)) (.cons (.call 1 (.val (.var 0) (.val (.tup .nil) .nil))) (.cons (.call 1 (.val (.var 0) (.val (.tup (.cons (.lit (.int 0)) .nil)) .nil))) (.cons (.call 1 (.val (.var 0) (.val (.tup (.cons (.lit (.int 0)) (.cons (.lit (.int 1)) .nil))) .nil))) .nil))))))) (.cons (.set 2 (.lst (.cons (.lst (.cons (.tup (.cons (.lit (.int 0)) .nil)) (.cons (.tup (.cons (.lit (.int 1)) .nil)) .nil))) (.cons (.tup (.cons (.tup (.cons (.tup .nil) (.cons (.tup (.cons (.lit (.int 0)) (.cons (.lit (.int 1)) .nil))) .nil))) (.cons (.tup (.cons (.tup (.cons (.lit (.int 0)) .nil)) (.cons (.tup (.cons (.lit (.int 0)) .nil)) .nil))) (.cons (.tup (.cons (.tup (.cons (.lit (.int 0)) .nil)) (.cons (.tup (.cons (.lit (.int 0)) (.cons (.lit (.int 1)) .nil))) .nil))) (.cons (.tup (.cons (.tup (.cons (.lit (.int 0)) (.cons (.lit (.int 1)) .nil))) (.cons (.tup (.cons (.lit (.int 0)) (.cons (.lit (.int 1)) .nil))) .nil))) (.cons (.tup (.cons (.tup (.cons (.lit (.int 1)) .nil)) (.cons (.tup (.cons (.lit (.int 0)) (.cons (.lit (.int 1)) .nil))) .nil))) (.cons (.tup (.cons (.tup (.cons (.lit (.int 1)) .nil)) (.cons (.tup (.cons (.lit (.int 1)) .nil)) .nil))) .nil))))))) .nil)))) (.cons (.set 2 (.bop .add (.var 2) (.lst (.cons (.tup (.cons (.lit (.str "violated")) (.cons (.tup (.cons (.lit (.int 0)) (.cons (.tup .nil) (.cons (.tup (.cons (.lit (.int 1)) .nil)) .nil)))) .nil))) (.cons (.tup (.cons (.lit (.str "settled")) (.cons (.tup (.cons (.tup (.cons (.lit (.int 0)) (.cons (.tup .nil) (.cons (.tup (.cons (.lit (.int 1)) .nil)) .nil)))) .nil)) .nil))) (.cons (.tup (.cons (.lit (.str "smaller")) (.cons (.tup .nil) .nil))) .nil)))))) (.cons (.ife (.not (.call 2 (.val (.var 1) (.val (.var 2) .nil)))) (.cons (.ret (.lit (.bl false))) .nil) .nil) (.cons (.set 3 (.tup (.cons (.tup (.cons (.lit .non) (.cons (.tup .nil) (.cons (.tup (.cons (.lit (.int 0)) (.cons (.lit (.int 1)) .nil))) .nil)))) (.cons (.tup (.cons (.lit (.int 0)) (.cons (.tup .nil) (.cons (.tup (.cons (.lit (.int 1)) .nil)) .nil)))) (.cons (.tup (.cons (.lit (.int 1)) (.cons (.tup .nil) (.cons (.tup (.cons (.lit (.int 0)) .nil)) .nil)))) .nil))))) (.cons (.ret (.and (.call 2 (.val (.call 3 (.val (.lit (.int 2)) (.val (.ix (.var 2) (.lit (.int 1))) .nil))) (.val (.tup (.cons (.lit (.int 2)) (.cons (.var 3) .nil))) .nil))) (.one (.call 2 (.val (.call 4 (.val (.var 0) (.val (.tup .nil) .nil))) (.val (.ix (.var 0) (.lit (.int 1))) .nil)))))) .nil)))))))
def f_law_choice_right : Fn := run (fnsG [f_pairs, f_reason, f_law_same, f_rules_of, f_violated] [f_settled]) 0 4 b_law_choice_right
def b_law_alone_right : Ss := (.cons (.unp (.cons (.nm 0) (.cons (.nm 1) .nil)) (.tup (.cons (.tup (.cons (.lit (.int 1)) (.cons (.tup (.cons (.tup (.cons (.lit (.int 0)) (.cons (.tup .nil) (.cons (.tup (.cons (.lit (.int 0)) .nil)) .nil)))) .nil)) .nil))) (.cons (.tup (.cons (.lit (.int 1)) (.cons (.tup (.cons (.tup (.cons (.lit (.int 0)) (.cons (.tup (.cons (.lit (.int 0)) .nil)) (.cons (.tup .nil) .nil)))) .nil)) .nil))) .nil)))) (.cons (.set 2 (.lst (.cons (.listg 0 (.val (.var 0) .nil)) (.cons (.call 0 (.val (.var 0) .nil)) (.cons (.call 1 (.val (.var 0) (.val (.tup (.cons (.lit (.int 0)) .nil)) .nil))) (.cons (.listg 0 (.val (.var 1) .nil)) (.cons (.call 0 (.val (.var 1) .nil)) (.cons (.call 1 (.val (.var 1) (.val (.tup (.cons (.lit (.int 0)) .nil)) .nil))) .nil)))))))) (.cons (.set 3 (.lst (.cons (.lst .nil) (.cons (.tup (.cons (.tup (.cons (.tup .nil) (.cons (.tup (.cons (.lit (.int 0)) .nil)) .nil))) (.cons (.tup (.cons (.tup (.cons (.lit (.int 0)) .nil)) (.cons (.tup (.cons (.lit (.int 0)) .nil)) .nil))) .nil))) (.cons (.tup (.cons (.lit (.str "smaller")) (.cons (.tup .nil) .nil))) (.cons (.lst (.cons (.tup .nil) .nil)) (.cons (.tup (.cons (.tup (.cons (.tup .nil) (.cons (.tup .nil) .nil))) (.cons (.tup (.cons (.tup .nil) (.cons (.tup (.cons (.lit (.int 0)) .nil)) .nil))) (.cons (.tup (.cons (.tup (.cons (.lit (.int 0)) .nil)) (.cons (.tup (.cons (.lit (.int 0)) .nil)) .nil))) .nil)))) .nil))))))) (.cons (.ret (.call 2 (.val (.var 2) (.val (.bop .add (.var 3) (.lst (.cons (.tup (.cons (.lit (.str "smaller")) (.cons (.tup .nil) .nil))) .nil))) .nil)))) .nil))))
def f_law_alone_right : Fn := run (fnsG [f_pairs, f_reason, f_law_same] [f_settled]) 0 4 b_law_alone_right
def b_law_circle_right : Ss := (.cons (.set 0 (.tup (.cons (.tup (.cons (.lit (.int 0)) (.cons (.tup (.cons (.lit (.int 1)) .nil)) (.cons (.tup .nil) .nil)))) (.cons (.tup (.cons (.lit (.int 1)) (.cons (.tup (.cons (.lit (.int 0)) .nil)) (.cons (.tup .nil) .nil)))) (.cons (.tup (.cons (.lit .non) (.cons (.tup (.cons (.lit (.int 0)) (.cons (.lit (.int 1)) .nil))) (.cons (.tup .nil) .nil)))) .nil))))) (.cons (.set 1 (.lst (.cons (.listg 0 (.val (.tup (.cons (.lit (.int 2)) (.cons (.var 0) .nil))) .nil)) (.cons (.listg 0 (.val (.tup (.cons (.lit (.int 2)) (.cons (.sl (.var 0) .no (.yes (.lit (.int 2)))) .nil))) .nil)) (.cons (.listg 0 (.val (.tup (.cons (.lit (.int 2)) (.cons (.bop .add (.var 0) (.tup (.cons (.tup (.cons (.lit (.int 0)) (.cons (.tup .nil) (.cons (.tup .nil) .nil)))) .nil))) .nil))) .nil)) .nil))))) (.cons (.set 1 (.bop .add (.var 1) (.lst (.cons (.listg 0 (.val (.tup (.cons (.lit (.int 2)) (.cons (.bop .add (.sl (.var 0) .no (.yes (.lit (.int 2)))) (.tup (.cons (.tup (.cons (.lit (.int 0)) (.cons (.tup .nil) (.cons (.tup .nil) .nil)))) .nil))) .nil))) .nil)) (.cons (.call 0 (.val (.tup (.cons (.lit (.int 2)) (.cons (.var 0) .nil))) .nil)) (.cons (.call 1 (.val (.tup (.cons (.lit (.int 2)) (.cons (.var 0) .nil))) (.val (.tup (.cons (.lit (.int 0)) .nil)) .nil))) .nil)))))) (.cons (.ret (.call 2 (.val (.var 1) (.val (.lst (.cons (.lst (.cons (.tup .nil) .nil)) (.cons (.lst (.cons (.tup .nil) .nil)) (.cons (.lst .nil) (.cons (.lst (.cons (.tup (.cons (.lit (.int 0)) (.cons (.lit (.int 1)) .nil))) .nil)) (.cons (.tup (.cons (.tup (.cons (.tup .nil) (.cons (.tup .nil) .nil))) .nil)) (.cons (.tup .nil) .nil))))))) .nil)))) .nil))))
def f_law_circle_right : Fn := run (fnsG [f_pairs, f_least, f_law_same] [f_settled]) 0 2 b_law_circle_right
def b_law_small_right_2 : Ss := (.cons (.set 0 (.tup (.cons (.lit (.int 3)) (.cons (.tup (.cons (.tup (.cons (.lit (.int 2)) (.cons (.tup (.cons (.lit (.int 0)) (.cons (.lit (.int 1)) .nil))) (.cons (.tup .nil) .nil)))) (.cons (.tup (.cons (.lit (.int 1)) (.cons (.tup (.cons (.lit (.int 0)) .nil)) (.cons (.tup .nil) .nil)))) (.cons (.tup (.cons (.lit (.int 0)) (.cons (.tup .nil) (.cons (.tup .nil) .nil)))) (.cons (.tup (.cons (.lit .non) (.cons (.tup (.cons (.lit (.int 2)) .nil)) (.cons (.tup (.cons (.lit (.int 1)) .nil)) .nil)))) .nil))))) .nil)))) (.cons (.set 1 (.lst (.cons (.listg 0 (.val (.var 0) .nil)) (.cons (.call 0 (.val (.var 0) (.val (.tup (.cons (.lit (.int 0)) (.cons (.lit (.int 1)) (.cons (.lit (.int 2)) .nil)))) .nil))) (.cons (.call 1 (.val (.var 0) (.val (.tup (.cons (.lit (.int 1)) .nil)) .nil))) (.cons (.call 2 (.val (.var 0) (.val (.tup .nil) .nil))) .nil)))))) (.cons (.set 2 (.lst (.cons (.lst (.cons (.tup (.cons (.lit (.int 0)) (.cons (.lit (.int 1)) (.cons (.lit (.int 2)) .nil)))) .nil)) (.cons (.tup (.cons (.lit (.str "settled")) (.cons (.tup (.cons (.tup (.cons (.lit (.int 0)) (.cons (.tup .nil) (.cons (.tup .nil) .nil)))) (.cons (.tup (.cons (.lit (.int 1)) (.cons (.tup (.cons (.lit (.int 0)) .nil)) (.cons (.tup .nil) .nil)))) (.cons (.tup (.cons (.lit (.int 2)) (.cons (.tup (.cons (.lit (.int 0)) (.cons (.lit (.int 1)) .nil))) (.cons (.tup .nil) .nil)))) .nil)))) .nil))) (.cons (.sl (.ix (.var 0) (.lit (.int 1))) .no (.yes (.lit (.int 3)))) (.cons (.tup (.cons (.lit (.int 0)) (.cons (.lit (.int 1)) (.cons (.lit (.int 2)) .nil)))) .nil)))))) (.cons (.ife (.not (.call 3 (.val (.var 1) (.val (.var 2) .nil)))) (.cons (.ret (.lit (.bl false))) .nil) .nil) (.cons (.set 1 (.lst (.cons (.listg 0 (.val (.tup (.cons (.lit (.int 1)) (.cons (.tup .nil) .nil))) .nil)) (.cons (.call 4 (.val (.tup (.cons (.lit (.int 1)) (.cons (.tup .nil) .nil))) .nil)) (.cons (.call 5 (.val (.lit (.int 1)) (.val (.tup .nil) .nil))) (.cons (.call 6 (.val (.lit (.int 1)) (.val (.tup (.cons (.tup (.cons (.tup .nil) (.cons (.tup .nil) .nil))) (.cons (.tup (.cons (.tup (.cons (.lit (.int 0)) .nil)) (.cons (.tup (.cons (.lit (.int 0)) .nil)) .nil))) .nil))) .nil))) .nil)))))) (.cons (.set 2 (.lst (.cons (.lst (.cons (.tup .nil) .nil)) (.cons (.tup (.cons (.tup (.cons (.tup .nil) (.cons (.tup .nil) .nil))) (.cons (.tup (.cons (.tup .nil) (.cons (.tup (.cons (.lit (.int 0)) .nil)) .nil))) (.cons (.tup (.cons (.tup (.cons (.lit (.int 0)) .nil)) (.cons (.tup (.cons (.lit (.int 0)) .nil)) .nil))) .nil)))) (.cons (.tup (.cons (.lit (.int 1)) (.cons (.tup (.cons (.tup (.cons (.lit .non) (.cons (.tup .nil) (.cons (.tup (.cons (.lit (.int 0)) .nil)) .nil)))) (.cons (.tup (.cons (.lit .non) (.cons (.tup (.cons (.lit (.int 0)) .nil)) (.cons (.tup .nil) .nil)))) .nil))) .nil))) (.cons (.lit (.bl false)) .nil)))))) (.cons (.ret (.and (.call 3 (.val (.var 1) (.val (.var 2) .nil))) (.one (.cmp .eq (.listg 0 (.val (.call 7 (.val (.lit (.int 2)) (.val (.tup (.cons (.tup (.cons (.lit (.int 0)) .nil)) (.cons (.tup (.cons (.lit (.int 1)) .nil)) .nil))) .nil))) .nil)) (.lst (.cons (.tup (.cons (.lit (.int 0)) .nil)) (.cons (.tup (.cons (.lit (.int 1)) .nil)) .nil))))))) .nil)))))))
def f_law_small_right_2 : Fn := run (fnsG [f_reason, f_remaining, f_least, f_law_same, f_pairs, f_rules_of, f_is_table, f_rules_settling] [f_settled]) 0 3 b_law_small_right_2
def b_law_right_4 : Ss := (.cons (.set 2 (.call 0 (.val (.var 0) .nil))) (.cons (.par [3, 4] (.cons (.call 1 (.val (.var 0) (.val (.var 1) .nil))) (.cons (.call 1 (.val (.var 0) (.val (.call 2 (.val (.ix (.var 0) (.lit (.int 0))) (.val (.var 2) .nil))) .nil))) .nil))) (.cons (.ife (.or (.not (.call 3 (.val (.var 4) (.val (.tup (.cons (.lit (.str "same")) (.cons (.var 2) .nil))) .nil)))) (.one (.cmp .isn (.call 4 (.val (.ix (.var 0) (.lit (.int 0))) (.val (.var 2) .nil))) (.lit (.bl true))))) (.cons (.ret (.lit (.bl false))) .nil) .nil) (.cons (.ife (.cmp .ne (.cmp .eq (.ix (.var 3) (.lit (.int 0))) (.lit (.str "same"))) (.cmp .eq (.var 2) (.call 0 (.val (.var 1) .nil)))) (.cons (.ret (.lit (.bl false))) .nil) .nil) (.cons (.ife (.cmp .eq (.ix (.var 3) (.lit (.int 0))) (.lit (.str "same"))) (.cons (.ret (.and (.call 3 (.val (.var 3) (.val (.tup (.cons (.lit (.str "same")) (.cons (.var 2) .nil))) .nil))) (.one (.cmp .eq (.listg 0 (.val (.var 0) .nil)) (.listg 0 (.val (.var 1) .nil)))))) .nil) .nil) (.cons (.ret (.cmp .eq (.ix (.var 3) (.lit (.int 0))) (.lit (.str "differ")))) .nil))))))
def f_law_right_4 : Fn := run (fnsG [f_pairs, f_compare, f_rules_of, f_law_is_equal, f_is_table] [f_settled]) 2 5 b_law_right_4
def b_law_book_for : Ss := (.cons (.seto 2 .nil) (.cons (.for_ (.nm 3) (.rng (.bop .add (.lit (.int 1)) (.call 0 (.mut 0 (.val (.lit (.int 6)) .nil))))) (.cons (.set 4 (.call 1 (.mut 0 (.val (.var 1) .nil)))) (.cons (.ife (.ino true (.var 4) 2) (.cons (.app 2 (.var 4)) .nil) .nil) .nil))) (.cons (.ret (.bi .tuple (.var 2))) .nil)))
def f_law_book_for : Fn := run (fns [f_law_draw, f_law_rule]) 2 5 b_law_book_for
def b_law_is_right_2 : Ss := (.cons (.set 3 (.tup (.cons (.var 0) (.cons (.bop .add (.var 1) (.bi .tuple (.comp (.nm 4) (.data (.var 2)) (.yes (.cmp .nin (.var 4) (.var 1))) (.var 4) [4]))) .nil)))) (.cons (.unp (.cons (.nm 5) (.cons (.nm 6) (.cons (.nm 7) .nil))) (.tup (.cons (.call 0 (.val (.tup (.cons (.var 0) (.cons (.var 1) .nil))) .nil)) (.cons (.call 0 (.val (.tup (.cons (.var 0) (.cons (.var 2) .nil))) .nil)) (.cons (.call 0 (.val (.var 3) .nil)) .nil))))) (.cons (.ife (.or (.cmp .ne (.var 7) (.bi .tuple (.comp (.nm 8) (.data (.var 5)) (.yes (.cmp .inn (.var 8) (.var 6))) (.var 8) [8]))) (.one (.cmp .ne (.call 0 (.val (.tup (.cons (.var 0) (.cons (.rev (.ix (.var 3) (.lit (.int 1)))) .nil))) .nil)) (.var 7)))) (.cons (.ret (.lit (.bl false))) .nil) .nil) (.cons (.set 9 (.comp (.tup (.cons (.nm 10) (.cons (.nm 11) .nil))) (.data (.var 7)) .no (.var 11) [10, 11])) (.cons (.set 12 (.bi .sorted (.comp (.tup (.cons (.nm 10) (.cons (.nm 11) .nil))) (.data (.var 7)) (.yes (.and (.cmp .eq (.var 10) (.var 11)) (.one (.cmp .eq (.cnt 9 (.var 11)) (.lit (.int 1)))))) (.var 11) [10, 11]))) (.cons (.ret (.cmp .eq (.listg 0 (.val (.var 3) .nil)) (.var 12))) .nil))))))
def f_law_is_right_2 : Fn := run (fnsG [f_pairs] [f_settled]) 3 13 b_law_is_right_2
end PG
namespace K23
open DR
abbrev b_is_whole : Ss := PG.b_is_whole
abbrev f_is_whole : Fn := PG.f_is_whole
abbrev b_is_tuple_of : Ss := PG.b_is_tuple_of
abbrev f_is_tuple_of : Fn := PG.f_is_tuple_of
abbrev b_is_ascending : Ss := PG.b_is_ascending
abbrev f_is_ascending : Fn := PG.f_is_ascending
abbrev b_is_atoms : Ss := PG.b_is_atoms
abbrev f_is_atoms : Fn := PG.f_is_atoms
abbrev b_is_atom : Ss := PG.b_is_atom
abbrev f_is_atom : Fn := PG.f_is_atom
abbrev b_is_set : Ss := PG.b_is_set
abbrev f_is_set : Fn := PG.f_is_set
abbrev b_has_rule_form : Ss := PG.b_has_rule_form
abbrev f_has_rule_form : Fn := PG.f_has_rule_form
abbrev b_are_rules : Ss := PG.b_are_rules
abbrev f_are_rules : Fn := PG.f_are_rules
abbrev b_is_rulebook : Ss := PG.b_is_rulebook
abbrev f_is_rulebook : Fn := PG.f_is_rulebook
abbrev b_check_atoms : Ss := PG.b_check_atoms
abbrev f_check_atoms : Fn := PG.f_check_atoms
abbrev b_check_book : Ss := PG.b_check_book
abbrev f_check_book : Fn := PG.f_check_book
abbrev b_check_set : Ss := PG.b_check_set
abbrev f_check_set : Fn := PG.f_check_set
abbrev b_check_book_and_set : Ss := PG.b_check_book_and_set
abbrev f_check_book_and_set : Fn := PG.f_check_book_and_set
abbrev b_is_within : Ss := PG.b_is_within
abbrev f_is_within : Fn := PG.f_is_within
abbrev b_remains : Ss := PG.b_remains
abbrev f_remains : Fn := PG.f_remains
abbrev b_obeys : Ss := PG.b_obeys
abbrev f_obeys : Fn := PG.f_obeys
abbrev b_violates : Ss := PG.b_violates
abbrev f_violates : Fn := PG.f_violates
abbrev b_remaining : Ss := PG.b_remaining
abbrev f_remaining : Fn := PG.f_remaining
abbrev b_violated : Ss := PG.b_violated
abbrev f_violated : Fn := PG.f_violated
abbrev b_heads_due : Ss := PG.b_heads_due
abbrev f_heads_due : Fn := PG.f_heads_due
abbrev b_least_obeying : Ss := PG.b_least_obeying
abbrev f_least_obeying : Fn := PG.f_least_obeying
abbrev b_least_at : Ss := PG.b_least_at
abbrev f_least_at : Fn := PG.f_least_at
abbrev b_least : Ss := PG.b_least
abbrev f_least : Fn := PG.f_least
abbrev b_selections : Ss := PG.b_selections
abbrev f_selections : Fn := PG.f_selections
abbrev b_all_sets : Ss := PG.b_all_sets
abbrev f_all_sets : Fn := PG.f_all_sets
abbrev b_all_pairs : Ss := PG.b_all_pairs
abbrev f_all_pairs : Fn := PG.f_all_pairs
abbrev b_is_pair : Ss := PG.b_is_pair
abbrev f_is_pair : Fn := PG.f_is_pair
abbrev b_are_pairs : Ss := PG.b_are_pairs
abbrev f_are_pairs : Fn := PG.f_are_pairs
abbrev b_fits_rule : Ss := PG.b_fits_rule
abbrev f_fits_rule : Fn := PG.f_fits_rule
abbrev b_fits_rules : Ss := PG.b_fits_rules
abbrev f_fits_rules : Fn := PG.f_fits_rules
abbrev b_pairs : Ss := PG.b_pairs
abbrev f_pairs : Fn := PG.f_pairs
abbrev b_has_tops : Ss := PG.b_has_tops
abbrev f_has_tops : Fn := PG.f_has_tops
abbrev b_has_larger : Ss := PG.b_has_larger
abbrev f_has_larger : Fn := PG.f_has_larger
abbrev b_common_part : Ss := PG.b_common_part
abbrev f_common_part : Fn := PG.f_common_part
abbrev b_has_common : Ss := PG.b_has_common
abbrev f_has_common : Fn := PG.f_has_common
abbrev b_is_closed : Ss := PG.b_is_closed
abbrev f_is_closed : Fn := PG.f_is_closed
abbrev b_is_table : Ss := PG.b_is_table
abbrev f_is_table : Fn := PG.f_is_table
abbrev b_forced_atom : Ss := PG.b_forced_atom
abbrev f_forced_atom : Fn := PG.f_forced_atom
abbrev b_rules_at : Ss := PG.b_rules_at
abbrev f_rules_at : Fn := PG.f_rules_at
abbrev b_rules_of : Ss := PG.b_rules_of
abbrev f_rules_of : Fn := PG.f_rules_of
abbrev b_settles : Ss := PG.b_settles
abbrev f_settles : Fn := PG.f_settles
abbrev b_settled_sets : Ss := PG.b_settled_sets
abbrev f_settled_sets : Fn := PG.f_settled_sets
abbrev b_settled : Ss := PG.b_settled
abbrev f_settled : Fn := PG.f_settled
abbrev b_can_follow : Ss := PG.b_can_follow
abbrev f_can_follow : Fn := PG.f_can_follow
abbrev b_first_behind : Ss := PG.b_first_behind
abbrev f_first_behind : Fn := PG.f_first_behind
abbrev b_order_taken : Ss := PG.b_order_taken
abbrev f_order_taken : Fn := PG.f_order_taken
abbrev b_reason : Ss := PG.b_reason
abbrev f_reason : Fn := PG.f_reason
abbrev b_can_be_settled : Ss := PG.b_can_be_settled
abbrev f_can_be_settled : Fn := PG.f_can_be_settled
abbrev b_rules_settling : Ss := PG.b_rules_settling
abbrev f_rules_settling : Fn := PG.f_rules_settling
abbrev b_law_same : Ss := PG.b_law_same
abbrev f_law_same : Fn := PG.f_law_same
abbrev b_law_choice_right : Ss := PG.b_law_choice_right
abbrev f_law_choice_right : Fn := PG.f_law_choice_right
abbrev b_law_alone_right : Ss := PG.b_law_alone_right
abbrev f_law_alone_right : Fn := PG.f_law_alone_right
abbrev b_law_circle_right : Ss := PG.b_law_circle_right
abbrev f_law_circle_right : Fn := PG.f_law_circle_right
abbrev b_law_small_right : Ss := PG.b_law_small_right_2
abbrev f_law_small_right : Fn := PG.f_law_small_right_2
def b_law : Ss := (.cons (.ret (.and (.call 0 .nil) (.and (.call 1 .nil) (.and (.call 2 .nil) (.one (.call 3 .nil)))))) .nil)
def f_law : Fn := run (fns [PG.f_law_choice_right, PG.f_law_alone_right, PG.f_law_circle_right, PG.f_law_small_right_2]) 1 1 b_law
end K23
namespace K23
open PySem PySem.Spec PyProof.Rows L2 DR
def top (i : Nat) : Stmt := PySem.Challenge.pw_defaultswaps_k23_whole_cases_by_hand.main.body.getD i (.Pass ⟨0, 0, 0, 0⟩)
abbrev s_is_whole : Stmt := top 10
theorem sc_is_whole : FnScope ["thing"] ["thing"] (defScope s_is_whole) := ⟨rfl, rfl, rfl, by decide +kernel, rfl, by decide +kernel, by decide +kernel⟩
theorem is_is_whole : isSs b_is_whole ⟨["thing"], defScope s_is_whole, fun _ => true, [], [], ["bool", "int", "isinstance"], []⟩ (defBody s_is_whole) = true := by decide +kernel
def d_is_whole : He.DefD := ⟨("is_whole", none), "is_whole", "is_whole", defArgs s_is_whole, defBody s_is_whole, defScope s_is_whole, [], []⟩
abbrev s_is_tuple_of : Stmt := top 11
theorem sc_is_tuple_of : FnScope ["length", "thing"] ["length", "thing"] (defScope s_is_tuple_of) := ⟨rfl, rfl, rfl, by decide +kernel, rfl, by decide +kernel, by decide +kernel⟩
theorem is_is_tuple_of : isSs b_is_tuple_of ⟨["length", "thing"], defScope s_is_tuple_of, fun _ => true, [], [], ["isinstance", "len", "tuple"], []⟩ (defBody s_is_tuple_of) = true := by decide +kernel
def d_is_tuple_of : He.DefD := ⟨("is_tuple_of", none), "is_tuple_of", "is_tuple_of", defArgs s_is_tuple_of, defBody s_is_tuple_of, defScope s_is_tuple_of, [], []⟩
abbrev s_is_ascending : Stmt := top 12
theorem sc_is_ascending : FnScope ["things", "low", "high"] ["things"] (defScope s_is_ascending) := ⟨rfl, rfl, rfl, by decide +kernel, rfl, by decide +kernel, by decide +kernel⟩
theorem is_is_ascending : isSs b_is_ascending ⟨["things", "low", "high"], defScope s_is_ascending, fun _ => true, [], [], ["all", "zip"], []⟩ (defBody s_is_ascending) = true := by decide +kernel
def d_is_ascending : He.DefD := ⟨("is_ascending", none), "is_ascending", "is_ascending", defArgs s_is_ascending, defBody s_is_ascending, defScope s_is_ascending, [], []⟩
abbrev s_is_atoms : Stmt := top 13
theorem sc_is_atoms : FnScope ["thing"] ["thing"] (defScope s_is_atoms) := ⟨rfl, rfl, rfl, by decide +kernel, rfl, by decide +kernel, by decide +kernel⟩
theorem is_is_atoms : isSs b_is_atoms ⟨["thing"], defScope s_is_atoms, fun _ => true, ["is_whole"], [("MOST_ATOMS", 4)], [], []⟩ (defBody s_is_atoms) = true := by decide +kernel
def d_is_atoms : He.DefD := ⟨("is_atoms", none), "is_atoms", "is_atoms", defArgs s_is_atoms, defBody s_is_atoms, defScope s_is_atoms, [], []⟩
abbrev s_is_atom : Stmt := top 14
theorem sc_is_atom : FnScope ["atoms", "thing"] ["atoms", "thing"] (defScope s_is_atom) := ⟨rfl, rfl, rfl, by decide +kernel, rfl, by decide +kernel, by decide +kernel⟩
theorem is_is_atom : isSs b_is_atom ⟨["atoms", "thing"], defScope s_is_atom, fun _ => true, ["is_whole"], [], [], []⟩ (defBody s_is_atom) = true := by decide +kernel
def d_is_atom : He.DefD := ⟨("is_atom", none), "is_atom", "is_atom", defArgs s_is_atom, defBody s_is_atom, defScope s_is_atom, [], []⟩
abbrev s_is_set : Stmt := top 15
theorem sc_is_set : FnScope ["atoms", "thing", "part"] ["atoms", "thing"] (defScope s_is_set) := ⟨rfl, rfl, rfl, by decide +kernel, rfl, by decide +kernel, by decide +kernel⟩
theorem is_is_set : isSs b_is_set ⟨["atoms", "thing", "part"], defScope s_is_set, fun _ => true, ["is_atom", "is_ascending"], [], ["all", "isinstance", "tuple"], []⟩ (defBody s_is_set) = true := by decide +kernel
def d_is_set : He.DefD := ⟨("is_set", none), "is_set", "is_set", defArgs s_is_set, defBody s_is_set, defScope s_is_set, [], []⟩
abbrev s_has_rule_form : Stmt := top 16
theorem sc_has_rule_form : FnScope ["atoms", "thing", "head", "holds", "fails"] ["atoms", "thing"] (defScope s_has_rule_form) := ⟨rfl, rfl, rfl, by decide +kernel, rfl, by decide +kernel, by decide +kernel⟩
theorem is_has_rule_form : isSs b_has_rule_form ⟨["atoms", "thing", "head", "holds", "fails"], defScope s_has_rule_form, fun _ => true, ["is_tuple_of", "is_atom", "is_set"], [], [], []⟩ (defBody s_has_rule_form) = true := by decide +kernel
def d_has_rule_form : He.DefD := ⟨("has_rule_form", none), "has_rule_form", "has_rule_form", defArgs s_has_rule_form, defBody s_has_rule_form, defScope s_has_rule_form, [], []⟩
abbrev s_are_rules : Stmt := top 17
theorem sc_are_rules : FnScope ["atoms", "things", "thing"] ["atoms", "things"] (defScope s_are_rules) := ⟨rfl, rfl, rfl, by decide +kernel, rfl, by decide +kernel, by decide +kernel⟩
theorem is_are_rules : isSs b_are_rules ⟨["atoms", "things", "thing"], defScope s_are_rules, fun _ => true, ["has_rule_form"], [], ["all", "len", "set"], []⟩ (defBody s_are_rules) = true := by decide +kernel
def d_are_rules : He.DefD := ⟨("are_rules", none), "are_rules", "are_rules", defArgs s_are_rules, defBody s_are_rules, defScope s_are_rules, [], []⟩
abbrev s_is_rulebook : Stmt := top 18
theorem sc_is_rulebook : FnScope ["thing", "atoms", "rules"] ["thing"] (defScope s_is_rulebook) := ⟨rfl, rfl, rfl, by decide +kernel, rfl, by decide +kernel, by decide +kernel⟩
theorem is_is_rulebook : isSs b_is_rulebook ⟨["thing", "atoms", "rules"], defScope s_is_rulebook, fun _ => true, ["is_tuple_of", "is_atoms", "are_rules"], [("MOST_RULES", 100)], ["isinstance", "len", "tuple"], []⟩ (defBody s_is_rulebook) = true := by decide +kernel
def d_is_rulebook : He.DefD := ⟨("is_rulebook", none), "is_rulebook", "is_rulebook", defArgs s_is_rulebook, defBody s_is_rulebook, defScope s_is_rulebook, [], []⟩
abbrev s_check_atoms : Stmt := top 19
theorem sc_check_atoms : FnScope ["thing"] ["thing"] (defScope s_check_atoms) := ⟨rfl, rfl, rfl, by decide +kernel, rfl, by decide +kernel, by decide +kernel⟩
theorem is_check_atoms : isSs b_check_atoms ⟨["thing"], defScope s_check_atoms, fun _ => true, ["is_atoms"], [], [], []⟩ (defBody s_check_atoms) = true := by decide +kernel
def d_check_atoms : He.DefD := ⟨("check_atoms", none), "check_atoms", "check_atoms", defArgs s_check_atoms, defBody s_check_atoms, defScope s_check_atoms, [], []⟩
abbrev s_check_book : Stmt := top 20
theorem sc_check_book : FnScope ["thing"] ["thing"] (defScope s_check_book) := ⟨rfl, rfl, rfl, by decide +kernel, rfl, by decide +kernel, by decide +kernel⟩
theorem is_check_book : isSs b_check_book ⟨["thing"], defScope s_check_book, fun _ => true, ["is_rulebook"], [], [], []⟩ (defBody s_check_book) = true := by decide +kernel
def d_check_book : He.DefD := ⟨("check_book", none), "check_book", "check_book", defArgs s_check_book, defBody s_check_book, defScope s_check_book, [], []⟩
abbrev s_check_set : Stmt := top 21
theorem sc_check_set : FnScope ["atoms", "thing"] ["atoms", "thing"] (defScope s_check_set) := ⟨rfl, rfl, rfl, by decide +kernel, rfl, by decide +kernel, by decide +kernel⟩
theorem is_check_set : isSs b_check_set ⟨["atoms", "thing"], defScope s_check_set, fun _ => true, ["is_set"], [], [], []⟩ (defBody s_check_set) = true := by decide +kernel
def d_check_set : He.DefD := ⟨("check_set", none), "check_set", "check_set", defArgs s_check_set, defBody s_check_set, defScope s_check_set, [], []⟩
abbrev s_check_book_and_set : Stmt := top 22
theorem sc_check_book_and_set : FnScope ["book", "chosen"] ["book", "chosen"] (defScope s_check_book_and_set) := ⟨rfl, rfl, rfl, by decide +kernel, rfl, by decide +kernel, by decide +kernel⟩
theorem is_check_book_and_set : isSs b_check_book_and_set ⟨["book", "chosen"], defScope s_check_book_and_set, fun _ => true, ["check_book", "check_set"], [], [], []⟩ (defBody s_check_book_and_set) = true := by decide +kernel
def d_check_book_and_set : He.DefD := ⟨("check_book_and_set", none), "check_book_and_set", "check_book_and_set", defArgs s_check_book_and_set, defBody s_check_book_and_set, defScope s_check_book_and_set, [], []⟩
abbrev s_is_within : Stmt := top 23
theorem sc_is_within : FnScope ["small", "large", "atom"] ["small", "large"] (defScope s_is_within) := ⟨rfl, rfl, rfl, by decide +kernel, rfl, by decide +kernel, by decide +kernel⟩
theorem is_is_within : isSs b_is_within ⟨["small", "large", "atom"], defScope s_is_within, fun _ => true, [], [], ["all"], []⟩ (defBody s_is_within) = true := by decide +kernel
def d_is_within : He.DefD := ⟨("is_within", none), "is_within", "is_within", defArgs s_is_within, defBody s_is_within, defScope s_is_within, [], []⟩
abbrev s_remains : Stmt := top 24
theorem sc_remains : FnScope ["rule", "chosen", "atom"] ["rule", "chosen"] (defScope s_remains) := ⟨rfl, rfl, rfl, by decide +kernel, rfl, by decide +kernel, by decide +kernel⟩
theorem is_remains : isSs b_remains ⟨["rule", "chosen", "atom"], defScope s_remains, fun _ => true, [], [], ["any"], []⟩ (defBody s_remains) = true := by decide +kernel
def d_remains : He.DefD := ⟨("remains", none), "remains", "remains", defArgs s_remains, defBody s_remains, defScope s_remains, [], []⟩
abbrev s_obeys : Stmt := top 25
theorem sc_obeys : FnScope ["chosen", "rule"] ["chosen", "rule"] (defScope s_obeys) := ⟨rfl, rfl, rfl, by decide +kernel, rfl, by decide +kernel, by decide +kernel⟩
theorem is_obeys : isSs b_obeys ⟨["chosen", "rule"], defScope s_obeys, fun _ => true, ["is_within"], [], [], []⟩ (defBody s_obeys) = true := by decide +kernel
def d_obeys : He.DefD := ⟨("obeys", none), "obeys", "obeys", defArgs s_obeys, defBody s_obeys, defScope s_obeys, [], []⟩
abbrev s_violates : Stmt := top 26
theorem sc_violates : FnScope ["chosen", "rule"] ["chosen", "rule"] (defScope s_violates) := ⟨rfl, rfl, rfl, by decide +kernel, rfl, by decide +kernel, by decide +kernel⟩
theorem is_violates : isSs b_violates ⟨["chosen", "rule"], defScope s_violates, fun _ => true, ["remains", "obeys"], [], [], []⟩ (defBody s_violates) = true := by decide +kernel
def d_violates : He.DefD := ⟨("violates", none), "violates", "violates", defArgs s_violates, defBody s_violates, defScope s_violates, [], []⟩
abbrev s_remaining : Stmt := top 27
theorem sc_remaining : FnScope ["book", "chosen", "rule"] ["book", "chosen"] (defScope s_remaining) := ⟨rfl, rfl, rfl, by decide +kernel, rfl, by decide +kernel, by decide +kernel⟩
theorem is_remaining : isSs b_remaining ⟨["book", "chosen", "rule"], defScope s_remaining, fun _ => true, ["check_book_and_set", "remains"], [], ["tuple"], []⟩ (defBody s_remaining) = true := by decide +kernel
def d_remaining : He.DefD := ⟨("remaining", none), "remaining", "remaining", defArgs s_remaining, defBody s_remaining, defScope s_remaining, [], []⟩
abbrev s_violated : Stmt := top 28
theorem sc_violated : FnScope ["book", "chosen", "rule"] ["book", "chosen"] (defScope s_violated) := ⟨rfl, rfl, rfl, by decide +kernel, rfl, by decide +kernel, by decide +kernel⟩
theorem is_violated : isSs b_violated ⟨["book", "chosen", "rule"], defScope s_violated, fun _ => true, ["check_book_and_set", "violates"], [], ["tuple"], []⟩ (defBody s_violated) = true := by decide +kernel
def d_violated : He.DefD := ⟨("violated", none), "violated", "violated", defArgs s_violated, defBody s_violated, defScope s_violated, [], []⟩
abbrev s_heads_due : Stmt := top 32
theorem sc_heads_due : FnScope ["rules", "reached", "rule"] ["rules", "reached"] (defScope s_heads_due) := ⟨rfl, rfl, rfl, by decide +kernel, rfl, by decide +kernel, by decide +kernel⟩
theorem is_heads_due : isSs b_heads_due ⟨["rules", "reached", "rule"], defScope s_heads_due, fun _ => true, ["obeys"], [], ["sorted"], []⟩ (defBody s_heads_due) = true := by decide +kernel
def d_heads_due : He.DefD := ⟨("heads_due", none), "heads_due", "heads_due", defArgs s_heads_due, defBody s_heads_due, defScope s_heads_due, [], []⟩
abbrev s_least_obeying : Stmt := top 31
theorem sc_least_obeying : FnScope ["rules", "reached", "heads"] ["rules"] (defScope s_least_obeying) := ⟨rfl, rfl, rfl, by decide +kernel, rfl, by decide +kernel, by decide +kernel⟩
theorem is_least_obeying : isSs b_least_obeying ⟨["rules", "reached", "heads"], defScope s_least_obeying, fun _ => true, ["heads_due"], [], ["sorted", "tuple"], []⟩ (defBody s_least_obeying) = true := by decide +kernel
def d_least_obeying : He.DefD := ⟨("least_obeying", none), "least_obeying", "least_obeying", defArgs s_least_obeying, defBody s_least_obeying, defScope s_least_obeying, [], []⟩
abbrev s_least_at : Stmt := top 30
theorem sc_least_at : FnScope ["rules", "chosen", "rule"] ["rules", "chosen"] (defScope s_least_at) := ⟨rfl, rfl, rfl, by decide +kernel, rfl, by decide +kernel, by decide +kernel⟩
theorem is_least_at : isSs b_least_at ⟨["rules", "chosen", "rule"], defScope s_least_at, fun _ => true, ["least_obeying", "remains"], [], [], []⟩ (defBody s_least_at) = true := by decide +kernel
def d_least_at : He.DefD := ⟨("least_at", none), "least_at", "least_at", defArgs s_least_at, defBody s_least_at, defScope s_least_at, [], []⟩
abbrev s_least : Stmt := top 29
theorem sc_least : FnScope ["book", "chosen"] ["book", "chosen"] (defScope s_least) := ⟨rfl, rfl, rfl, by decide +kernel, rfl, by decide +kernel, by decide +kernel⟩
theorem is_least : isSs b_least ⟨["book", "chosen"], defScope s_least, fun _ => true, ["check_book_and_set", "least_at"], [], [], []⟩ (defBody s_least) = true := by decide +kernel
def d_least : He.DefD := ⟨("least", none), "least", "least", defArgs s_least, defBody s_least, defScope s_least, [], []⟩
abbrev s_selections : Stmt := top 34
theorem sc_selections : FnScope ["things", "found", "thing", "chosen"] ["things"] (defScope s_selections) := ⟨rfl, rfl, rfl, by decide +kernel, rfl, by decide +kernel, by decide +kernel⟩
theorem is_selections : isSs b_selections ⟨["things", "found", "thing", "chosen"], defScope s_selections, fun _ => true, [], [], ["sorted"], []⟩ (defBody s_selections) = true := by decide +kernel
def d_selections : He.DefD := ⟨("selections", none), "selections", "selections", defArgs s_selections, defBody s_selections, defScope s_selections, [], []⟩
abbrev s_all_sets : Stmt := top 35
theorem sc_all_sets : FnScope ["atoms"] ["atoms"] (defScope s_all_sets) := ⟨rfl, rfl, rfl, by decide +kernel, rfl, by decide +kernel, by decide +kernel⟩
theorem is_all_sets : isSs b_all_sets ⟨["atoms"], defScope s_all_sets, fun _ => true, ["selections"], [], ["range", "tuple"], []⟩ (defBody s_all_sets) = true := by decide +kernel
def d_all_sets : He.DefD := ⟨("all_sets", none), "all_sets", "all_sets", defArgs s_all_sets, defBody s_all_sets, defScope s_all_sets, [], []⟩
abbrev s_all_pairs : Stmt := top 36
theorem sc_all_pairs : FnScope ["atoms", "large", "small"] ["atoms"] (defScope s_all_pairs) := ⟨rfl, rfl, rfl, by decide +kernel, rfl, by decide +kernel, by decide +kernel⟩
theorem is_all_pairs : isSs b_all_pairs ⟨["atoms", "large", "small"], defScope s_all_pairs, fun _ => true, ["all_sets", "selections"], [], ["sorted"], []⟩ (defBody s_all_pairs) = true := by decide +kernel
def d_all_pairs : He.DefD := ⟨("all_pairs", none), "all_pairs", "all_pairs", defArgs s_all_pairs, defBody s_all_pairs, defScope s_all_pairs, [], []⟩
abbrev s_is_pair : Stmt := top 37
theorem sc_is_pair : FnScope ["atoms", "thing", "small", "large"] ["atoms", "thing"] (defScope s_is_pair) := ⟨rfl, rfl, rfl, by decide +kernel, rfl, by decide +kernel, by decide +kernel⟩
theorem is_is_pair : isSs b_is_pair ⟨["atoms", "thing", "small", "large"], defScope s_is_pair, fun _ => true, ["is_tuple_of", "is_set", "is_within"], [], [], []⟩ (defBody s_is_pair) = true := by decide +kernel
def d_is_pair : He.DefD := ⟨("is_pair", none), "is_pair", "is_pair", defArgs s_is_pair, defBody s_is_pair, defScope s_is_pair, [], []⟩
abbrev s_are_pairs : Stmt := top 38
theorem sc_are_pairs : FnScope ["atoms", "thing", "part"] ["atoms", "thing"] (defScope s_are_pairs) := ⟨rfl, rfl, rfl, by decide +kernel, rfl, by decide +kernel, by decide +kernel⟩
theorem is_are_pairs : isSs b_are_pairs ⟨["atoms", "thing", "part"], defScope s_are_pairs, fun _ => true, ["is_pair"], [], ["all", "isinstance", "tuple"], []⟩ (defBody s_are_pairs) = true := by decide +kernel
def d_are_pairs : He.DefD := ⟨("are_pairs", none), "are_pairs", "are_pairs", defArgs s_are_pairs, defBody s_are_pairs, defScope s_are_pairs, [], []⟩
abbrev s_fits_rule : Stmt := top 39
theorem sc_fits_rule : FnScope ["pair", "rule", "small", "large"] ["pair", "rule"] (defScope s_fits_rule) := ⟨rfl, rfl, rfl, by decide +kernel, rfl, by decide +kernel, by decide +kernel⟩
theorem is_fits_rule : isSs b_fits_rule ⟨["pair", "rule", "small", "large"], defScope s_fits_rule, fun _ => true, ["remains", "obeys"], [], [], []⟩ (defBody s_fits_rule) = true := by decide +kernel
def d_fits_rule : He.DefD := ⟨("fits_rule", none), "fits_rule", "fits_rule", defArgs s_fits_rule, defBody s_fits_rule, defScope s_fits_rule, [], []⟩
abbrev s_fits_rules : Stmt := top 40
theorem sc_fits_rules : FnScope ["pair", "rules", "rule"] ["pair", "rules"] (defScope s_fits_rules) := ⟨rfl, rfl, rfl, by decide +kernel, rfl, by decide +kernel, by decide +kernel⟩
theorem is_fits_rules : isSs b_fits_rules ⟨["pair", "rules", "rule"], defScope s_fits_rules, fun _ => true, ["fits_rule"], [], ["all"], []⟩ (defBody s_fits_rules) = true := by decide +kernel
def d_fits_rules : He.DefD := ⟨("fits_rules", none), "fits_rules", "fits_rules", defArgs s_fits_rules, defBody s_fits_rules, defScope s_fits_rules, [], []⟩
abbrev s_pairs : Stmt := top 41
theorem sc_pairs : FnScope ["book", "atoms", "rules", "pair"] ["book"] (defScope s_pairs) := ⟨rfl, rfl, rfl, by decide +kernel, rfl, by decide +kernel, by decide +kernel⟩
theorem is_pairs : isSs b_pairs ⟨["book", "atoms", "rules", "pair"], defScope s_pairs, fun _ => true, ["check_book", "all_pairs", "fits_rules"], [], ["tuple"], []⟩ (defBody s_pairs) = true := by decide +kernel
def d_pairs : He.DefD := ⟨("pairs", none), "pairs", "pairs", defArgs s_pairs, defBody s_pairs, defScope s_pairs, [], []⟩
abbrev s_has_tops : Stmt := top 44
theorem sc_has_tops : FnScope ["found", "small", "large"] ["found"] (defScope s_has_tops) := ⟨rfl, rfl, rfl, by decide +kernel, rfl, by decide +kernel, by decide +kernel⟩
theorem is_has_tops : isSs b_has_tops ⟨["found", "small", "large"], defScope s_has_tops, fun _ => true, [], [], ["all"], []⟩ (defBody s_has_tops) = true := by decide +kernel
def d_has_tops : He.DefD := ⟨("has_tops", none), "has_tops", "has_tops", defArgs s_has_tops, defBody s_has_tops, defScope s_has_tops, [], []⟩
abbrev s_has_larger : Stmt := top 45
theorem sc_has_larger : FnScope ["found", "tops", "small", "large", "top"] ["found"] (defScope s_has_larger) := ⟨rfl, rfl, rfl, by decide +kernel, rfl, by decide +kernel, by decide +kernel⟩
theorem is_has_larger : isSs b_has_larger ⟨["found", "tops", "small", "large", "top"], defScope s_has_larger, fun _ => true, ["is_within"], [], ["all"], []⟩ (defBody s_has_larger) = true := by decide +kernel
def d_has_larger : He.DefD := ⟨("has_larger", none), "has_larger", "has_larger", defArgs s_has_larger, defBody s_has_larger, defScope s_has_larger, [], []⟩
abbrev s_common_part : Stmt := top 47
theorem sc_common_part : FnScope ["one", "other", "atom"] ["one", "other"] (defScope s_common_part) := ⟨rfl, rfl, rfl, by decide +kernel, rfl, by decide +kernel, by decide +kernel⟩
theorem is_common_part : isSs b_common_part ⟨["one", "other", "atom"], defScope s_common_part, fun _ => true, [], [], ["tuple"], []⟩ (defBody s_common_part) = true := by decide +kernel
def d_common_part : He.DefD := ⟨("common_part", none), "common_part", "common_part", defArgs s_common_part, defBody s_common_part, defScope s_common_part, [], []⟩
abbrev s_has_common : Stmt := top 46
theorem sc_has_common : FnScope ["found", "one", "large", "other", "top"] ["found"] (defScope s_has_common) := ⟨rfl, rfl, rfl, by decide +kernel, rfl, by decide +kernel, by decide +kernel⟩
theorem is_has_common : isSs b_has_common ⟨["found", "one", "large", "other", "top"], defScope s_has_common, fun _ => true, ["common_part"], [], ["all"], []⟩ (defBody s_has_common) = true := by decide +kernel
def d_has_common : He.DefD := ⟨("has_common", none), "has_common", "has_common", defArgs s_has_common, defBody s_has_common, defScope s_has_common, [], []⟩
abbrev s_is_closed : Stmt := top 43
theorem sc_is_closed : FnScope ["found"] ["found"] (defScope s_is_closed) := ⟨rfl, rfl, rfl, by decide +kernel, rfl, by decide +kernel, by decide +kernel⟩
theorem is_is_closed : isSs b_is_closed ⟨["found"], defScope s_is_closed, fun _ => true, ["has_tops", "has_larger", "has_common"], [], [], []⟩ (defBody s_is_closed) = true := by decide +kernel
def d_is_closed : He.DefD := ⟨("is_closed", none), "is_closed", "is_closed", defArgs s_is_closed, defBody s_is_closed, defScope s_is_closed, [], []⟩
abbrev s_is_table : Stmt := top 42
theorem sc_is_table : FnScope ["atoms", "thing"] ["atoms", "thing"] (defScope s_is_table) := ⟨rfl, rfl, rfl, by decide +kernel, rfl, by decide +kernel, by decide +kernel⟩
theorem is_is_table : isSs b_is_table ⟨["atoms", "thing"], defScope s_is_table, fun _ => true, ["check_atoms", "are_pairs", "is_ascending", "is_closed"], [], [], []⟩ (defBody s_is_table) = true := by decide +kernel
def d_is_table : He.DefD := ⟨("is_table", none), "is_table", "is_table", defArgs s_is_table, defBody s_is_table, defScope s_is_table, [], []⟩
abbrev s_forced_atom : Stmt := top 50
theorem sc_forced_atom : FnScope ["table", "small", "large", "above", "wide", "top", "atom", "part"] ["table", "small", "large"] (defScope s_forced_atom) := ⟨rfl, rfl, rfl, by decide +kernel, rfl, by decide +kernel, by decide +kernel⟩
theorem is_forced_atom : isSs b_forced_atom ⟨["table", "small", "large", "above", "wide", "top", "atom", "part"], defScope s_forced_atom, fun _ => true, ["is_within"], [], ["all", "min"], []⟩ (defBody s_forced_atom) = true := by decide +kernel
def d_forced_atom : He.DefD := ⟨("forced_atom", none), "forced_atom", "forced_atom", defArgs s_forced_atom, defBody s_forced_atom, defScope s_forced_atom, [], []⟩
abbrev s_rules_at : Stmt := top 49
theorem sc_rules_at : FnScope ["atoms", "table", "large", "others", "atom", "small"] ["atoms", "table", "large"] (defScope s_rules_at) := ⟨rfl, rfl, rfl, by decide +kernel, rfl, by decide +kernel, by decide +kernel⟩
theorem is_rules_at : isSs b_rules_at ⟨["atoms", "table", "large", "others", "atom", "small"], defScope s_rules_at, fun _ => true, ["selections", "forced_atom"], [], ["range", "tuple"], []⟩ (defBody s_rules_at) = true := by decide +kernel
def d_rules_at : He.DefD := ⟨("rules_at", none), "rules_at", "rules_at", defArgs s_rules_at, defBody s_rules_at, defScope s_rules_at, [], []⟩
abbrev s_rules_of : Stmt := top 48
theorem sc_rules_of : FnScope ["atoms", "table", "rules", "large"] ["atoms", "table"] (defScope s_rules_of) := ⟨rfl, rfl, rfl, by decide +kernel, rfl, by decide +kernel, by decide +kernel⟩
theorem is_rules_of : isSs b_rules_of ⟨["atoms", "table", "rules", "large"], defScope s_rules_of, fun _ => true, ["is_table", "all_sets", "rules_at"], [], ["tuple"], []⟩ (defBody s_rules_of) = true := by decide +kernel
def d_rules_of : He.DefD := ⟨("rules_of", none), "rules_of", "rules_of", defArgs s_rules_of, defBody s_rules_of, defScope s_rules_of, [], []⟩
abbrev s_settles : Stmt := top 52
theorem sc_settles : FnScope ["rules", "chosen", "rule"] ["rules", "chosen"] (defScope s_settles) := ⟨rfl, rfl, rfl, by decide +kernel, rfl, by decide +kernel, by decide +kernel⟩
theorem is_settles : isSs b_settles ⟨["rules", "chosen", "rule"], defScope s_settles, fun _ => true, ["violates", "least_at"], [], ["any"], []⟩ (defBody s_settles) = true := by decide +kernel
def d_settles : He.DefD := ⟨("settles", none), "settles", "settles", defArgs s_settles, defBody s_settles, defScope s_settles, [], []⟩
abbrev s_settled_sets : Stmt := top 53
theorem sc_settled_sets : FnScope ["atoms", "rules", "chosen"] ["atoms", "rules"] (defScope s_settled_sets) := ⟨rfl, rfl, rfl, by decide +kernel, rfl, by decide +kernel, by decide +kernel⟩
theorem is_settled_sets : isSs b_settled_sets ⟨["atoms", "rules", "chosen"], defScope s_settled_sets, fun _ => true, ["all_sets", "settles"], [], ["tuple"], []⟩ (defBody s_settled_sets) = true := by decide +kernel
def d_settled_sets : He.DefD := ⟨("settled_sets", none), "settled_sets", "settled_sets", defArgs s_settled_sets, defBody s_settled_sets, defScope s_settled_sets, [], []⟩
abbrev s_settled : Stmt := top 54
theorem sc_settled : L2.GScope ["book", "atoms", "rules"] ["book"] (defScope s_settled) := ⟨rfl, rfl, rfl, by decide +kernel, rfl, by decide +kernel, by decide +kernel⟩
theorem is_settled : isGs b_settled ⟨["book", "atoms", "rules"], defScope s_settled, fun _ => true, ["check_book", "settled_sets"], [], [], []⟩ (defBody s_settled) = true := by decide +kernel
def d_settled : He.DefD := ⟨("settled", none), "settled", "settled", defArgs s_settled, defBody s_settled, defScope s_settled, [], []⟩
abbrev s_can_follow : Stmt := top 58
theorem sc_can_follow : FnScope ["heads", "rule"] ["heads", "rule"] (defScope s_can_follow) := ⟨rfl, rfl, rfl, by decide +kernel, rfl, by decide +kernel, by decide +kernel⟩
theorem is_can_follow : isSs b_can_follow ⟨["heads", "rule"], defScope s_can_follow, fun _ => true, ["is_within"], [], [], []⟩ (defBody s_can_follow) = true := by decide +kernel
def d_can_follow : He.DefD := ⟨("can_follow", none), "can_follow", "can_follow", defArgs s_can_follow, defBody s_can_follow, defScope s_can_follow, [], []⟩
abbrev s_first_behind : Stmt := top 57
theorem sc_first_behind : FnScope ["order", "rules", "heads", "rule", "following"] ["order", "rules"] (defScope s_first_behind) := ⟨rfl, rfl, rfl, by decide +kernel, rfl, by decide +kernel, by decide +kernel⟩
theorem is_first_behind : isSs b_first_behind ⟨["order", "rules", "heads", "rule", "following"], defScope s_first_behind, fun _ => true, ["can_follow"], [], [], []⟩ (defBody s_first_behind) = true := by decide +kernel
def d_first_behind : He.DefD := ⟨("first_behind", none), "first_behind", "first_behind", defArgs s_first_behind, defBody s_first_behind, defScope s_first_behind, [], []⟩
abbrev s_order_taken : Stmt := top 56
theorem sc_order_taken : FnScope ["rules", "chosen", "left", "rule", "order"] ["rules", "chosen"] (defScope s_order_taken) := ⟨rfl, rfl, rfl, by decide +kernel, rfl, by decide +kernel, by decide +kernel⟩
theorem is_order_taken : isSs b_order_taken ⟨["rules", "chosen", "left", "rule", "order"], defScope s_order_taken, fun _ => true, ["remains", "first_behind"], [], ["len"], []⟩ (defBody s_order_taken) = true := by decide +kernel
def d_order_taken : He.DefD := ⟨("order_taken", none), "order_taken", "order_taken", defArgs s_order_taken, defBody s_order_taken, defScope s_order_taken, [], []⟩
abbrev s_reason : Stmt := top 55
theorem sc_reason : FnScope ["book", "chosen", "broken", "lowest"] ["book", "chosen"] (defScope s_reason) := ⟨rfl, rfl, rfl, by decide +kernel, rfl, by decide +kernel, by decide +kernel⟩
theorem is_reason : isSs b_reason ⟨["book", "chosen", "broken", "lowest"], defScope s_reason, fun _ => true, ["violated", "least", "order_taken"], [], [], []⟩ (defBody s_reason) = true := by decide +kernel
def d_reason : He.DefD := ⟨("reason", none), "reason", "reason", defArgs s_reason, defBody s_reason, defScope s_reason, [], []⟩
abbrev s_can_be_settled : Stmt := top 60
theorem sc_can_be_settled : FnScope ["atoms", "thing", "part", "small", "large"] ["atoms", "thing"] (defScope s_can_be_settled) := ⟨rfl, rfl, rfl, by decide +kernel, rfl, by decide +kernel, by decide +kernel⟩
theorem is_can_be_settled : isSs b_can_be_settled ⟨["atoms", "thing", "part", "small", "large"], defScope s_can_be_settled, fun _ => true, ["is_set", "is_ascending", "is_within"], [], ["all", "any", "isinstance", "tuple"], []⟩ (defBody s_can_be_settled) = true := by decide +kernel
def d_can_be_settled : He.DefD := ⟨("can_be_settled", none), "can_be_settled", "can_be_settled", defArgs s_can_be_settled, defBody s_can_be_settled, defScope s_can_be_settled, [], []⟩
abbrev s_rules_settling : Stmt := top 59
theorem sc_rules_settling : FnScope ["atoms", "sets", "chosen"] ["atoms", "sets"] (defScope s_rules_settling) := ⟨rfl, rfl, rfl, by decide +kernel, rfl, by decide +kernel, by decide +kernel⟩
theorem is_rules_settling : isSs b_rules_settling ⟨["atoms", "sets", "chosen"], defScope s_rules_settling, fun _ => true, ["check_atoms", "can_be_settled", "rules_of"], [], ["tuple"], []⟩ (defBody s_rules_settling) = true := by decide +kernel
def d_rules_settling : He.DefD := ⟨("rules_settling", none), "rules_settling", "rules_settling", defArgs s_rules_settling, defBody s_rules_settling, defScope s_rules_settling, [], []⟩
abbrev s_law_same : Stmt := top 62
theorem sc_law_same : FnScope ["_law_found", "_law_due"] ["_law_found", "_law_due"] (defScope s_law_same) := ⟨rfl, rfl, rfl, by decide +kernel, rfl, by decide +kernel, by decide +kernel⟩
theorem is_law_same : isSs b_law_same ⟨["_law_found", "_law_due"], defScope s_law_same, fun _ => true, [], [], ["repr"], []⟩ (defBody s_law_same) = true := by decide +kernel
def d_law_same : He.DefD := ⟨("_law_same", none), "_law_same", "_law_same", defArgs s_law_same, defBody s_law_same, defScope s_law_same, [], []⟩
abbrev s_law_choice_right : Stmt := top 63
theorem sc_law_choice_right : FnScope ["_law_book", "_law_told", "_law_due", "_law_rows"] [] (defScope s_law_choice_right) := ⟨rfl, rfl, rfl, by decide +kernel, rfl, by decide +kernel, by decide +kernel⟩
theorem is_law_choice_right : isSs b_law_choice_right ⟨["_law_book", "_law_told", "_law_due", "_law_rows"], defScope s_law_choice_right, fun _ => true, ["pairs", "reason", "_law_same", "rules_of", "violated"], [], ["list"], ["settled"]⟩ (defBody s_law_choice_right) = true := by decide +kernel
def d_law_choice_right : He.DefD := ⟨("_law_choice_right", none), "_law_choice_right", "_law_choice_right", defArgs s_law_choice_right, defBody s_law_choice_right, defScope s_law_choice_right, [], []⟩
abbrev s_law_alone_right : Stmt := top 64
theorem sc_law_alone_right : FnScope ["_law_odd", "_law_calm", "_law_told", "_law_due"] [] (defScope s_law_alone_right) := ⟨rfl, rfl, rfl, by decide +kernel, rfl, by decide +kernel, by decide +kernel⟩
theorem is_law_alone_right : isSs b_law_alone_right ⟨["_law_odd", "_law_calm", "_law_told", "_law_due"], defScope s_law_alone_right, fun _ => true, ["pairs", "reason", "_law_same"], [], ["list"], ["settled"]⟩ (defBody s_law_alone_right) = true := by decide +kernel
def d_law_alone_right : He.DefD := ⟨("_law_alone_right", none), "_law_alone_right", "_law_alone_right", defArgs s_law_alone_right, defBody s_law_alone_right, defScope s_law_alone_right, [], []⟩
abbrev s_law_circle_right : Stmt := top 65
theorem sc_law_circle_right : FnScope ["_law_rows", "_law_told"] [] (defScope s_law_circle_right) := ⟨rfl, rfl, rfl, by decide +kernel, rfl, by decide +kernel, by decide +kernel⟩
theorem is_law_circle_right : isSs b_law_circle_right ⟨["_law_rows", "_law_told"], defScope s_law_circle_right, fun _ => true, ["pairs", "least", "_law_same"], [], ["list"], ["settled"]⟩ (defBody s_law_circle_right) = true := by decide +kernel
def d_law_circle_right : He.DefD := ⟨("_law_circle_right", none), "_law_circle_right", "_law_circle_right", defArgs s_law_circle_right, defBody s_law_circle_right, defScope s_law_circle_right, [], []⟩
abbrev s_law_small_right : Stmt := top 66
theorem sc_law_small_right : FnScope ["_law_book", "_law_told", "_law_due"] [] (defScope s_law_small_right) := ⟨rfl, rfl, rfl, by decide +kernel, rfl, by decide +kernel, by decide +kernel⟩
theorem is_law_small_right : isSs b_law_small_right ⟨["_law_book", "_law_told", "_law_due"], defScope s_law_small_right, fun _ => true, ["reason", "remaining", "least", "_law_same", "pairs", "rules_of", "is_table", "rules_settling"], [], ["list"], ["settled"]⟩ (defBody s_law_small_right) = true := by decide +kernel
def d_law_small_right : He.DefD := ⟨("_law_small_right", none), "_law_small_right", "_law_small_right", defArgs s_law_small_right, defBody s_law_small_right, defScope s_law_small_right, [], []⟩
abbrev s_law : Stmt := top 67
theorem sc_law : FnScope ["_law_script"] ["_law_script"] (defScope s_law) := ⟨rfl, rfl, rfl, by decide +kernel, rfl, by decide +kernel, by decide +kernel⟩
theorem is_law : isSs b_law ⟨["_law_script"], defScope s_law, fun _ => true, ["_law_choice_right", "_law_alone_right", "_law_circle_right", "_law_small_right"], [], [], []⟩ (defBody s_law) = true := by decide +kernel
def d_law : He.DefD := ⟨("law", none), "law", "law", defArgs s_law, defBody s_law, defScope s_law, [], []⟩
def fn0 : List He.DefD := [d_is_whole, d_is_tuple_of, d_is_ascending, d_is_atoms, d_is_atom, d_is_set, d_has_rule_form, d_are_rules, d_is_rulebook, d_check_atoms, d_check_book, d_check_set, d_check_book_and_set, d_is_within, d_remains, d_obeys, d_violates, d_remaining, d_violated, d_heads_due, d_least_obeying, d_least_at, d_least, d_selections, d_all_sets, d_all_pairs, d_is_pair, d_are_pairs, d_fits_rule, d_fits_rules]
def fn1 : List He.DefD := [d_pairs, d_has_tops, d_has_larger, d_common_part, d_has_common, d_is_closed, d_is_table, d_forced_atom, d_rules_at, d_rules_of, d_settles, d_settled_sets, d_settled, d_can_follow, d_first_behind, d_order_taken, d_reason, d_can_be_settled, d_rules_settling, d_law_same, d_law_choice_right, d_law_alone_right, d_law_circle_right, d_law_small_right, d_law]
def fn : List He.DefD := fn0 ++ fn1
def fa0 : List He.Fa := [.glo "is_whole", .glo "is_tuple_of", .glo "is_ascending", .glo "is_atoms", .glo "is_atom", .glo "is_set", .glo "has_rule_form", .glo "are_rules", .glo "is_rulebook", .glo "check_atoms", .glo "check_book", .glo "check_set", .glo "check_book_and_set", .glo "is_within", .glo "remains", .glo "obeys", .glo "violates", .glo "remaining", .glo "violated", .glo "heads_due", .glo "least_obeying", .glo "least_at", .glo "least", .glo "selections", .glo "all_sets", .glo "all_pairs", .glo "is_pair", .glo "are_pairs", .glo "fits_rule", .glo "fits_rules"]
def fa1 : List He.Fa := [.glo "pairs", .glo "has_tops", .glo "has_larger", .glo "common_part", .glo "has_common", .glo "is_closed", .glo "is_table", .glo "forced_atom", .glo "rules_at", .glo "rules_of", .glo "settles", .glo "settled_sets", .glo "settled", .glo "can_follow", .glo "first_behind", .glo "order_taken", .glo "reason", .glo "can_be_settled", .glo "rules_settling", .glo "_law_same", .glo "_law_choice_right", .glo "_law_alone_right", .glo "_law_circle_right", .glo "_law_small_right", .glo "law", .free "all", .free "any", .free "bool", .free "int", .free "isinstance"]
def fa2 : List He.Fa := [.free "len", .free "list", .free "min", .free "range", .free "repr", .free "set", .free "sorted", .free "tuple", .free "zip", .int "MOST_ATOMS" 4, .int "MOST_RULES" 100]
def fa : List He.Fa := fa0 ++ fa1 ++ fa2
def names0 : List PySem.Str := ["SwapError", "AtomsError", "BookError", "SetError", "SetsError", "TableError", "MOST_ATOMS", "MOST_RULES", "is_whole", "is_tuple_of", "is_ascending", "is_atoms", "is_atom", "is_set", "has_rule_form", "are_rules", "is_rulebook", "check_atoms", "check_book", "check_set", "check_book_and_set", "is_within", "remains", "obeys", "violates", "remaining", "violated", "least", "least_at", "least_obeying"]
def names1 : List PySem.Str := ["heads_due", "selections", "all_sets", "all_pairs", "is_pair", "are_pairs", "fits_rule", "fits_rules", "pairs", "is_table", "is_closed", "has_tops", "has_larger", "has_common", "common_part", "rules_of", "rules_at", "forced_atom", "settles", "settled_sets", "settled", "reason", "order_taken", "first_behind", "can_follow", "rules_settling", "can_be_settled", "_law_same", "_law_choice_right", "_law_alone_right"]
def names2 : List PySem.Str := ["_law_circle_right", "_law_small_right"]
def names : List PySem.Str := names0 ++ names1 ++ names2
abbrev R : PySem.W.OpenRow := PySem.W.OpenLaw.row PySem.Challenge.rw_defaultswaps_k23_whole_cases_by_hand
abbrev hk : PySem.W.Hook := He.hookD 4 fa fn
def ob (s : PySem.W.SharedT) : He.AlD := He.obsDG 4 fa fn (HandSHeadRun.getT s)
theorem ob_eq (s : PySem.W.SharedT) : ob s = hk.obs s.abs := He.obsDG_eq (HandSHeadRun.getT_eq s)
theorem run_top (w : World) : HandSHeadRun.RunEq R (PySem.W.view R.prog [67]) hk ob 4000 names w := by
  intro os
  kernel_rfl
section
variable {P : Program} {w : World} {K : PySem.W.Frag} {h : Heap} {mg : Str → Option Value}
theorem glo_at (i : Nat) {x : Str} (X : K.In h) (G : h.Ns mainGlobals mg) (c : He.SaysD fa fn K) (e : fa[i]? = some (.glo x)) : mg x = some (.ref (He.ga K x)) := He.glo_ok X G (c.fact i e)
theorem free_at (i : Nat) {x : Str} (X : K.In h) (G : h.Ns mainGlobals mg) (c : He.SaysD fa fn K) (e : fa[i]? = some (.free x)) : mg x = none := He.free_ok X G (c.fact i e)
theorem int_at (i : Nat) {x : Str} {z : Int} (X : K.In h) (G : h.Ns mainGlobals mg) (c : He.SaysD fa fn K) (e : fa[i]? = some (.int x z)) : ∃ u, mg x = some u ∧ RelV (.int z) u := by
  obtain ⟨t, q⟩ := He.int_ok X G (c.fact i e)
  exact ⟨_, q, ⟨t, rfl⟩⟩
theorem ok_is_whole {base : Heap} (X : K.In h) (G : h.Ns mainGlobals mg) (c : He.SaysD fa fn K)  : Ok false P w K mg base 1 "is_whole" f_is_whole := by
  obtain ⟨fd, F⟩ := c.def_ 0 (d := d_is_whole) rfl
  have bd : Binds K fd ["thing"] [] := F.bindsN fun _ _ _ _ _ _ us hl => match us, hl with | [_], _ => rfl
  exact Ok.of (k := 0) F (glo_at 0 X G c rfl) bd sc_is_whole is_is_whole (fun b m => by
    simp only [List.mem_cons, List.not_mem_nil, or_false] at m
    rcases m with rfl | rfl | rfl
    · exact free_at 57 X G c rfl
    · exact free_at 58 X G c rfl
    · exact free_at 59 X G c rfl) (fun b m => nomatch m) (by decide +kernel) .nil
theorem ok_is_tuple_of {base : Heap} (X : K.In h) (G : h.Ns mainGlobals mg) (c : He.SaysD fa fn K)  : Ok false P w K mg base 1 "is_tuple_of" f_is_tuple_of := by
  obtain ⟨fd, F⟩ := c.def_ 1 (d := d_is_tuple_of) rfl
  have bd : Binds K fd ["length", "thing"] [] := F.bindsN fun _ _ _ _ _ _ us hl => match us, hl with | [_, _], _ => rfl
  exact Ok.of (k := 0) F (glo_at 1 X G c rfl) bd sc_is_tuple_of is_is_tuple_of (fun b m => by
    simp only [List.mem_cons, List.not_mem_nil, or_false] at m
    rcases m with rfl | rfl | rfl
    · exact free_at 59 X G c rfl
    · exact free_at 60 X G c rfl
    · exact free_at 67 X G c rfl) (fun b m => nomatch m) (by decide +kernel) .nil
theorem ok_is_ascending {base : Heap} (X : K.In h) (G : h.Ns mainGlobals mg) (c : He.SaysD fa fn K)  : Ok false P w K mg base 1 "is_ascending" f_is_ascending := by
  obtain ⟨fd, F⟩ := c.def_ 2 (d := d_is_ascending) rfl
  have bd : Binds K fd ["things"] [] := F.bindsN fun _ _ _ _ _ _ us hl => match us, hl with | [_], _ => rfl
  exact Ok.of (k := 0) F (glo_at 2 X G c rfl) bd sc_is_ascending is_is_ascending (fun b m => by
    simp only [List.mem_cons, List.not_mem_nil, or_false] at m
    rcases m with rfl | rfl
    · exact free_at 55 X G c rfl
    · exact free_at 68 X G c rfl) (fun b m => nomatch m) (by decide +kernel) .nil
theorem ok_is_atoms {base : Heap} (X : K.In h) (G : h.Ns mainGlobals mg) (c : He.SaysD fa fn K) (g_is_whole : Ok false P w K mg base 1 "is_whole" f_is_whole) : Ok false P w K mg base 2 "is_atoms" f_is_atoms := by
  obtain ⟨fd, F⟩ := c.def_ 3 (d := d_is_atoms) rfl
  have bd : Binds K fd ["thing"] [] := F.bindsN fun _ _ _ _ _ _ us hl => match us, hl with | [_], _ => rfl
  exact Ok.of (k := 1) F (glo_at 3 X G c rfl) bd sc_is_atoms is_is_atoms (fun b m => nomatch m) (fun b m => by
    simp only [List.mem_cons, List.not_mem_nil, or_false] at m
    subst m
    exact int_at 69 X G c rfl) (by decide +kernel) (.cons g_is_whole (by decide) .nil)
theorem ok_is_atom {base : Heap} (X : K.In h) (G : h.Ns mainGlobals mg) (c : He.SaysD fa fn K) (g_is_whole : Ok false P w K mg base 1 "is_whole" f_is_whole) : Ok false P w K mg base 2 "is_atom" f_is_atom := by
  obtain ⟨fd, F⟩ := c.def_ 4 (d := d_is_atom) rfl
  have bd : Binds K fd ["atoms", "thing"] [] := F.bindsN fun _ _ _ _ _ _ us hl => match us, hl with | [_, _], _ => rfl
  exact Ok.of (k := 1) F (glo_at 4 X G c rfl) bd sc_is_atom is_is_atom (fun b m => nomatch m) (fun b m => nomatch m) (by decide +kernel) (.cons g_is_whole (by decide) .nil)
theorem ok_is_set {base : Heap} (X : K.In h) (G : h.Ns mainGlobals mg) (c : He.SaysD fa fn K) (g_is_atom : Ok false P w K mg base 2 "is_atom" f_is_atom) (g_is_ascending : Ok false P w K mg base 1 "is_ascending" f_is_ascending) : Ok false P w K mg base 3 "is_set" f_is_set := by
  obtain ⟨fd, F⟩ := c.def_ 5 (d := d_is_set) rfl
  have bd : Binds K fd ["atoms", "thing"] [] := F.bindsN fun _ _ _ _ _ _ us hl => match us, hl with | [_, _], _ => rfl
  exact Ok.of (k := 2) F (glo_at 5 X G c rfl) bd sc_is_set is_is_set (fun b m => by
    simp only [List.mem_cons, List.not_mem_nil, or_false] at m
    rcases m with rfl | rfl | rfl
    · exact free_at 55 X G c rfl
    · exact free_at 59 X G c rfl
    · exact free_at 67 X G c rfl) (fun b m => nomatch m) (by decide +kernel) (.cons g_is_atom (by decide) (.cons g_is_ascending (by decide) .nil))
theorem ok_has_rule_form {base : Heap} (X : K.In h) (G : h.Ns mainGlobals mg) (c : He.SaysD fa fn K) (g_is_tuple_of : Ok false P w K mg base 1 "is_tuple_of" f_is_tuple_of) (g_is_atom : Ok false P w K mg base 2 "is_atom" f_is_atom) (g_is_set : Ok false P w K mg base 3 "is_set" f_is_set) : Ok false P w K mg base 4 "has_rule_form" f_has_rule_form := by
  obtain ⟨fd, F⟩ := c.def_ 6 (d := d_has_rule_form) rfl
  have bd : Binds K fd ["atoms", "thing"] [] := F.bindsN fun _ _ _ _ _ _ us hl => match us, hl with | [_, _], _ => rfl
  exact Ok.of (k := 3) F (glo_at 6 X G c rfl) bd sc_has_rule_form is_has_rule_form (fun b m => nomatch m) (fun b m => nomatch m) (by decide +kernel) (.cons g_is_tuple_of (by decide) (.cons g_is_atom (by decide) (.cons g_is_set (by decide) .nil)))
theorem ok_are_rules {base : Heap} (X : K.In h) (G : h.Ns mainGlobals mg) (c : He.SaysD fa fn K) (g_has_rule_form : Ok false P w K mg base 4 "has_rule_form" f_has_rule_form) : Ok false P w K mg base 5 "are_rules" f_are_rules := by
  obtain ⟨fd, F⟩ := c.def_ 7 (d := d_are_rules) rfl
  have bd : Binds K fd ["atoms", "things"] [] := F.bindsN fun _ _ _ _ _ _ us hl => match us, hl with | [_, _], _ => rfl
  exact Ok.of (k := 4) F (glo_at 7 X G c rfl) bd sc_are_rules is_are_rules (fun b m => by
    simp only [List.mem_cons, List.not_mem_nil, or_false] at m
    rcases m with rfl | rfl | rfl
    · exact free_at 55 X G c rfl
    · exact free_at 60 X G c rfl
    · exact free_at 65 X G c rfl) (fun b m => nomatch m) (by decide +kernel) (.cons g_has_rule_form (by decide) .nil)
theorem ok_is_rulebook {base : Heap} (X : K.In h) (G : h.Ns mainGlobals mg) (c : He.SaysD fa fn K) (g_is_tuple_of : Ok false P w K mg base 1 "is_tuple_of" f_is_tuple_of) (g_is_atoms : Ok false P w K mg base 2 "is_atoms" f_is_atoms) (g_are_rules : Ok false P w K mg base 5 "are_rules" f_are_rules) : Ok false P w K mg base 6 "is_rulebook" f_is_rulebook := by
  obtain ⟨fd, F⟩ := c.def_ 8 (d := d_is_rulebook) rfl
  have bd : Binds K fd ["thing"] [] := F.bindsN fun _ _ _ _ _ _ us hl => match us, hl with | [_], _ => rfl
  exact Ok.of (k := 5) F (glo_at 8 X G c rfl) bd sc_is_rulebook is_is_rulebook (fun b m => by
    simp only [List.mem_cons, List.not_mem_nil, or_false] at m
    rcases m with rfl | rfl | rfl
    · exact free_at 59 X G c rfl
    · exact free_at 60 X G c rfl
    · exact free_at 67 X G c rfl) (fun b m => by
    simp only [List.mem_cons, List.not_mem_nil, or_false] at m
    subst m
    exact int_at 70 X G c rfl) (by decide +kernel) (.cons g_is_tuple_of (by decide) (.cons g_is_atoms (by decide) (.cons g_are_rules (by decide) .nil)))
theorem ok_check_atoms {base : Heap} (X : K.In h) (G : h.Ns mainGlobals mg) (c : He.SaysD fa fn K) (g_is_atoms : Ok false P w K mg base 2 "is_atoms" f_is_atoms) : Ok false P w K mg base 3 "check_atoms" f_check_atoms := by
  obtain ⟨fd, F⟩ := c.def_ 9 (d := d_check_atoms) rfl
  have bd : Binds K fd ["thing"] [] := F.bindsN fun _ _ _ _ _ _ us hl => match us, hl with | [_], _ => rfl
  exact Ok.of (k := 2) F (glo_at 9 X G c rfl) bd sc_check_atoms is_check_atoms (fun b m => nomatch m) (fun b m => nomatch m) (by decide +kernel) (.cons g_is_atoms (by decide) .nil)
theorem ok_check_book {base : Heap} (X : K.In h) (G : h.Ns mainGlobals mg) (c : He.SaysD fa fn K) (g_is_rulebook : Ok false P w K mg base 6 "is_rulebook" f_is_rulebook) : Ok false P w K mg base 7 "check_book" f_check_book := by
  obtain ⟨fd, F⟩ := c.def_ 10 (d := d_check_book) rfl
  have bd : Binds K fd ["thing"] [] := F.bindsN fun _ _ _ _ _ _ us hl => match us, hl with | [_], _ => rfl
  exact Ok.of (k := 6) F (glo_at 10 X G c rfl) bd sc_check_book is_check_book (fun b m => nomatch m) (fun b m => nomatch m) (by decide +kernel) (.cons g_is_rulebook (by decide) .nil)
theorem ok_check_set {base : Heap} (X : K.In h) (G : h.Ns mainGlobals mg) (c : He.SaysD fa fn K) (g_is_set : Ok false P w K mg base 3 "is_set" f_is_set) : Ok false P w K mg base 4 "check_set" f_check_set := by
  obtain ⟨fd, F⟩ := c.def_ 11 (d := d_check_set) rfl
  have bd : Binds K fd ["atoms", "thing"] [] := F.bindsN fun _ _ _ _ _ _ us hl => match us, hl with | [_, _], _ => rfl
  exact Ok.of (k := 3) F (glo_at 11 X G c rfl) bd sc_check_set is_check_set (fun b m => nomatch m) (fun b m => nomatch m) (by decide +kernel) (.cons g_is_set (by decide) .nil)
theorem ok_check_book_and_set {base : Heap} (X : K.In h) (G : h.Ns mainGlobals mg) (c : He.SaysD fa fn K) (g_check_book : Ok false P w K mg base 7 "check_book" f_check_book) (g_check_set : Ok false P w K mg base 4 "check_set" f_check_set) : Ok false P w K mg base 8 "check_book_and_set" f_check_book_and_set := by
  obtain ⟨fd, F⟩ := c.def_ 12 (d := d_check_book_and_set) rfl
  have bd : Binds K fd ["book", "chosen"] [] := F.bindsN fun _ _ _ _ _ _ us hl => match us, hl with | [_, _], _ => rfl
  exact Ok.of (k := 7) F (glo_at 12 X G c rfl) bd sc_check_book_and_set is_check_book_and_set (fun b m => nomatch m) (fun b m => nomatch m) (by decide +kernel) (.cons g_check_book (by decide) (.cons g_check_set (by decide) .nil))
theorem ok_is_within {base : Heap} (X : K.In h) (G : h.Ns mainGlobals mg) (c : He.SaysD fa fn K)  : Ok false P w K mg base 1 "is_within" f_is_within := by
  obtain ⟨fd, F⟩ := c.def_ 13 (d := d_is_within) rfl
  have bd : Binds K fd ["small", "large"] [] := F.bindsN fun _ _ _ _ _ _ us hl => match us, hl with | [_, _], _ => rfl
  exact Ok.of (k := 0) F (glo_at 13 X G c rfl) bd sc_is_within is_is_within (fun b m => by
    simp only [List.mem_cons, List.not_mem_nil, or_false] at m
    subst m
    exact free_at 55 X G c rfl) (fun b m => nomatch m) (by decide +kernel) .nil
theorem ok_remains {base : Heap} (X : K.In h) (G : h.Ns mainGlobals mg) (c : He.SaysD fa fn K)  : Ok false P w K mg base 1 "remains" f_remains := by
  obtain ⟨fd, F⟩ := c.def_ 14 (d := d_remains) rfl
  have bd : Binds K fd ["rule", "chosen"] [] := F.bindsN fun _ _ _ _ _ _ us hl => match us, hl with | [_, _], _ => rfl
  exact Ok.of (k := 0) F (glo_at 14 X G c rfl) bd sc_remains is_remains (fun b m => by
    simp only [List.mem_cons, List.not_mem_nil, or_false] at m
    subst m
    exact free_at 56 X G c rfl) (fun b m => nomatch m) (by decide +kernel) .nil
theorem ok_obeys {base : Heap} (X : K.In h) (G : h.Ns mainGlobals mg) (c : He.SaysD fa fn K) (g_is_within : Ok false P w K mg base 1 "is_within" f_is_within) : Ok false P w K mg base 2 "obeys" f_obeys := by
  obtain ⟨fd, F⟩ := c.def_ 15 (d := d_obeys) rfl
  have bd : Binds K fd ["chosen", "rule"] [] := F.bindsN fun _ _ _ _ _ _ us hl => match us, hl with | [_, _], _ => rfl
  exact Ok.of (k := 1) F (glo_at 15 X G c rfl) bd sc_obeys is_obeys (fun b m => nomatch m) (fun b m => nomatch m) (by decide +kernel) (.cons g_is_within (by decide) .nil)
theorem ok_violates {base : Heap} (X : K.In h) (G : h.Ns mainGlobals mg) (c : He.SaysD fa fn K) (g_remains : Ok false P w K mg base 1 "remains" f_remains) (g_obeys : Ok false P w K mg base 2 "obeys" f_obeys) : Ok false P w K mg base 3 "violates" f_violates := by
  obtain ⟨fd, F⟩ := c.def_ 16 (d := d_violates) rfl
  have bd : Binds K fd ["chosen", "rule"] [] := F.bindsN fun _ _ _ _ _ _ us hl => match us, hl with | [_, _], _ => rfl
  exact Ok.of (k := 2) F (glo_at 16 X G c rfl) bd sc_violates is_violates (fun b m => nomatch m) (fun b m => nomatch m) (by decide +kernel) (.cons g_remains (by decide) (.cons g_obeys (by decide) .nil))
theorem ok_remaining {base : Heap} (X : K.In h) (G : h.Ns mainGlobals mg) (c : He.SaysD fa fn K) (g_check_book_and_set : Ok false P w K mg base 8 "check_book_and_set" f_check_book_and_set) (g_remains : Ok false P w K mg base 1 "remains" f_remains) : Ok false P w K mg base 9 "remaining" f_remaining := by
  obtain ⟨fd, F⟩ := c.def_ 17 (d := d_remaining) rfl
  have bd : Binds K fd ["book", "chosen"] [] := F.bindsN fun _ _ _ _ _ _ us hl => match us, hl with | [_, _], _ => rfl
  exact Ok.of (k := 8) F (glo_at 17 X G c rfl) bd sc_remaining is_remaining (fun b m => by
    simp only [List.mem_cons, List.not_mem_nil, or_false] at m
    subst m
    exact free_at 67 X G c rfl) (fun b m => nomatch m) (by decide +kernel) (.cons g_check_book_and_set (by decide) (.cons g_remains (by decide) .nil))
theorem ok_violated {base : Heap} (X : K.In h) (G : h.Ns mainGlobals mg) (c : He.SaysD fa fn K) (g_check_book_and_set : Ok false P w K mg base 8 "check_book_and_set" f_check_book_and_set) (g_violates : Ok false P w K mg base 3 "violates" f_violates) : Ok false P w K mg base 9 "violated" f_violated := by
  obtain ⟨fd, F⟩ := c.def_ 18 (d := d_violated) rfl
  have bd : Binds K fd ["book", "chosen"] [] := F.bindsN fun _ _ _ _ _ _ us hl => match us, hl with | [_, _], _ => rfl
  exact Ok.of (k := 8) F (glo_at 18 X G c rfl) bd sc_violated is_violated (fun b m => by
    simp only [List.mem_cons, List.not_mem_nil, or_false] at m
    subst m
    exact free_at 67 X G c rfl) (fun b m => nomatch m) (by decide +kernel) (.cons g_check_book_and_set (by decide) (.cons g_violates (by decide) .nil))
theorem ok_heads_due {base : Heap} (X : K.In h) (G : h.Ns mainGlobals mg) (c : He.SaysD fa fn K) (g_obeys : Ok false P w K mg base 2 "obeys" f_obeys) : Ok false P w K mg base 3 "heads_due" f_heads_due := by
  obtain ⟨fd, F⟩ := c.def_ 19 (d := d_heads_due) rfl
  have bd : Binds K fd ["rules", "reached"] [] := F.bindsN fun _ _ _ _ _ _ us hl => match us, hl with | [_, _], _ => rfl
  exact Ok.of (k := 2) F (glo_at 19 X G c rfl) bd sc_heads_due is_heads_due (fun b m => by
    simp only [List.mem_cons, List.not_mem_nil, or_false] at m
    subst m
    exact free_at 66 X G c rfl) (fun b m => nomatch m) (by decide +kernel) (.cons g_obeys (by decide) .nil)
theorem ok_least_obeying {base : Heap} (X : K.In h) (G : h.Ns mainGlobals mg) (c : He.SaysD fa fn K) (g_heads_due : Ok false P w K mg base 3 "heads_due" f_heads_due) : Ok false P w K mg base 4 "least_obeying" f_least_obeying := by
  obtain ⟨fd, F⟩ := c.def_ 20 (d := d_least_obeying) rfl
  have bd : Binds K fd ["rules"] [] := F.bindsN fun _ _ _ _ _ _ us hl => match us, hl with | [_], _ => rfl
  exact Ok.of (k := 3) F (glo_at 20 X G c rfl) bd sc_least_obeying is_least_obeying (fun b m => by
    simp only [List.mem_cons, List.not_mem_nil, or_false] at m
    rcases m with rfl | rfl
    · exact free_at 66 X G c rfl
    · exact free_at 67 X G c rfl) (fun b m => nomatch m) (by decide +kernel) (.cons g_heads_due (by decide) .nil)
theorem ok_least_at {base : Heap} (X : K.In h) (G : h.Ns mainGlobals mg) (c : He.SaysD fa fn K) (g_least_obeying : Ok false P w K mg base 4 "least_obeying" f_least_obeying) (g_remains : Ok false P w K mg base 1 "remains" f_remains) : Ok false P w K mg base 5 "least_at" f_least_at := by
  obtain ⟨fd, F⟩ := c.def_ 21 (d := d_least_at) rfl
  have bd : Binds K fd ["rules", "chosen"] [] := F.bindsN fun _ _ _ _ _ _ us hl => match us, hl with | [_, _], _ => rfl
  exact Ok.of (k := 4) F (glo_at 21 X G c rfl) bd sc_least_at is_least_at (fun b m => nomatch m) (fun b m => nomatch m) (by decide +kernel) (.cons g_least_obeying (by decide) (.cons g_remains (by decide) .nil))
theorem ok_least {base : Heap} (X : K.In h) (G : h.Ns mainGlobals mg) (c : He.SaysD fa fn K) (g_check_book_and_set : Ok false P w K mg base 8 "check_book_and_set" f_check_book_and_set) (g_least_at : Ok false P w K mg base 5 "least_at" f_least_at) : Ok false P w K mg base 9 "least" f_least := by
  obtain ⟨fd, F⟩ := c.def_ 22 (d := d_least) rfl
  have bd : Binds K fd ["book", "chosen"] [] := F.bindsN fun _ _ _ _ _ _ us hl => match us, hl with | [_, _], _ => rfl
  exact Ok.of (k := 8) F (glo_at 22 X G c rfl) bd sc_least is_least (fun b m => nomatch m) (fun b m => nomatch m) (by decide +kernel) (.cons g_check_book_and_set (by decide) (.cons g_least_at (by decide) .nil))
theorem ok_selections {base : Heap} (X : K.In h) (G : h.Ns mainGlobals mg) (c : He.SaysD fa fn K)  : Ok false P w K mg base 1 "selections" f_selections := by
  obtain ⟨fd, F⟩ := c.def_ 23 (d := d_selections) rfl
  have bd : Binds K fd ["things"] [] := F.bindsN fun _ _ _ _ _ _ us hl => match us, hl with | [_], _ => rfl
  exact Ok.of (k := 0) F (glo_at 23 X G c rfl) bd sc_selections is_selections (fun b m => by
    simp only [List.mem_cons, List.not_mem_nil, or_false] at m
    subst m
    exact free_at 66 X G c rfl) (fun b m => nomatch m) (by decide +kernel) .nil
theorem ok_all_sets {base : Heap} (X : K.In h) (G : h.Ns mainGlobals mg) (c : He.SaysD fa fn K) (g_selections : Ok false P w K mg base 1 "selections" f_selections) : Ok false P w K mg base 2 "all_sets" f_all_sets := by
  obtain ⟨fd, F⟩ := c.def_ 24 (d := d_all_sets) rfl
  have bd : Binds K fd ["atoms"] [] := F.bindsN fun _ _ _ _ _ _ us hl => match us, hl with | [_], _ => rfl
  exact Ok.of (k := 1) F (glo_at 24 X G c rfl) bd sc_all_sets is_all_sets (fun b m => by
    simp only [List.mem_cons, List.not_mem_nil, or_false] at m
    rcases m with rfl | rfl
    · exact free_at 63 X G c rfl
    · exact free_at 67 X G c rfl) (fun b m => nomatch m) (by decide +kernel) (.cons g_selections (by decide) .nil)
theorem ok_all_pairs {base : Heap} (X : K.In h) (G : h.Ns mainGlobals mg) (c : He.SaysD fa fn K) (g_all_sets : Ok false P w K mg base 2 "all_sets" f_all_sets) (g_selections : Ok false P w K mg base 1 "selections" f_selections) : Ok false P w K mg base 3 "all_pairs" f_all_pairs := by
  obtain ⟨fd, F⟩ := c.def_ 25 (d := d_all_pairs) rfl
  have bd : Binds K fd ["atoms"] [] := F.bindsN fun _ _ _ _ _ _ us hl => match us, hl with | [_], _ => rfl
  exact Ok.of (k := 2) F (glo_at 25 X G c rfl) bd sc_all_pairs is_all_pairs (fun b m => by
    simp only [List.mem_cons, List.not_mem_nil, or_false] at m
    subst m
    exact free_at 66 X G c rfl) (fun b m => nomatch m) (by decide +kernel) (.cons g_all_sets (by decide) (.cons g_selections (by decide) .nil))
theorem ok_is_pair {base : Heap} (X : K.In h) (G : h.Ns mainGlobals mg) (c : He.SaysD fa fn K) (g_is_tuple_of : Ok false P w K mg base 1 "is_tuple_of" f_is_tuple_of) (g_is_set : Ok false P w K mg base 3 "is_set" f_is_set) (g_is_within : Ok false P w K mg base 1 "is_within" f_is_within) : Ok false P w K mg base 4 "is_pair" f_is_pair := by
  obtain ⟨fd, F⟩ := c.def_ 26 (d := d_is_pair) rfl
  have bd : Binds K fd ["atoms", "thing"] [] := F.bindsN fun _ _ _ _ _ _ us hl => match us, hl with | [_, _], _ => rfl
  exact Ok.of (k := 3) F (glo_at 26 X G c rfl) bd sc_is_pair is_is_pair (fun b m => nomatch m) (fun b m => nomatch m) (by decide +kernel) (.cons g_is_tuple_of (by decide) (.cons g_is_set (by decide) (.cons g_is_within (by decide) .nil)))
theorem ok_are_pairs {base : Heap} (X : K.In h) (G : h.Ns mainGlobals mg) (c : He.SaysD fa fn K) (g_is_pair : Ok false P w K mg base 4 "is_pair" f_is_pair) : Ok false P w K mg base 5 "are_pairs" f_are_pairs := by
  obtain ⟨fd, F⟩ := c.def_ 27 (d := d_are_pairs) rfl
  have bd : Binds K fd ["atoms", "thing"] [] := F.bindsN fun _ _ _ _ _ _ us hl => match us, hl with | [_, _], _ => rfl
  exact Ok.of (k := 4) F (glo_at 27 X G c rfl) bd sc_are_pairs is_are_pairs (fun b m => by
    simp only [List.mem_cons, List.not_mem_nil, or_false] at m
    rcases m with rfl | rfl | rfl
    · exact free_at 55 X G c rfl
    · exact free_at 59 X G c rfl
    · exact free_at 67 X G c rfl) (fun b m => nomatch m) (by decide +kernel) (.cons g_is_pair (by decide) .nil)
theorem ok_fits_rule {base : Heap} (X : K.In h) (G : h.Ns mainGlobals mg) (c : He.SaysD fa fn K) (g_remains : Ok false P w K mg base 1 "remains" f_remains) (g_obeys : Ok false P w K mg base 2 "obeys" f_obeys) : Ok false P w K mg base 3 "fits_rule" f_fits_rule := by
  obtain ⟨fd, F⟩ := c.def_ 28 (d := d_fits_rule) rfl
  have bd : Binds K fd ["pair", "rule"] [] := F.bindsN fun _ _ _ _ _ _ us hl => match us, hl with | [_, _], _ => rfl
  exact Ok.of (k := 2) F (glo_at 28 X G c rfl) bd sc_fits_rule is_fits_rule (fun b m => nomatch m) (fun b m => nomatch m) (by decide +kernel) (.cons g_remains (by decide) (.cons g_obeys (by decide) .nil))
theorem ok_fits_rules {base : Heap} (X : K.In h) (G : h.Ns mainGlobals mg) (c : He.SaysD fa fn K) (g_fits_rule : Ok false P w K mg base 3 "fits_rule" f_fits_rule) : Ok false P w K mg base 4 "fits_rules" f_fits_rules := by
  obtain ⟨fd, F⟩ := c.def_ 29 (d := d_fits_rules) rfl
  have bd : Binds K fd ["pair", "rules"] [] := F.bindsN fun _ _ _ _ _ _ us hl => match us, hl with | [_, _], _ => rfl
  exact Ok.of (k := 3) F (glo_at 29 X G c rfl) bd sc_fits_rules is_fits_rules (fun b m => by
    simp only [List.mem_cons, List.not_mem_nil, or_false] at m
    subst m
    exact free_at 55 X G c rfl) (fun b m => nomatch m) (by decide +kernel) (.cons g_fits_rule (by decide) .nil)
theorem ok_pairs {base : Heap} (X : K.In h) (G : h.Ns mainGlobals mg) (c : He.SaysD fa fn K) (g_check_book : Ok false P w K mg base 7 "check_book" f_check_book) (g_all_pairs : Ok false P w K mg base 3 "all_pairs" f_all_pairs) (g_fits_rules : Ok false P w K mg base 4 "fits_rules" f_fits_rules) : Ok false P w K mg base 8 "pairs" f_pairs := by
  obtain ⟨fd, F⟩ := c.def_ 30 (d := d_pairs) rfl
  have bd : Binds K fd ["book"] [] := F.bindsN fun _ _ _ _ _ _ us hl => match us, hl with | [_], _ => rfl
  exact Ok.of (k := 7) F (glo_at 30 X G c rfl) bd sc_pairs is_pairs (fun b m => by
    simp only [List.mem_cons, List.not_mem_nil, or_false] at m
    subst m
    exact free_at 67 X G c rfl) (fun b m => nomatch m) (by decide +kernel) (.cons g_check_book (by decide) (.cons g_all_pairs (by decide) (.cons g_fits_rules (by decide) .nil)))
theorem ok_has_tops {base : Heap} (X : K.In h) (G : h.Ns mainGlobals mg) (c : He.SaysD fa fn K)  : Ok false P w K mg base 1 "has_tops" f_has_tops := by
  obtain ⟨fd, F⟩ := c.def_ 31 (d := d_has_tops) rfl
  have bd : Binds K fd ["found"] [] := F.bindsN fun _ _ _ _ _ _ us hl => match us, hl with | [_], _ => rfl
  exact Ok.of (k := 0) F (glo_at 31 X G c rfl) bd sc_has_tops is_has_tops (fun b m => by
    simp only [List.mem_cons, List.not_mem_nil, or_false] at m
    subst m
    exact free_at 55 X G c rfl) (fun b m => nomatch m) (by decide +kernel) .nil
theorem ok_has_larger {base : Heap} (X : K.In h) (G : h.Ns mainGlobals mg) (c : He.SaysD fa fn K) (g_is_within : Ok false P w K mg base 1 "is_within" f_is_within) : Ok false P w K mg base 2 "has_larger" f_has_larger := by
  obtain ⟨fd, F⟩ := c.def_ 32 (d := d_has_larger) rfl
  have bd : Binds K fd ["found"] [] := F.bindsN fun _ _ _ _ _ _ us hl => match us, hl with | [_], _ => rfl
  exact Ok.of (k := 1) F (glo_at 32 X G c rfl) bd sc_has_larger is_has_larger (fun b m => by
    simp only [List.mem_cons, List.not_mem_nil, or_false] at m
    subst m
    exact free_at 55 X G c rfl) (fun b m => nomatch m) (by decide +kernel) (.cons g_is_within (by decide) .nil)
theorem ok_common_part {base : Heap} (X : K.In h) (G : h.Ns mainGlobals mg) (c : He.SaysD fa fn K)  : Ok false P w K mg base 1 "common_part" f_common_part := by
  obtain ⟨fd, F⟩ := c.def_ 33 (d := d_common_part) rfl
  have bd : Binds K fd ["one", "other"] [] := F.bindsN fun _ _ _ _ _ _ us hl => match us, hl with | [_, _], _ => rfl
  exact Ok.of (k := 0) F (glo_at 33 X G c rfl) bd sc_common_part is_common_part (fun b m => by
    simp only [List.mem_cons, List.not_mem_nil, or_false] at m
    subst m
    exact free_at 67 X G c rfl) (fun b m => nomatch m) (by decide +kernel) .nil
theorem ok_has_common {base : Heap} (X : K.In h) (G : h.Ns mainGlobals mg) (c : He.SaysD fa fn K) (g_common_part : Ok false P w K mg base 1 "common_part" f_common_part) : Ok false P w K mg base 2 "has_common" f_has_common := by
  obtain ⟨fd, F⟩ := c.def_ 34 (d := d_has_common) rfl
  have bd : Binds K fd ["found"] [] := F.bindsN fun _ _ _ _ _ _ us hl => match us, hl with | [_], _ => rfl
  exact Ok.of (k := 1) F (glo_at 34 X G c rfl) bd sc_has_common is_has_common (fun b m => by
    simp only [List.mem_cons, List.not_mem_nil, or_false] at m
    subst m
    exact free_at 55 X G c rfl) (fun b m => nomatch m) (by decide +kernel) (.cons g_common_part (by decide) .nil)
theorem ok_is_closed {base : Heap} (X : K.In h) (G : h.Ns mainGlobals mg) (c : He.SaysD fa fn K) (g_has_tops : Ok false P w K mg base 1 "has_tops" f_has_tops) (g_has_larger : Ok false P w K mg base 2 "has_larger" f_has_larger) (g_has_common : Ok false P w K mg base 2 "has_common" f_has_common) : Ok false P w K mg base 3 "is_closed" f_is_closed := by
  obtain ⟨fd, F⟩ := c.def_ 35 (d := d_is_closed) rfl
  have bd : Binds K fd ["found"] [] := F.bindsN fun _ _ _ _ _ _ us hl => match us, hl with | [_], _ => rfl
  exact Ok.of (k := 2) F (glo_at 35 X G c rfl) bd sc_is_closed is_is_closed (fun b m => nomatch m) (fun b m => nomatch m) (by decide +kernel) (.cons g_has_tops (by decide) (.cons g_has_larger (by decide) (.cons g_has_common (by decide) .nil)))
theorem ok_is_table {base : Heap} (X : K.In h) (G : h.Ns mainGlobals mg) (c : He.SaysD fa fn K) (g_check_atoms : Ok false P w K mg base 3 "check_atoms" f_check_atoms) (g_are_pairs : Ok false P w K mg base 5 "are_pairs" f_are_pairs) (g_is_ascending : Ok false P w K mg base 1 "is_ascending" f_is_ascending) (g_is_closed : Ok false P w K mg base 3 "is_closed" f_is_closed) : Ok false P w K mg base 6 "is_table" f_is_table := by
  obtain ⟨fd, F⟩ := c.def_ 36 (d := d_is_table) rfl
  have bd : Binds K fd ["atoms", "thing"] [] := F.bindsN fun _ _ _ _ _ _ us hl => match us, hl with | [_, _], _ => rfl
  exact Ok.of (k := 5) F (glo_at 36 X G c rfl) bd sc_is_table is_is_table (fun b m => nomatch m) (fun b m => nomatch m) (by decide +kernel) (.cons g_check_atoms (by decide) (.cons g_are_pairs (by decide) (.cons g_is_ascending (by decide) (.cons g_is_closed (by decide) .nil))))
theorem ok_forced_atom {base : Heap} (X : K.In h) (G : h.Ns mainGlobals mg) (c : He.SaysD fa fn K) (g_is_within : Ok false P w K mg base 1 "is_within" f_is_within) : Ok false P w K mg base 2 "forced_atom" f_forced_atom := by
  obtain ⟨fd, F⟩ := c.def_ 37 (d := d_forced_atom) rfl
  have bd : Binds K fd ["table", "small", "large"] [] := F.bindsN fun _ _ _ _ _ _ us hl => match us, hl with | [_, _, _], _ => rfl
  exact Ok.of (k := 1) F (glo_at 37 X G c rfl) bd sc_forced_atom is_forced_atom (fun b m => by
    simp only [List.mem_cons, List.not_mem_nil, or_false] at m
    rcases m with rfl | rfl
    · exact free_at 55 X G c rfl
    · exact free_at 62 X G c rfl) (fun b m => nomatch m) (by decide +kernel) (.cons g_is_within (by decide) .nil)
theorem ok_rules_at {base : Heap} (X : K.In h) (G : h.Ns mainGlobals mg) (c : He.SaysD fa fn K) (g_selections : Ok false P w K mg base 1 "selections" f_selections) (g_forced_atom : Ok false P w K mg base 2 "forced_atom" f_forced_atom) : Ok false P w K mg base 3 "rules_at" f_rules_at := by
  obtain ⟨fd, F⟩ := c.def_ 38 (d := d_rules_at) rfl
  have bd : Binds K fd ["atoms", "table", "large"] [] := F.bindsN fun _ _ _ _ _ _ us hl => match us, hl with | [_, _, _], _ => rfl
  exact Ok.of (k := 2) F (glo_at 38 X G c rfl) bd sc_rules_at is_rules_at (fun b m => by
    simp only [List.mem_cons, List.not_mem_nil, or_false] at m
    rcases m with rfl | rfl
    · exact free_at 63 X G c rfl
    · exact free_at 67 X G c rfl) (fun b m => nomatch m) (by decide +kernel) (.cons g_selections (by decide) (.cons g_forced_atom (by decide) .nil))
theorem ok_rules_of {base : Heap} (X : K.In h) (G : h.Ns mainGlobals mg) (c : He.SaysD fa fn K) (g_is_table : Ok false P w K mg base 6 "is_table" f_is_table) (g_all_sets : Ok false P w K mg base 2 "all_sets" f_all_sets) (g_rules_at : Ok false P w K mg base 3 "rules_at" f_rules_at) : Ok false P w K mg base 7 "rules_of" f_rules_of := by
  obtain ⟨fd, F⟩ := c.def_ 39 (d := d_rules_of) rfl
  have bd : Binds K fd ["atoms", "table"] [] := F.bindsN fun _ _ _ _ _ _ us hl => match us, hl with | [_, _], _ => rfl
  exact Ok.of (k := 6) F (glo_at 39 X G c rfl) bd sc_rules_of is_rules_of (fun b m => by
    simp only [List.mem_cons, List.not_mem_nil, or_false] at m
    subst m
    exact free_at 67 X G c rfl) (fun b m => nomatch m) (by decide +kernel) (.cons g_is_table (by decide) (.cons g_all_sets (by decide) (.cons g_rules_at (by decide) .nil)))
theorem ok_settles {base : Heap} (X : K.In h) (G : h.Ns mainGlobals mg) (c : He.SaysD fa fn K) (g_violates : Ok false P w K mg base 3 "violates" f_violates) (g_least_at : Ok false P w K mg base 5 "least_at" f_least_at) : Ok false P w K mg base 6 "settles" f_settles := by
  obtain ⟨fd, F⟩ := c.def_ 40 (d := d_settles) rfl
  have bd : Binds K fd ["rules", "chosen"] [] := F.bindsN fun _ _ _ _ _ _ us hl => match us, hl with | [_, _], _ => rfl
  exact Ok.of (k := 5) F (glo_at 40 X G c rfl) bd sc_settles is_settles (fun b m => by
    simp only [List.mem_cons, List.not_mem_nil, or_false] at m
    subst m
    exact free_at 56 X G c rfl) (fun b m => nomatch m) (by decide +kernel) (.cons g_violates (by decide) (.cons g_least_at (by decide) .nil))
theorem ok_settled_sets {base : Heap} (X : K.In h) (G : h.Ns mainGlobals mg) (c : He.SaysD fa fn K) (g_all_sets : Ok false P w K mg base 2 "all_sets" f_all_sets) (g_settles : Ok false P w K mg base 6 "settles" f_settles) : Ok false P w K mg base 7 "settled_sets" f_settled_sets := by
  obtain ⟨fd, F⟩ := c.def_ 41 (d := d_settled_sets) rfl
  have bd : Binds K fd ["atoms", "rules"] [] := F.bindsN fun _ _ _ _ _ _ us hl => match us, hl with | [_, _], _ => rfl
  exact Ok.of (k := 6) F (glo_at 41 X G c rfl) bd sc_settled_sets is_settled_sets (fun b m => by
    simp only [List.mem_cons, List.not_mem_nil, or_false] at m
    subst m
    exact free_at 67 X G c rfl) (fun b m => nomatch m) (by decide +kernel) (.cons g_all_sets (by decide) (.cons g_settles (by decide) .nil))
theorem ok_settled {base : Heap} (X : K.In h) (G : h.Ns mainGlobals mg) (c : He.SaysD fa fn K) (g_check_book : Ok false P w K mg base 7 "check_book" f_check_book) (g_settled_sets : Ok false P w K mg base 7 "settled_sets" f_settled_sets) : OkG P w K mg base 8 "settled" f_settled := by
  obtain ⟨fd, F⟩ := c.def_ 42 (d := d_settled) rfl
  have bd : Binds K fd ["book"] [] := F.bindsN fun _ _ _ _ _ _ us hl => match us, hl with | [_], _ => rfl
  exact OkG.of (k := 7) F (glo_at 42 X G c rfl) bd sc_settled is_settled (fun b m => nomatch m) (fun b m => nomatch m) (by decide +kernel) (.cons g_check_book (by decide) (.cons g_settled_sets (by decide) .nil))
theorem ok_can_follow {base : Heap} (X : K.In h) (G : h.Ns mainGlobals mg) (c : He.SaysD fa fn K) (g_is_within : Ok false P w K mg base 1 "is_within" f_is_within) : Ok false P w K mg base 2 "can_follow" f_can_follow := by
  obtain ⟨fd, F⟩ := c.def_ 43 (d := d_can_follow) rfl
  have bd : Binds K fd ["heads", "rule"] [] := F.bindsN fun _ _ _ _ _ _ us hl => match us, hl with | [_, _], _ => rfl
  exact Ok.of (k := 1) F (glo_at 43 X G c rfl) bd sc_can_follow is_can_follow (fun b m => nomatch m) (fun b m => nomatch m) (by decide +kernel) (.cons g_is_within (by decide) .nil)
theorem ok_first_behind {base : Heap} (X : K.In h) (G : h.Ns mainGlobals mg) (c : He.SaysD fa fn K) (g_can_follow : Ok false P w K mg base 2 "can_follow" f_can_follow) : Ok false P w K mg base 3 "first_behind" f_first_behind := by
  obtain ⟨fd, F⟩ := c.def_ 44 (d := d_first_behind) rfl
  have bd : Binds K fd ["order", "rules"] [] := F.bindsN fun _ _ _ _ _ _ us hl => match us, hl with | [_, _], _ => rfl
  exact Ok.of (k := 2) F (glo_at 44 X G c rfl) bd sc_first_behind is_first_behind (fun b m => nomatch m) (fun b m => nomatch m) (by decide +kernel) (.cons g_can_follow (by decide) .nil)
theorem ok_order_taken {base : Heap} (X : K.In h) (G : h.Ns mainGlobals mg) (c : He.SaysD fa fn K) (g_remains : Ok false P w K mg base 1 "remains" f_remains) (g_first_behind : Ok false P w K mg base 3 "first_behind" f_first_behind) : Ok false P w K mg base 4 "order_taken" f_order_taken := by
  obtain ⟨fd, F⟩ := c.def_ 45 (d := d_order_taken) rfl
  have bd : Binds K fd ["rules", "chosen"] [] := F.bindsN fun _ _ _ _ _ _ us hl => match us, hl with | [_, _], _ => rfl
  exact Ok.of (k := 3) F (glo_at 45 X G c rfl) bd sc_order_taken is_order_taken (fun b m => by
    simp only [List.mem_cons, List.not_mem_nil, or_false] at m
    subst m
    exact free_at 60 X G c rfl) (fun b m => nomatch m) (by decide +kernel) (.cons g_remains (by decide) (.cons g_first_behind (by decide) .nil))
theorem ok_reason {base : Heap} (X : K.In h) (G : h.Ns mainGlobals mg) (c : He.SaysD fa fn K) (g_violated : Ok false P w K mg base 9 "violated" f_violated) (g_least : Ok false P w K mg base 9 "least" f_least) (g_order_taken : Ok false P w K mg base 4 "order_taken" f_order_taken) : Ok false P w K mg base 10 "reason" f_reason := by
  obtain ⟨fd, F⟩ := c.def_ 46 (d := d_reason) rfl
  have bd : Binds K fd ["book", "chosen"] [] := F.bindsN fun _ _ _ _ _ _ us hl => match us, hl with | [_, _], _ => rfl
  exact Ok.of (k := 9) F (glo_at 46 X G c rfl) bd sc_reason is_reason (fun b m => nomatch m) (fun b m => nomatch m) (by decide +kernel) (.cons g_violated (by decide) (.cons g_least (by decide) (.cons g_order_taken (by decide) .nil)))
theorem ok_can_be_settled {base : Heap} (X : K.In h) (G : h.Ns mainGlobals mg) (c : He.SaysD fa fn K) (g_is_set : Ok false P w K mg base 3 "is_set" f_is_set) (g_is_ascending : Ok false P w K mg base 1 "is_ascending" f_is_ascending) (g_is_within : Ok false P w K mg base 1 "is_within" f_is_within) : Ok false P w K mg base 4 "can_be_settled" f_can_be_settled := by
  obtain ⟨fd, F⟩ := c.def_ 47 (d := d_can_be_settled) rfl
  have bd : Binds K fd ["atoms", "thing"] [] := F.bindsN fun _ _ _ _ _ _ us hl => match us, hl with | [_, _], _ => rfl
  exact Ok.of (k := 3) F (glo_at 47 X G c rfl) bd sc_can_be_settled is_can_be_settled (fun b m => by
    simp only [List.mem_cons, List.not_mem_nil, or_false] at m
    rcases m with rfl | rfl | rfl | rfl
    · exact free_at 55 X G c rfl
    · exact free_at 56 X G c rfl
    · exact free_at 59 X G c rfl
    · exact free_at 67 X G c rfl) (fun b m => nomatch m) (by decide +kernel) (.cons g_is_set (by decide) (.cons g_is_ascending (by decide) (.cons g_is_within (by decide) .nil)))
theorem ok_rules_settling {base : Heap} (X : K.In h) (G : h.Ns mainGlobals mg) (c : He.SaysD fa fn K) (g_check_atoms : Ok false P w K mg base 3 "check_atoms" f_check_atoms) (g_can_be_settled : Ok false P w K mg base 4 "can_be_settled" f_can_be_settled) (g_rules_of : Ok false P w K mg base 7 "rules_of" f_rules_of) : Ok false P w K mg base 8 "rules_settling" f_rules_settling := by
  obtain ⟨fd, F⟩ := c.def_ 48 (d := d_rules_settling) rfl
  have bd : Binds K fd ["atoms", "sets"] [] := F.bindsN fun _ _ _ _ _ _ us hl => match us, hl with | [_, _], _ => rfl
  exact Ok.of (k := 7) F (glo_at 48 X G c rfl) bd sc_rules_settling is_rules_settling (fun b m => by
    simp only [List.mem_cons, List.not_mem_nil, or_false] at m
    subst m
    exact free_at 67 X G c rfl) (fun b m => nomatch m) (by decide +kernel) (.cons g_check_atoms (by decide) (.cons g_can_be_settled (by decide) (.cons g_rules_of (by decide) .nil)))
theorem ok_law_same {base : Heap} (X : K.In h) (G : h.Ns mainGlobals mg) (c : He.SaysD fa fn K)  : Ok true P w K mg base 1 "_law_same" f_law_same := by
  obtain ⟨fd, F⟩ := c.def_ 49 (d := d_law_same) rfl
  have bd : Binds K fd ["_law_found", "_law_due"] [] := F.bindsN fun _ _ _ _ _ _ us hl => match us, hl with | [_, _], _ => rfl
  exact Ok.of (k := 0) F (glo_at 49 X G c rfl) bd sc_law_same is_law_same (fun b m => by
    simp only [List.mem_cons, List.not_mem_nil, or_false] at m
    subst m
    exact free_at 64 X G c rfl) (fun b m => nomatch m) (by decide +kernel) .nil
theorem ok_law_choice_right {base : Heap} (X : K.In h) (G : h.Ns mainGlobals mg) (c : He.SaysD fa fn K) (g_pairs : Ok false P w K mg base 8 "pairs" f_pairs) (g_reason : Ok false P w K mg base 10 "reason" f_reason) (g_law_same : Ok true P w K mg base 1 "_law_same" f_law_same) (g_rules_of : Ok false P w K mg base 7 "rules_of" f_rules_of) (g_violated : Ok false P w K mg base 9 "violated" f_violated) (g_settled : OkG P w K mg base 8 "settled" f_settled) : Ok true P w K mg base 12 "_law_choice_right" f_law_choice_right := by
  obtain ⟨fd, F⟩ := c.def_ 50 (d := d_law_choice_right) rfl
  have bd : Binds K fd [] [] := F.bindsN fun _ _ _ _ _ _ us hl => match us, hl with | [], _ => rfl
  exact Ok.ofG (k := 11) F (glo_at 50 X G c rfl) bd sc_law_choice_right is_law_choice_right (by decide) (fun b m => by
    simp only [List.mem_cons, List.not_mem_nil, or_false] at m
    subst m
    exact free_at 61 X G c rfl) (fun b m => nomatch m) (by decide +kernel) (.cons g_pairs (by decide) (.cons g_reason (by decide) (.cons g_law_same (by decide) (.cons g_rules_of (by decide) (.cons g_violated (by decide) .nil))))) (.cons g_settled (by decide) .nil)
theorem ok_law_alone_right {base : Heap} (X : K.In h) (G : h.Ns mainGlobals mg) (c : He.SaysD fa fn K) (g_pairs : Ok false P w K mg base 8 "pairs" f_pairs) (g_reason : Ok false P w K mg base 10 "reason" f_reason) (g_law_same : Ok true P w K mg base 1 "_law_same" f_law_same) (g_settled : OkG P w K mg base 8 "settled" f_settled) : Ok true P w K mg base 12 "_law_alone_right" f_law_alone_right := by
  obtain ⟨fd, F⟩ := c.def_ 51 (d := d_law_alone_right) rfl
  have bd : Binds K fd [] [] := F.bindsN fun _ _ _ _ _ _ us hl => match us, hl with | [], _ => rfl
  exact Ok.ofG (k := 11) F (glo_at 51 X G c rfl) bd sc_law_alone_right is_law_alone_right (by decide) (fun b m => by
    simp only [List.mem_cons, List.not_mem_nil, or_false] at m
    subst m
    exact free_at 61 X G c rfl) (fun b m => nomatch m) (by decide +kernel) (.cons g_pairs (by decide) (.cons g_reason (by decide) (.cons g_law_same (by decide) .nil))) (.cons g_settled (by decide) .nil)
theorem ok_law_circle_right {base : Heap} (X : K.In h) (G : h.Ns mainGlobals mg) (c : He.SaysD fa fn K) (g_pairs : Ok false P w K mg base 8 "pairs" f_pairs) (g_least : Ok false P w K mg base 9 "least" f_least) (g_law_same : Ok true P w K mg base 1 "_law_same" f_law_same) (g_settled : OkG P w K mg base 8 "settled" f_settled) : Ok true P w K mg base 12 "_law_circle_right" f_law_circle_right := by
  obtain ⟨fd, F⟩ := c.def_ 52 (d := d_law_circle_right) rfl
  have bd : Binds K fd [] [] := F.bindsN fun _ _ _ _ _ _ us hl => match us, hl with | [], _ => rfl
  exact Ok.ofG (k := 11) F (glo_at 52 X G c rfl) bd sc_law_circle_right is_law_circle_right (by decide) (fun b m => by
    simp only [List.mem_cons, List.not_mem_nil, or_false] at m
    subst m
    exact free_at 61 X G c rfl) (fun b m => nomatch m) (by decide +kernel) (.cons g_pairs (by decide) (.cons g_least (by decide) (.cons g_law_same (by decide) .nil))) (.cons g_settled (by decide) .nil)
theorem ok_law_small_right {base : Heap} (X : K.In h) (G : h.Ns mainGlobals mg) (c : He.SaysD fa fn K) (g_reason : Ok false P w K mg base 10 "reason" f_reason) (g_remaining : Ok false P w K mg base 9 "remaining" f_remaining) (g_least : Ok false P w K mg base 9 "least" f_least) (g_law_same : Ok true P w K mg base 1 "_law_same" f_law_same) (g_pairs : Ok false P w K mg base 8 "pairs" f_pairs) (g_rules_of : Ok false P w K mg base 7 "rules_of" f_rules_of) (g_is_table : Ok false P w K mg base 6 "is_table" f_is_table) (g_rules_settling : Ok false P w K mg base 8 "rules_settling" f_rules_settling) (g_settled : OkG P w K mg base 8 "settled" f_settled) : Ok true P w K mg base 12 "_law_small_right" f_law_small_right := by
  obtain ⟨fd, F⟩ := c.def_ 53 (d := d_law_small_right) rfl
  have bd : Binds K fd [] [] := F.bindsN fun _ _ _ _ _ _ us hl => match us, hl with | [], _ => rfl
  exact Ok.ofG (k := 11) F (glo_at 53 X G c rfl) bd sc_law_small_right is_law_small_right (by decide) (fun b m => by
    simp only [List.mem_cons, List.not_mem_nil, or_false] at m
    subst m
    exact free_at 61 X G c rfl) (fun b m => nomatch m) (by decide +kernel) (.cons g_reason (by decide) (.cons g_remaining (by decide) (.cons g_least (by decide) (.cons g_law_same (by decide) (.cons g_pairs (by decide) (.cons g_rules_of (by decide) (.cons g_is_table (by decide) (.cons g_rules_settling (by decide) .nil)))))))) (.cons g_settled (by decide) .nil)
theorem ok_law {base : Heap} (X : K.In h) (G : h.Ns mainGlobals mg) (c : He.SaysD fa fn K) (g_law_choice_right : Ok true P w K mg base 12 "_law_choice_right" f_law_choice_right) (g_law_alone_right : Ok true P w K mg base 12 "_law_alone_right" f_law_alone_right) (g_law_circle_right : Ok true P w K mg base 12 "_law_circle_right" f_law_circle_right) (g_law_small_right : Ok true P w K mg base 12 "_law_small_right" f_law_small_right) : Ok true P w K mg base 13 "law" f_law := by
  obtain ⟨fd, F⟩ := c.def_ 54 (d := d_law) rfl
  have bd : Binds K fd ["_law_script"] [] := F.bindsN fun _ _ _ _ _ _ us hl => match us, hl with | [_], _ => rfl
  exact Ok.of (k := 12) F (glo_at 54 X G c rfl) bd sc_law is_law (fun b m => nomatch m) (fun b m => nomatch m) (by decide +kernel) (.cons g_law_choice_right (by decide) (.cons g_law_alone_right (by decide) (.cons g_law_circle_right (by decide) (.cons g_law_small_right (by decide) .nil))))
theorem facts {f : Addr} (X : K.In h) (G : h.Ns mainGlobals mg) (c : He.SaysD fa fn K) (hf : mg ("law" : Str) = some (.ref f)) :
    ∃ fd : FuncData, (∀ (s : Shared) (v : Value), BindsTo s fd ⟨[v], []⟩ [("_law_script", v)]) ∧ ∀ base : Heap, GFn true P w K mg base 13 f fd ["_law_script"] (spD K f_law) := by
  obtain ⟨fd, F⟩ := c.def_ 54 (d := d_law) rfl
  have e := hf.symm.trans (glo_at 54 X G c rfl)
  cases e
  have b := FunD.bindsA (ps := ["_law_script"]) F fun _ _ _ _ _ _ us hl => match us, hl with | [_], _ => rfl
  refine ⟨fd, fun s v => b s [v] rfl, fun base => ?_⟩
  have g_is_whole : Ok false P w K mg base 1 "is_whole" f_is_whole := ok_is_whole X G c
  have g_is_tuple_of : Ok false P w K mg base 1 "is_tuple_of" f_is_tuple_of := ok_is_tuple_of X G c
  have g_is_ascending : Ok false P w K mg base 1 "is_ascending" f_is_ascending := ok_is_ascending X G c
  have g_is_atoms : Ok false P w K mg base 2 "is_atoms" f_is_atoms := ok_is_atoms X G c g_is_whole
  have g_is_atom : Ok false P w K mg base 2 "is_atom" f_is_atom := ok_is_atom X G c g_is_whole
  have g_is_set : Ok false P w K mg base 3 "is_set" f_is_set := ok_is_set X G c g_is_atom g_is_ascending
  have g_has_rule_form : Ok false P w K mg base 4 "has_rule_form" f_has_rule_form := ok_has_rule_form X G c g_is_tuple_of g_is_atom g_is_set
  have g_are_rules : Ok false P w K mg base 5 "are_rules" f_are_rules := ok_are_rules X G c g_has_rule_form
  have g_is_rulebook : Ok false P w K mg base 6 "is_rulebook" f_is_rulebook := ok_is_rulebook X G c g_is_tuple_of g_is_atoms g_are_rules
  have g_check_atoms : Ok false P w K mg base 3 "check_atoms" f_check_atoms := ok_check_atoms X G c g_is_atoms
  have g_check_book : Ok false P w K mg base 7 "check_book" f_check_book := ok_check_book X G c g_is_rulebook
  have g_check_set : Ok false P w K mg base 4 "check_set" f_check_set := ok_check_set X G c g_is_set
  have g_check_book_and_set : Ok false P w K mg base 8 "check_book_and_set" f_check_book_and_set := ok_check_book_and_set X G c g_check_book g_check_set
  have g_is_within : Ok false P w K mg base 1 "is_within" f_is_within := ok_is_within X G c
  have g_remains : Ok false P w K mg base 1 "remains" f_remains := ok_remains X G c
  have g_obeys : Ok false P w K mg base 2 "obeys" f_obeys := ok_obeys X G c g_is_within
  have g_violates : Ok false P w K mg base 3 "violates" f_violates := ok_violates X G c g_remains g_obeys
  have g_remaining : Ok false P w K mg base 9 "remaining" f_remaining := ok_remaining X G c g_check_book_and_set g_remains
  have g_violated : Ok false P w K mg base 9 "violated" f_violated := ok_violated X G c g_check_book_and_set g_violates
  have g_heads_due : Ok false P w K mg base 3 "heads_due" f_heads_due := ok_heads_due X G c g_obeys
  have g_least_obeying : Ok false P w K mg base 4 "least_obeying" f_least_obeying := ok_least_obeying X G c g_heads_due
  have g_least_at : Ok false P w K mg base 5 "least_at" f_least_at := ok_least_at X G c g_least_obeying g_remains
  have g_least : Ok false P w K mg base 9 "least" f_least := ok_least X G c g_check_book_and_set g_least_at
  have g_selections : Ok false P w K mg base 1 "selections" f_selections := ok_selections X G c
  have g_all_sets : Ok false P w K mg base 2 "all_sets" f_all_sets := ok_all_sets X G c g_selections
  have g_all_pairs : Ok false P w K mg base 3 "all_pairs" f_all_pairs := ok_all_pairs X G c g_all_sets g_selections
  have g_is_pair : Ok false P w K mg base 4 "is_pair" f_is_pair := ok_is_pair X G c g_is_tuple_of g_is_set g_is_within
  have g_are_pairs : Ok false P w K mg base 5 "are_pairs" f_are_pairs := ok_are_pairs X G c g_is_pair
  have g_fits_rule : Ok false P w K mg base 3 "fits_rule" f_fits_rule := ok_fits_rule X G c g_remains g_obeys
  have g_fits_rules : Ok false P w K mg base 4 "fits_rules" f_fits_rules := ok_fits_rules X G c g_fits_rule
  have g_pairs : Ok false P w K mg base 8 "pairs" f_pairs := ok_pairs X G c g_check_book g_all_pairs g_fits_rules
  have g_has_tops : Ok false P w K mg base 1 "has_tops" f_has_tops := ok_has_tops X G c
  have g_has_larger : Ok false P w K mg base 2 "has_larger" f_has_larger := ok_has_larger X G c g_is_within
  have g_common_part : Ok false P w K mg base 1 "common_part" f_common_part := ok_common_part X G c
  have g_has_common : Ok false P w K mg base 2 "has_common" f_has_common := ok_has_common X G c g_common_part
  have g_is_closed : Ok false P w K mg base 3 "is_closed" f_is_closed := ok_is_closed X G c g_has_tops g_has_larger g_has_common
  have g_is_table : Ok false P w K mg base 6 "is_table" f_is_table := ok_is_table X G c g_check_atoms g_are_pairs g_is_ascending g_is_closed
  have g_forced_atom : Ok false P w K mg base 2 "forced_atom" f_forced_atom := ok_forced_atom X G c g_is_within
  have g_rules_at : Ok false P w K mg base 3 "rules_at" f_rules_at := ok_rules_at X G c g_selections g_forced_atom
  have g_rules_of : Ok false P w K mg base 7 "rules_of" f_rules_of := ok_rules_of X G c g_is_table g_all_sets g_rules_at
  have g_settles : Ok false P w K mg base 6 "settles" f_settles := ok_settles X G c g_violates g_least_at
  have g_settled_sets : Ok false P w K mg base 7 "settled_sets" f_settled_sets := ok_settled_sets X G c g_all_sets g_settles
  have g_settled : OkG P w K mg base 8 "settled" f_settled := ok_settled X G c g_check_book g_settled_sets
  have g_can_follow : Ok false P w K mg base 2 "can_follow" f_can_follow := ok_can_follow X G c g_is_within
  have g_first_behind : Ok false P w K mg base 3 "first_behind" f_first_behind := ok_first_behind X G c g_can_follow
  have g_order_taken : Ok false P w K mg base 4 "order_taken" f_order_taken := ok_order_taken X G c g_remains g_first_behind
  have g_reason : Ok false P w K mg base 10 "reason" f_reason := ok_reason X G c g_violated g_least g_order_taken
  have g_can_be_settled : Ok false P w K mg base 4 "can_be_settled" f_can_be_settled := ok_can_be_settled X G c g_is_set g_is_ascending g_is_within
  have g_rules_settling : Ok false P w K mg base 8 "rules_settling" f_rules_settling := ok_rules_settling X G c g_check_atoms g_can_be_settled g_rules_of
  have g_law_same : Ok true P w K mg base 1 "_law_same" f_law_same := ok_law_same X G c
  have g_law_choice_right : Ok true P w K mg base 12 "_law_choice_right" f_law_choice_right := ok_law_choice_right X G c g_pairs g_reason g_law_same g_rules_of g_violated g_settled
  have g_law_alone_right : Ok true P w K mg base 12 "_law_alone_right" f_law_alone_right := ok_law_alone_right X G c g_pairs g_reason g_law_same g_settled
  have g_law_circle_right : Ok true P w K mg base 12 "_law_circle_right" f_law_circle_right := ok_law_circle_right X G c g_pairs g_least g_law_same g_settled
  have g_law_small_right : Ok true P w K mg base 12 "_law_small_right" f_law_small_right := ok_law_small_right X G c g_reason g_remaining g_least g_law_same g_pairs g_rules_of g_is_table g_rules_settling g_settled
  exact fnO (γ := true) (k := 12) F sc_law is_law (fun b m => nomatch m) (fun b m => nomatch m) (by decide +kernel) (.cons g_law_choice_right (by decide) (.cons g_law_alone_right (by decide) (.cons g_law_circle_right (by decide) (.cons g_law_small_right (by decide) .nil))))
end
end K23
set_option Elab.async false
set_option linter.all false
set_option maxRecDepth 100000
set_option maxHeartbeats 4000000
/-! The small syntax, step by step: what simp uses. -/
namespace DM
open DR
section
variable {α β : Type} {Φ : Nat → Fn} {ρ ρ1 : Env}
@[simp] theorem bind_ok (a : α) (k : α → Env → Res β) : (Res.ok a ρ).bind k = k a ρ := rfl
@[simp] theorem bind_exc (x : Exn) (k : α → Env → Res β) : (Res.exc x ρ).bind k = .exc x ρ := rfl
@[simp] theorem bind_bad (k : α → Env → Res β) : (Res.bad).bind k = .bad := rfl
@[simp] theorem calm_ok (a : α) : (Res.ok a ρ).calm = .ok a ρ := rfl
@[simp] theorem calm_exc (x : Exn) : (Res.exc x ρ : Res α).calm = .bad := rfl
@[simp] theorem calm_bad : (Res.bad : Res α).calm = .bad := rfl
@[simp] theorem sr_ok (a : α) (k : α → Env → SR) : (Res.ok a ρ).sr k = k a ρ := rfl
@[simp] theorem sr_exc (x : Exn) (k : α → Env → SR) : (Res.exc x ρ).sr k = .exc x ρ := rfl
@[simp] theorem sr_bad (k : α → Env → SR) : (Res.bad).sr k = .bad := rfl
@[simp] theorem lift_some (a : α) : lift (some a) ρ = .ok a ρ := rfl
@[simp] theorem lift_none : lift (none : Option α) ρ = .bad := rfl
@[simp] theorem seq_nx (k : Env → SR) : (SR.nx ρ).seq k = k ρ := rfl
@[simp] theorem seq_rt (d : D) (k : Env → SR) : (SR.rt d ρ).seq k = .rt d ρ := rfl
@[simp] theorem seq_rn (d : List D) (k : Env → SR) : (SR.rn d ρ).seq k = .rn d ρ := rfl
@[simp] theorem seq_bk (k : Env → SR) : (SR.bk ρ).seq k = .bk ρ := rfl
@[simp] theorem seq_ct (k : Env → SR) : (SR.ct ρ).seq k = .ct ρ := rfl
@[simp] theorem seq_exc (x : Exn) (k : Env → SR) : (SR.exc x ρ).seq k = .exc x ρ := rfl
@[simp] theorem seq_bad (k : Env → SR) : (SR.bad).seq k = .bad := rfl
@[simp] theorem tru_bool (b : Bool) : tru (.bool b) = some b := rfl
@[simp] theorem tru_list (xs : List D) : tru (.list xs) = some (!xs.isEmpty) := rfl
@[simp] theorem tru_tuple (xs : List D) : tru (.tuple xs) = some (!xs.isEmpty) := rfl
@[simp] theorem tru_int (i : Int) : tru (.int i) = some (i != 0) := rfl
@[simp] theorem tru_none : tru .none = some false := rfl
@[simp] theorem at_def (i : Nat) : Env.at ρ i = ρ[i]?.getD .un := by
  unfold Env.at
  rw [List.getD_eq_getElem?_getD]
@[simp] theorem isScr_scr (ns : List Int) : isScr (.scr ns) = some ns := rfl
@[simp] theorem isOwn_own (xs : List D) : isOwn (.own xs) = some xs := rfl
@[simp] theorem wr_own (xs : List D) : wr (.own xs) = some xs := rfl
@[simp] theorem wr_bor (k : Nat) (xs : List D) : wr (.bor k xs) = some xs := rfl
@[simp] theorem rew_own (xs ys : List D) : rew (.own xs) ys = .own ys := rfl
@[simp] theorem rew_bor (k : Nat) (xs ys : List D) : rew (.bor k xs) ys = .bor k ys := rfl
@[simp] theorem lit_int (z : Int) : Lit.d (.int z) = .int z := rfl
@[simp] theorem lit_bl (z : Bool) : Lit.d (.bl z) = .bool z := rfl
@[simp] theorem lit_non : Lit.d .non = .none := rfl
@[simp] theorem lit_str (z : PySem.Str) : Lit.d (.str z) = .str z := rfl
@[simp] theorem ev_var (i : Nat) : ev Φ (.var i) ρ = (match ρ.at i with
    | .val d => .ok d ρ
    | .own xs => .ok (.list xs) (ρ.set i (.val (.list xs)))
    | _ => .bad) := by first | (rw [ev]; done) | (rw [ev]; rfl)
@[simp] theorem ev_lit (c : Lit) : ev Φ (.lit c) ρ = (.ok c.d ρ) := by first | (rw [ev]; done) | (rw [ev]; rfl)
@[simp] theorem ev_gint (u0 : PySem.Str) (z : Int) : ev Φ (.gint u0 z) ρ = (.ok (.int z) ρ) := by first | (rw [ev]; done) | (rw [ev]; rfl)
@[simp] theorem ev_tup (es : Es) : ev Φ (.tup es) ρ = ((evEs Φ es ρ).bind fun ds ρ1 => if ds.length ≤ 1000000 then .ok (.tuple ds) ρ1 else .bad) := by first | (rw [ev]; done) | (rw [ev]; rfl)
@[simp] theorem ev_lst (es : Es) : ev Φ (.lst es) ρ = ((evEs Φ es ρ).bind fun ds ρ1 => if ds.length ≤ 1000000 then .ok (.list ds) ρ1 else .bad) := by first | (rw [ev]; done) | (rw [ev]; rfl)
@[simp] theorem ev_bop (o : Bop) (a : E) (b : E) : ev Φ (.bop o a b) ρ = ((ev Φ a ρ).bind fun x ρ1 => (ev Φ b ρ1).bind fun y ρ2 => lift (bop o x y) ρ2) := by first | (rw [ev]; done) | (rw [ev]; rfl)
@[simp] theorem ev_neg (a : E) : ev Φ (.neg a) ρ = ((ev Φ a ρ).bind fun x ρ1 => lift (unNeg x) ρ1) := by first | (rw [ev]; done) | (rw [ev]; rfl)
@[simp] theorem ev_cmp (o : Cop) (a : E) (b : E) : ev Φ (.cmp o a b) ρ = ((ev Φ a ρ).bind fun x ρ1 => (ev Φ b ρ1).bind fun y ρ2 => lift ((cop o x y).map .bool) ρ2) := by first | (rw [ev]; done) | (rw [ev]; rfl)
@[simp] theorem ev_chain (o : Cop) (o' : Cop) (a : E) (b : E) (c : E) : ev Φ (.chain o o' a b c) ρ = ((ev Φ a ρ).bind fun x ρ1 => (ev Φ b ρ1).bind fun y ρ2 => (lift (cop o x y) ρ2).bind fun k ρ2 =>
      if k = true then (ev Φ c ρ2).bind fun z ρ3 => lift ((cop o' y z).map .bool) ρ3 else .ok (.bool false) ρ2) := by first | (rw [ev]; done) | (rw [ev]; rfl)
@[simp] theorem ev_one (a : E) : ev Φ (.one a) ρ = (ev Φ a ρ) := by first | (rw [ev]; done) | (rw [ev]; rfl)
@[simp] theorem ev_and (a : E) (b : E) : ev Φ (.and a b) ρ = ((ev Φ a ρ).bind fun x ρ1 => (lift (tru x) ρ1).bind fun k ρ1 => if k = true then ev Φ b ρ1 else .ok x ρ1) := by first | (rw [ev]; done) | (rw [ev]; rfl)
@[simp] theorem ev_or (a : E) (b : E) : ev Φ (.or a b) ρ = ((ev Φ a ρ).bind fun x ρ1 => (lift (tru x) ρ1).bind fun k ρ1 => if k = true then .ok x ρ1 else ev Φ b ρ1) := by first | (rw [ev]; done) | (rw [ev]; rfl)
@[simp] theorem ev_not (a : E) : ev Φ (.not a) ρ = ((ev Φ a ρ).bind fun x ρ1 => (lift (tru x) ρ1).bind fun k ρ1 => .ok (.bool !k) ρ1) := by first | (rw [ev]; done) | (rw [ev]; rfl)
@[simp] theorem ev_ite (c : E) (a : E) (b : E) : ev Φ (.ite c a b) ρ = ((ev Φ c ρ).bind fun x ρ1 => (lift (tru x) ρ1).bind fun k ρ1 => if k = true then ev Φ a ρ1 else ev Φ b ρ1) := by first | (rw [ev]; done) | (rw [ev]; rfl)
@[simp] theorem ev_ix (a : E) (b : E) : ev Φ (.ix a b) ρ = ((ev Φ a ρ).bind fun x ρ1 => (ev Φ b ρ1).bind fun y ρ2 => lift (ixD x y) ρ2) := by first | (rw [ev]; done) | (rw [ev]; rfl)
@[simp] theorem ev_ixo (i : Nat) (b : E) : ev Φ (.ixo i b) ρ = ((lift (wr (ρ.at i)) ρ).bind fun _ _ => (ev Φ b ρ).bind fun y ρ1 => (lift (wr (ρ1.at i)) ρ1).bind fun xs _ => lift (ixD (.list xs) y) ρ1) := by first | (rw [ev]; done) | (rw [ev]; rfl)
@[simp] theorem ev_sl (a : E) (lo : Eo) (hi : Eo) : ev Φ (.sl a lo hi) ρ = ((ev Φ a ρ).bind fun x ρ1 => (evO Φ lo ρ1).bind fun l ρ2 => (evO Φ hi ρ2).bind fun h ρ3 => lift (slD x l h) ρ3) := by first | (rw [ev]; done) | (rw [ev]; rfl)
@[simp] theorem ev_bi (f : Bi) (a : E) : ev Φ (.bi f a) ρ = ((ev Φ a ρ).bind fun x ρ1 => lift (biD f x) ρ1) := by first | (rw [ev]; done) | (rw [ev]; rfl)
@[simp] theorem ev_mm (mx : Bool) (a : E) (b : E) : ev Φ (.mm mx a b) ρ = ((ev Φ a ρ).bind fun x ρ1 => (ev Φ b ρ1).bind fun y ρ2 => lift (mmD mx x y) ρ2) := by first | (rw [ev]; done) | (rw [ev]; rfl)
@[simp] theorem ev_isi (t : Ty) (a : E) : ev Φ (.isi t a) ρ = ((ev Φ a ρ).bind fun x ρ1 => .ok (.bool (isiD t x)) ρ1) := by first | (rw [ev]; done) | (rw [ev]; rfl)
@[simp] theorem ev_lens (i : Nat) : ev Φ (.lens i) ρ = ((lift (isScr (ρ.at i)) ρ).bind fun ns _ => .ok (.int ns.length) ρ) := by first | (rw [ev]; done) | (rw [ev]; rfl)
@[simp] theorem ev_ixs (i : Nat) (b : E) : ev Φ (.ixs i b) ρ = ((lift (isScr (ρ.at i)) ρ).bind fun _ _ => (ev Φ b ρ).bind fun y ρ1 => (lift (isScr (ρ1.at i)) ρ1).bind fun ns _ => lift (ixD (.list (ns.map .int)) y) ρ1) := by first | (rw [ev]; done) | (rw [ev]; rfl)
@[simp] theorem ev_rng (t : Bool) (a : E) : ev Φ (.rng t a) ρ = ((ev Φ a ρ).bind fun x ρ1 => (lift (intOf x) ρ1).bind fun n ρ1 => if rngOk n = true then .ok (if t then .tuple (rngL n) else .list (rngL n)) ρ1 else .bad) := by first | (rw [ev]; done) | (rw [ev]; rfl)
@[simp] theorem ev_call (f : Nat) (as : As) : ev Φ (.call f as) ρ = ((evAs Φ as ρ).bind fun avs ρ1 => callBy (Φ f) avs ρ1) := by first | (rw [ev]; done) | (rw [ev]; rfl)
theorem ev_comp (tg : Tg) (it : It) (c : Eo) (e : E) (vs : List Nat) : ev Φ (.comp tg it c e vs) ρ = ((evIt Φ it ρ).bind fun xs ρ1 =>
      if vs.all (plainAt ρ1) = true then
        (match loopC (fun x ρ => (lift (bindT tg x ρ) ρ).bind fun ρ' _ => (evC Φ c ρ').bind fun k ρ2 =>
            if k = true then (ev Φ e ρ2).bind fun y ρ3 => .ok [y] (wipeE ρ3 vs) else .ok [] (wipeE ρ2 vs)) xs (wipeE ρ1 vs) with
        | .ok ys ρ2 => if ys.length ≤ 1000000 then .ok (.list ys) (restore ρ1 ρ2 vs) else .bad
        | _ => .bad)
      else .bad) := by first | (rw [ev]; done) | (rw [ev]; rfl)
theorem ev_comp2 (tg : Tg) (it : It) (c : Eo) (tg2 : Tg) (it2 : It) (c2 : Eo) (e : E) (vs : List Nat) (vs2 : List Nat) : ev Φ (.comp2 tg it c tg2 it2 c2 e vs vs2) ρ = ((evIt Φ it ρ).bind fun xs ρ1 =>
      if vs.all (plainAt ρ1) = true then
        (match loopC (fun x ρ => (lift (bindT tg x ρ) ρ).bind fun ρ' _ => (evC Φ c ρ').bind fun k ρ2 =>
            if k = true then (evIt Φ it2 ρ2).bind fun zs ρ3 => (loopC (fun z ρ => (lift (bindT tg2 z ρ) ρ).bind fun ρ' _ => (evC Φ c2 ρ').bind fun k ρ4 =>
              if k = true then (ev Φ e ρ4).bind fun y ρ5 => .ok [y] (wipeE ρ5 vs2) else .ok [] (wipeE ρ4 vs2)) zs (wipeE ρ3 vs2)).bind fun ys ρ6 => .ok ys (wipeE ρ6 vs)
            else .ok [] (wipeE ρ2 vs)) xs (wipeE ρ1 vs) with
        | .ok ys ρ2 => if ys.length ≤ 1000000 then .ok (.list ys) (restore ρ1 ρ2 vs) else .bad
        | _ => .bad)
      else .bad) := by first | (rw [ev]; done) | (rw [ev]; rfl)
@[simp] theorem ev_ino (n : Bool) (a : E) (i : Nat) : ev Φ (.ino n a i) ρ = ((ev Φ a ρ).bind fun x ρ1 => (lift (wr (ρ1.at i)) ρ1).bind fun xs _ => (lift (copIn x (.list xs)) ρ1).bind fun k ρ1 => .ok (.bool (if n then !k else k)) ρ1) := by first | (rw [ev]; done) | (rw [ev]; rfl)
@[simp] theorem ev_leno (i : Nat) : ev Φ (.leno i) ρ = ((lift (wr (ρ.at i)) ρ).bind fun xs _ => .ok (.int xs.length) ρ) := by first | (rw [ev]; done) | (rw [ev]; rfl)
@[simp] theorem ev_lenset (a : E) : ev Φ (.lenset a) ρ = ((ev Φ a ρ).bind fun x ρ1 => lift (lenSetD x) ρ1) := by first | (rw [ev]; done) | (rw [ev]; rfl)
@[simp] theorem ev_sortset (a : E) : ev Φ (.sortset a) ρ = ((ev Φ a ρ).bind fun x ρ1 => lift (sortSetD x) ρ1) := by first | (rw [ev]; done) | (rw [ev]; rfl)
theorem ev_sortsc (tg : Tg) (it : It) (c : Eo) (e : E) (vs : List Nat) : ev Φ (.sortsc tg it c e vs) ρ = ((evIt Φ it ρ).bind fun xs ρ1 =>
      if vs.all (plainAt ρ1) = true then
        (match loopC (fun x ρ => (lift (bindT tg x ρ) ρ).bind fun ρ' _ => (evC Φ c ρ').bind fun k ρ2 =>
            if k = true then (ev Φ e ρ2).bind fun y ρ3 => .ok [y] (wipeE ρ3 vs) else .ok [] (wipeE ρ2 vs)) xs (wipeE ρ1 vs) with
        | .ok ys ρ2 => lift (sortIntsD ys) (restore ρ1 ρ2 vs)
        | _ => .bad)
      else .bad) := by first | (rw [ev]; done) | (rw [ev]; rfl)
@[simp] theorem ev_rev (a : E) : ev Φ (.rev a) ρ = ((ev Φ a ρ).bind fun x ρ1 => lift (revD x) ρ1) := by first | (rw [ev]; done) | (rw [ev]; rfl)
@[simp] theorem ev_calltmp (f : Nat) (g : Nat) (as : As) (z : Int) : ev Φ (.calltmp f g as z) ρ = ((evAs Φ as ρ).bind fun avs ρ1 => tmpBy (Φ f) (Φ g) z avs ρ1) := by first | (rw [ev]; done) | (rw [ev]; rfl)
@[simp] theorem ev_listg (f : Nat) (as : As) : ev Φ (.listg f as) ρ = ((evAs Φ as ρ).bind fun avs ρ1 => genBy (Φ (1000 + f)) avs ρ1) := by first | (rw [ev]; done) | (rw [ev]; rfl)
@[simp] theorem ev_cnt (i : Nat) (b : E) : ev Φ (.cnt i b) ρ = ((lift (cntOf (ρ.at i)) ρ).bind fun ys _ => (ev Φ b ρ).bind fun y ρ1 => lift (cntD ys y) ρ1) := by first | (rw [ev]; done) | (rw [ev]; rfl)
@[simp] theorem evEs_nil  : evEs Φ (.nil ) ρ = (.ok [] ρ) := by first | (rw [evEs]; done) | (rw [evEs]; rfl)
@[simp] theorem evEs_cons (e : E) (r : Es) : evEs Φ (.cons e r) ρ = ((ev Φ e ρ).bind fun d ρ1 => (evEs Φ r ρ1).bind fun ds ρ2 => .ok (d :: ds) ρ2) := by first | (rw [evEs]; done) | (rw [evEs]; rfl)
@[simp] theorem evEs_star (e : E) (r : Es) : evEs Φ (.star e r) ρ = ((ev Φ e ρ).bind fun d ρ1 => (lift (dataOf d) ρ1).bind fun xs ρ1 => (evEs Φ r ρ1).bind fun ds ρ2 => .ok (xs ++ ds) ρ2) := by first | (rw [evEs]; done) | (rw [evEs]; rfl)
@[simp] theorem evAs_nil  : evAs Φ (.nil ) ρ = (.ok [] ρ) := by first | (rw [evAs]; done) | (rw [evAs]; rfl)
@[simp] theorem evAs_val (e : E) (r : As) : evAs Φ (.val e r) ρ = ((ev Φ e ρ).bind fun d ρ1 => (evAs Φ r ρ1).bind fun ds ρ2 => .ok (.v d :: ds) ρ2) := by first | (rw [evAs]; done) | (rw [evAs]; rfl)
@[simp] theorem evAs_mut (i : Nat) (r : As) : evAs Φ (.mut i r) ρ = ((lift (wr (ρ.at i)) ρ).bind fun _ _ => (evAs Φ r ρ).bind fun ds ρ2 => .ok (.m i :: ds) ρ2) := by first | (rw [evAs]; done) | (rw [evAs]; rfl)
@[simp] theorem evAs_scr (i : Nat) (r : As) : evAs Φ (.scr i r) ρ = ((lift (isScr (ρ.at i)) ρ).bind fun _ _ => (evAs Φ r ρ).bind fun ds ρ2 => .ok (.s i :: ds) ρ2) := by first | (rw [evAs]; done) | (rw [evAs]; rfl)
@[simp] theorem evAs_lend (i : Nat) (r : As) : evAs Φ (.lend i r) ρ = ((lift (isOwn (ρ.at i)) ρ).bind fun _ _ => (evAs Φ r ρ).bind fun ds ρ2 => .ok (.l i :: ds) ρ2) := by first | (rw [evAs]; done) | (rw [evAs]; rfl)
@[simp] theorem evIt_data (e : E) : evIt Φ (.data e) ρ = ((ev Φ e ρ).bind fun d ρ1 => lift (dataOf d) ρ1) := by first | (rw [evIt]; done) | (rw [evIt]; rfl)
@[simp] theorem evIt_rng (e : E) : evIt Φ (.rng e) ρ = ((ev Φ e ρ).bind fun d ρ1 => (lift (intOf d) ρ1).bind fun n ρ1 => if rngOk n = true then .ok (rngL n) ρ1 else .bad) := by first | (rw [evIt]; done) | (rw [evIt]; rfl)
@[simp] theorem evIt_zip (a : E) (b : E) : evIt Φ (.zip a b) ρ = ((ev Φ a ρ).bind fun x ρ1 => (ev Φ b ρ1).bind fun y ρ2 => (lift (tupOf x) ρ2).bind fun xs ρ2 => (lift (tupOf y) ρ2).bind fun ys ρ2 => .ok (zipL xs ys) ρ2) := by first | (rw [evIt]; done) | (rw [evIt]; rfl)
@[simp] theorem evIt_enum (e : E) : evIt Φ (.enum e) ρ = ((ev Φ e ρ).bind fun d ρ1 => (lift (tupOf d) ρ1).bind fun xs ρ1 => .ok (enumL xs 0) ρ1) := by first | (rw [evIt]; done) | (rw [evIt]; rfl)
@[simp] theorem evO_no  : evO Φ (.no ) ρ = (.ok none ρ) := by first | (rw [evO]; done) | (rw [evO]; rfl)
@[simp] theorem evO_yes (e : E) : evO Φ (.yes e) ρ = ((ev Φ e ρ).bind fun d ρ1 => (lift (intOf d) ρ1).bind fun n ρ1 => .ok (some n) ρ1) := by first | (rw [evO]; done) | (rw [evO]; rfl)
@[simp] theorem evC_no  : evC Φ (.no ) ρ = (.ok true ρ) := by first | (rw [evC]; done) | (rw [evC]; rfl)
@[simp] theorem evC_yes (e : E) : evC Φ (.yes e) ρ = ((ev Φ e ρ).bind fun d ρ1 => lift (tru d) ρ1) := by first | (rw [evC]; done) | (rw [evC]; rfl)
@[simp] theorem exS_set (i : Nat) (e : E) : exS Φ (.set i e) ρ = ((ev Φ e ρ).sr fun d ρ1 => if i < ρ1.length then .nx (ρ1.set i (.val d)) else .bad) := by first | (rw [exS]; done) | (rw [exS]; rfl)
@[simp] theorem exS_seto (i : Nat) (es : Es) : exS Φ (.seto i es) ρ = ((evEs Φ es ρ).sr fun xs ρ1 => if xs.length ≤ 1000000 ∧ i < ρ1.length then .nx (ρ1.set i (.own xs)) else .bad) := by first | (rw [exS]; done) | (rw [exS]; rfl)
@[simp] theorem exS_setn (i : Nat) (f : Nat) (as : As) : exS Φ (.setn i f as) ρ = ((evAs Φ as ρ).sr fun avs ρ1 => (lift (args ρ1 avs) ρ1).sr fun zs _ =>
      if (mutsOf avs).Nodup ∧ lends avs = false ∧ i < ρ1.length then (match Φ f zs with
      | .new xs outs => (lift (putBack ρ1 avs outs) ρ1).sr fun ρ2 _ => .nx (ρ2.set i (.own xs))
      | _ => .bad) else .bad) := by first | (rw [exS]; done) | (rw [exS]; rfl)
@[simp] theorem exS_unp (t : Tgs) (e : E) : exS Φ (.unp t e) ρ = ((ev Φ e ρ).sr fun d ρ1 => match bindT (.tup t) d ρ1 with
    | some ρ2 => .nx ρ2
    | none => .bad) := by first | (rw [exS]; done) | (rw [exS]; rfl)
@[simp] theorem exS_par (is : List Nat) (es : Es) : exS Φ (.par is es) ρ = ((evEs Φ es ρ).sr fun ss ρ1 => match setAll ρ1 is ss with
    | some ρ2 => .nx ρ2
    | none => .bad) := by first | (rw [exS]; done) | (rw [exS]; rfl)
@[simp] theorem exS_ret (e : E) : exS Φ (.ret e) ρ = ((ev Φ e ρ).sr fun d ρ1 => .rt d ρ1) := by first | (rw [exS]; done) | (rw [exS]; rfl)
@[simp] theorem exS_reto (es : Es) : exS Φ (.reto es) ρ = ((evEs Φ es ρ).sr fun xs ρ1 => if xs.length ≤ 1000000 then .rn xs ρ1 else .bad) := by first | (rw [exS]; done) | (rw [exS]; rfl)
@[simp] theorem exS_retn  : exS Φ (.retn ) ρ = (.rt .none ρ) := by first | (rw [exS]; done) | (rw [exS]; rfl)
@[simp] theorem exS_ex (e : E) : exS Φ (.ex e) ρ = ((ev Φ e ρ).sr fun _ ρ1 => .nx ρ1) := by first | (rw [exS]; done) | (rw [exS]; rfl)
@[simp] theorem exS_app (i : Nat) (e : E) : exS Φ (.app i e) ρ = ((lift (wr (ρ.at i)) ρ).sr fun _ _ => (ev Φ e ρ).sr fun d ρ1 => (lift (wr (ρ1.at i)) ρ1).sr fun xs _ => if xs.length < 1000000 then .nx (ρ1.set i (rew (ρ1.at i) (xs ++ [d]))) else .bad) := by first | (rw [exS]; done) | (rw [exS]; rfl)
@[simp] theorem exS_ext (i : Nat) (e : E) : exS Φ (.ext i e) ρ = ((lift (wr (ρ.at i)) ρ).sr fun _ _ => (ev Φ e ρ).sr fun d ρ1 => (lift (lstOf d) ρ1).sr fun ys _ => (lift (wr (ρ1.at i)) ρ1).sr fun xs _ =>
      if xs.length + ys.length ≤ 1000000 then .nx (ρ1.set i (rew (ρ1.at i) (xs ++ ys))) else .bad) := by first | (rw [exS]; done) | (rw [exS]; rfl)
@[simp] theorem exS_sto (i : Nat) (k : E) (e : E) : exS Φ (.sto i k e) ρ = ((ev Φ e ρ).sr fun d ρ1 => (lift (wr (ρ1.at i)) ρ1).sr fun _ _ => (ev Φ k ρ1).sr fun z ρ2 => (lift (wr (ρ2.at i)) ρ2).sr fun xs _ => (lift (stoL xs z d) ρ2).sr fun ys _ => .nx (ρ2.set i (rew (ρ2.at i) ys))) := by first | (rw [exS]; done) | (rw [exS]; rfl)
@[simp] theorem exS_ife (c : E) (a : Ss) (b : Ss) : exS Φ (.ife c a b) ρ = (((ev Φ c ρ).bind fun x ρ1 => lift (tru x) ρ1).sr fun k ρ1 => if k = true then exSs Φ a ρ1 else exSs Φ b ρ1) := by first | (rw [exS]; done) | (rw [exS]; rfl)
theorem exS_for_ (t : Tg) (it : It) (b : Ss) : exS Φ (.for_ t it b) ρ = ((evIt Φ it ρ).sr fun xs ρ1 => loopF (fun x ρ => match bindT t x ρ with
    | some ρ' => exSs Φ b ρ'
    | none => .bad) xs ρ1) := by first | (rw [exS]; done) | (rw [exS]; rfl)
theorem exS_wh (n : Nat) (c : E) (b : Ss) : exS Φ (.wh n c b) ρ = (loopW (fun ρ => (ev Φ c ρ).bind fun x ρ1 => lift (tru x) ρ1) (fun ρ => exSs Φ b ρ) n ρ) := by first | (rw [exS]; done) | (rw [exS]; rfl)
@[simp] theorem exS_brk  : exS Φ (.brk ) ρ = (.bk ρ) := by first | (rw [exS]; done) | (rw [exS]; rfl)
@[simp] theorem exS_cont  : exS Φ (.cont ) ρ = (.ct ρ) := by first | (rw [exS]; done) | (rw [exS]; rfl)
@[simp] theorem exS_pass  : exS Φ (.pass ) ρ = (.nx ρ) := by first | (rw [exS]; done) | (rw [exS]; rfl)
@[simp] theorem exS_raise (x : PySem.Str) : exS Φ (.raise x) ρ = (.exc ⟨x, []⟩ ρ) := by first | (rw [exS]; done) | (rw [exS]; rfl)
@[simp] theorem exS_never  : exS Φ (.never ) ρ = (.bad) := by first | (rw [exS]; done) | (rw [exS]; rfl)
@[simp] theorem exS_retv (i : Nat) : exS Φ (.retv i) ρ = ((lift (isOwn (ρ.at i)) ρ).sr fun xs _ => .rn xs ρ) := by first | (rw [exS]; done) | (rw [exS]; rfl)
@[simp] theorem exS_paro (i : Nat) (j : Nat) (e : E) : exS Φ (.paro i j e) ρ = ((ev Φ e ρ).calm.sr fun d ρ1 => if i < ρ1.length ∧ j < ρ1.length ∧ i ≠ j then .nx ((ρ1.set i (.own [])).set j (.val d)) else .bad) := by first | (rw [exS]; done) | (rw [exS]; rfl)
@[simp] theorem exSs_nil  : exSs Φ (.nil ) ρ = (.nx ρ) := by first | (rw [exSs]; done) | (rw [exSs]; rfl)
@[simp] theorem exSs_cons (s : S) (r : Ss) : exSs Φ (.cons s r) ρ = ((exS Φ s ρ).seq fun ρ1 => exSs Φ r ρ1) := by first | (rw [exSs]; done) | (rw [exSs]; rfl)
@[simp] theorem slotsOf_nil (k : Nat) : slotsOf [] k = [] := rfl
@[simp] theorem slotsOf_val (d : D) (r : List Arg) (k : Nat) : slotsOf (.val d :: r) k = .val d :: slotsOf r k := rfl
@[simp] theorem slotsOf_mut (d : List D) (r : List Arg) (k : Nat) : slotsOf (.mut d :: r) k = .bor k d :: slotsOf r (k + 1) := rfl
@[simp] theorem slotsOf_scr (d : List Int) (r : List Arg) (k : Nat) : slotsOf (.scr d :: r) k = .scr d :: slotsOf r k := rfl
@[simp] theorem outsOf_nil (ρ : Env) (k : Nat) : outsOf [] ρ k = some [] := by cases ρ <;> rfl
@[simp] theorem outsOf_val (d : D) (r : List Arg) (s : Slot) (ρ : Env) (k : Nat) : outsOf (.val d :: r) (s :: ρ) k = outsOf r ρ k := rfl
@[simp] theorem outsOf_scr (d : List Int) (r : List Arg) (s : Slot) (ρ : Env) (k : Nat) : outsOf (.scr d :: r) (s :: ρ) k = outsOf r ρ k := rfl
@[simp] theorem outsOf_mut (d xs : List D) (r : List Arg) (ρ : Env) (k j : Nat) : outsOf (.mut d :: r) (.bor j xs :: ρ) k = if j = k then (outsOf r ρ (k + 1)).map (xs :: ·) else none := rfl
@[simp] theorem fin_nx (as : List Arg) : (SR.nx ρ).fin as = match outsOf as ρ 0 with | some o => .ok .none o | none => .bad := rfl
@[simp] theorem fin_rt (as : List Arg) (d : D) : (SR.rt d ρ).fin as = match outsOf as ρ 0 with | some o => .ok d o | none => .bad := rfl
@[simp] theorem fin_rn (as : List Arg) (d : List D) : (SR.rn d ρ).fin as = match outsOf as ρ 0 with | some o => .new d o | none => .bad := rfl
@[simp] theorem fin_bad (as : List Arg) : (SR.bad).fin as = .bad := rfl
@[simp] theorem mutsOf_nil : mutsOf [] = [] := rfl
@[simp] theorem mutsOf_m (i : Nat) (r : List Av) : mutsOf (.m i :: r) = i :: mutsOf r := rfl
@[simp] theorem mutsOf_v (d : D) (r : List Av) : mutsOf (.v d :: r) = mutsOf r := rfl
@[simp] theorem mutsOf_s (d : Nat) (r : List Av) : mutsOf (.s d :: r) = mutsOf r := rfl
@[simp] theorem mutsOf_l (d : Nat) (r : List Av) : mutsOf (.l d :: r) = mutsOf r := rfl
@[simp] theorem lends_nil : lends [] = false := rfl
@[simp] theorem lends_m (i : Nat) (r : List Av) : lends (.m i :: r) = lends r := rfl
@[simp] theorem lends_v (d : D) (r : List Av) : lends (.v d :: r) = lends r := rfl
@[simp] theorem lends_s (d : Nat) (r : List Av) : lends (.s d :: r) = lends r := rfl
@[simp] theorem lends_l (d : Nat) (r : List Av) : lends (.l d :: r) = true := rfl
@[simp] theorem args_nil : args ρ [] = some [] := rfl
@[simp] theorem args_cons (a : Av) (r : List Av) : args ρ (a :: r) = (a.arg ρ).bind fun x => (args ρ r).map (x :: ·) := rfl
@[simp] theorem arg_v (d : D) : Av.arg ρ (.v d) = some (.val d) := rfl
@[simp] theorem arg_m (i : Nat) : Av.arg ρ (.m i) = (wr (ρ.at i)).map .mut := rfl
@[simp] theorem arg_s (i : Nat) : Av.arg ρ (.s i) = (isScr (ρ.at i)).map .scr := rfl
@[simp] theorem arg_l (i : Nat) : Av.arg ρ (.l i) = (isOwn (ρ.at i)).map fun xs => .val (.list xs) := rfl
@[simp] theorem putBack_nil : putBack ρ [] [] = some ρ := rfl
@[simp] theorem putBack_m (i : Nat) (r : List Av) (xs : List D) (o : List (List D)) : putBack ρ (.m i :: r) (xs :: o) = putBack (ρ.set i (rew (ρ.at i) xs)) r o := rfl
@[simp] theorem putBack_v (d : D) (r : List Av) (o : List (List D)) : putBack ρ (.v d :: r) o = putBack ρ r o := by cases o <;> rfl
@[simp] theorem putBack_s (d : Nat) (r : List Av) (o : List (List D)) : putBack ρ (.s d :: r) o = putBack ρ r o := by cases o <;> rfl
@[simp] theorem putBack_l (d : Nat) (r : List Av) (o : List (List D)) : putBack ρ (.l d :: r) o = putBack ρ r o := by cases o <;> rfl
@[simp] theorem fns_zero (f : Fn) (l : List Fn) : fns (f :: l) 0 = f := rfl
@[simp] theorem fns_succ (f : Fn) (l : List Fn) (i : Nat) : fns (f :: l) (i + 1) = fns l i := rfl
@[simp] theorem fns_one (f g : Fn) (l : List Fn) : fns (f :: g :: l) 1 = g := rfl
@[simp] theorem cop_eq' (x y : D) : cop .eq x y = copEq x y := rfl
@[simp] theorem cop_ne' (x y : D) : cop .ne x y = (copEq x y).map (! ·) := rfl
@[simp] theorem cop_lt' (x y : D) : cop .lt x y = copLt x y := rfl
@[simp] theorem cop_le' (x y : D) : cop .le x y = copI (fun i j => decide (i ≤ j)) x y := rfl
@[simp] theorem cop_gt' (x y : D) : cop .gt x y = copI (fun i j => decide (j < i)) x y := rfl
@[simp] theorem cop_ge' (x y : D) : cop .ge x y = copI (fun i j => decide (j ≤ i)) x y := rfl
@[simp] theorem cop_in' (x y : D) : cop .inn x y = copIn x y := rfl
@[simp] theorem cop_nin' (x y : D) : cop .nin x y = (copIn x y).map (! ·) := rfl
@[simp] theorem cop_is' (x y : D) : cop .is x y = copIs x y := rfl
@[simp] theorem cop_isn' (x y : D) : cop .isn x y = (copIs x y).map (! ·) := rfl
@[simp] theorem copI_int (f : Int → Int → Bool) (i j : Int) : copI f (.int i) (.int j) = some (f i j) := rfl
@[simp] theorem copLt_int (i j : Int) : copLt (.int i) (.int j) = some (decide (i < j)) := rfl
@[simp] theorem copIs_none (x : D) : copIs x .none = some (isNon x) := rfl
@[simp] theorem copIs_bool (a b : Bool) : copIs (.bool a) (.bool b) = some (decide (a = b)) := rfl
@[simp] theorem isNon_none : isNon .none = true := rfl
@[simp] theorem isNon_int (i : Int) : isNon (.int i) = false := rfl
@[simp] theorem bi_len (d : D) : biD .len d = lenD d := rfl
@[simp] theorem bi_all (d : D) : biD .all d = allD d := rfl
@[simp] theorem bi_any (d : D) : biD .any d = anyD d := rfl
@[simp] theorem bi_tuple (d : D) : biD .tuple d = tupD d := rfl
@[simp] theorem bi_list (d : D) : biD .list d = lstD d := rfl
@[simp] theorem bi_min (d : D) : biD .min d = minD d := rfl
@[simp] theorem bi_repr (d : D) : biD .repr d = reprD d := rfl
@[simp] theorem bi_sorted (d : D) : biD .sorted d = sortD d := rfl
@[simp] theorem len_list (xs : List D) : lenD (.list xs) = some (.int xs.length) := rfl
@[simp] theorem len_tuple (xs : List D) : lenD (.tuple xs) = some (.int xs.length) := rfl
@[simp] theorem tup_list (xs : List D) : tupD (.list xs) = some (.tuple xs) := rfl
@[simp] theorem tup_tup (xs : List D) : tupD (.tuple xs) = some (.tuple xs) := rfl
@[simp] theorem lst_tup (xs : List D) : lstD (.tuple xs) = some (.list xs) := rfl
@[simp] theorem lst_lst (xs : List D) : lstD (.list xs) = some (.list xs) := rfl
@[simp] theorem bindT_nm (i : Nat) (d : D) : bindT (.nm i) d ρ = if i < ρ.length then some (ρ.set i (.val d)) else none := rfl
@[simp] theorem bindT_tup (ts : Tgs) (ds : List D) : bindT (.tup ts) (.tuple ds) ρ = bindTs ts ds ρ := rfl
@[simp] theorem bindT_lst (ts : Tgs) (ds : List D) : bindT (.tup ts) (.list ds) ρ = bindTs ts ds ρ := rfl
@[simp] theorem bindTs_nil : bindTs .nil [] ρ = some ρ := rfl
@[simp] theorem bindTs_cons (t : Tg) (r : Tgs) (d : D) (ds : List D) : bindTs (.cons t r) (d :: ds) ρ = (bindT t d ρ).bind fun ρ1 => bindTs r ds ρ1 := rfl
@[simp] theorem rng_ok (n : Int) : rngOk n = decide (-1000000 ≤ n ∧ n ≤ 1000000) := rfl
end
end DM
/-! What the small syntax computes: draws. -/
namespace DM
open DR
abbrev bCell : Ss := (.cons (.ife (.cmp .lt (.var 1) (.lens 0)) (.cons (.ret (.ixs 0 (.var 1))) .nil) .nil) (.cons (.ret (.lit (.int 0))) .nil))
abbrev bPen : Ss := (.cons (.reto (.cons (.mm true (.lit (.int 0)) (.bop .sub (.var 0) (.bop .pow (.lit (.int 10)) (.lit (.int 18))))) (.cons (.bop .add (.bop .mod (.var 0) (.lit (.int 2147483629))) (.lit (.int 1))) (.cons (.lit (.int 0)) .nil)))) .nil)
abbrev bDraw : Ss := (.cons (.ife (.cmp .gt (.ixo 0 (.lit (.int 0))) (.lit (.int 0))) (.cons (.set 2 (.bop .mod (.ixo 0 (.lit (.int 0))) (.var 1))) (.cons (.sto 0 (.lit (.int 0)) (.bop .fdiv (.ixo 0 (.lit (.int 0))) (.var 1))) (.cons (.ret (.var 2)) .nil))) .nil) (.cons (.sto 0 (.lit (.int 2)) (.bop .add (.ixo 0 (.lit (.int 2))) (.lit (.int 1)))) (.cons (.sto 0 (.lit (.int 1)) (.bop .mod (.bop .add (.bop .add (.bop .mul (.ixo 0 (.lit (.int 1))) (.lit (.int 48271))) (.bop .mul (.lit (.int 1009)) (.ixo 0 (.lit (.int 2))))) (.lit (.int 7))) (.lit (.int 2147483647)))) (.cons (.set 3 (.bop .mod (.bop .add (.bop .add (.bop .mul (.ixo 0 (.lit (.int 1))) (.ixo 0 (.lit (.int 1)))) (.bop .mul (.lit (.int 69621)) (.ixo 0 (.lit (.int 1))))) (.lit (.int 11))) (.lit (.int 2147483629)))) (.cons (.set 3 (.bop .mod (.bop .add (.bop .mul (.var 3) (.var 3)) (.bop .mul (.lit (.int 40014)) (.var 3))) (.lit (.int 2147483587)))) (.cons (.ret (.bop .mod (.bop .fdiv (.var 3) (.lit (.int 16))) (.var 1))) .nil))))))
theorem draw_pos (Φ : Nat → Fn) (a b c m : Int) (ha : 0 < a) (hm : 0 < m) (hm2 : m < 1073741824) : run Φ 2 4 bDraw [.mut [.int a, .int b, .int c], .val (.int m)] = .ok (.int (a % m)) [[.int (a / m), .int b, .int c]] := by
  simp [run, bDraw, slotsOf, exSs, exS, ev, Env.at, wr, Res.bind, Res.sr, lift, Lit.d, ixD, L2.atI, L2.ixN, cop, copI, tru, ha, hm, hm2, bop, bopInt, SR.seq, stoL, rew, SR.fin, outsOf]
theorem draw_neg (Φ : Nat → Fn) (a b c m : Int) (ha : ¬ 0 < a) (hm : 0 < m) : ∃ r b' c', DR.run Φ 2 4 bDraw [.mut [.int a, .int b, .int c], .val (.int m)] = .ok (.int (r % m)) [[.int a, .int b', .int c']] := by
  generalize hb : (b * 48271 + 1009 * (c + 1) + 7) % 2147483647 = b1
  have b0 : 0 ≤ b1 := by omega
  have b2 : b1 < 2147483647 := by omega
  generalize hx : (b1 * b1 + 69621 * b1 + 11) % 2147483629 = x1
  have x0 : 0 ≤ x1 := by omega
  have x2 : x1 < 2147483629 := by omega
  have lb : -18446744073709551616 < b1 ∧ b1 < 18446744073709551616 := by omega
  have lx : -18446744073709551616 < x1 ∧ x1 < 18446744073709551616 := by omega
  refine ⟨(x1 * x1 + 40014 * x1) % 2147483587 / 16, b1, c + 1, ?_⟩
  simp [run, bDraw, slotsOf, exSs, exS, ev, Env.at, wr, Res.bind, Res.sr, lift, Lit.d, ixD, L2.atI, L2.ixN, cop, copI, tru, ha, hm, bop, bopInt, bopMul, bopAdd, SR.seq, stoL, rew, SR.fin, outsOf, hb, lb, hx, lx]
/-- a draw: a number from 0 to m - 1, the pen goes on -/
theorem draw_ok (Φ : Nat → Fn) (a b c m : Int) (hm : 0 < m) (hm2 : m < 1073741824) : ∃ r a' b' c', DR.run Φ 2 4 bDraw [.mut [.int a, .int b, .int c], .val (.int m)] = .ok (.int r) [[.int a', .int b', .int c']] ∧ 0 ≤ r ∧ r < m := by
  by_cases ha : 0 < a
  · exact ⟨_, _, _, _, draw_pos Φ a b c m ha hm hm2, Int.emod_nonneg _ (by omega), Int.emod_lt_of_pos _ hm⟩
  · obtain ⟨r, b', c', e⟩ := draw_neg Φ a b c m ha hm
    exact ⟨_, _, _, _, e, Int.emod_nonneg _ (by omega), Int.emod_lt_of_pos _ hm⟩
theorem pen_ok (Φ : Nat → Fn) (x : Int) : ∃ a b, DR.run Φ 1 1 bPen [.val (.int x)] = .new [.int a, .int b, .int 0] [] := by
  refine ⟨if x - 10 ^ 18 > 0 then x - 10 ^ 18 else 0, x % 2147483629 + 1, ?_⟩
  simp [run, bPen, slotsOf, exSs, exS, ev, evEs, Env.at, Res.bind, Res.sr, lift, Lit.d, mmD, bop, bopInt, bopAdd, SR.seq, SR.fin, outsOf]
theorem cell_ok (Φ : Nat → Fn) (ns : List Int) (k : Nat) : ∃ x, DR.run Φ 2 2 bCell [.scr ns, .val (.int k)] = .ok (.int x) [] := by
  by_cases h : k < ns.length
  · refine ⟨ns[k], ?_⟩
    have h' : (k : Int) < (ns.length : Int) := by omega
    simp [run, bCell, slotsOf, exSs, exS, ev, Env.at, isScr, Res.bind, Res.sr, lift, Lit.d, ixD, L2.atI, L2.ixN, cop, copI, copLt, tru, h, h', SR.seq, SR.fin, outsOf]
  · refine ⟨0, ?_⟩
    have h' : ¬ (k : Int) < (ns.length : Int) := by omega
    simp [run, bCell, slotsOf, exSs, exS, ev, Env.at, isScr, Res.bind, Res.sr, lift, Lit.d, ixD, L2.atI, L2.ixN, cop, copI, copLt, tru, h, h', SR.seq, SR.fin, outsOf]
/-- a loop that comes back to the same kind of place -/
theorem loopF_inv {f : D → Env → SR} (I : Env → Prop) : ∀ (xs : List D) (ρ : Env), I ρ → (∀ x ∈ xs, ∀ ρ, I ρ → ∃ ρ', f x ρ = .nx ρ' ∧ I ρ') → ∃ ρ', loopF f xs ρ = .nx ρ' ∧ I ρ'
  | [], ρ, h, _ => ⟨ρ, rfl, h⟩
  | x :: xs, ρ, h, k => by
    obtain ⟨ρ1, e, h1⟩ := k x List.mem_cons_self ρ h
    obtain ⟨ρ2, e2, h2⟩ := loopF_inv I xs ρ1 h1 fun y m => k y (List.mem_cons_of_mem _ m)
    exact ⟨ρ2, by rw [loopF, e]; exact e2, h2⟩
/-- the cells that a law looks at -/
theorem mem_rng {n : Int} {x : D} (h : x ∈ rngL n) : ∃ k : Nat, x = .int k ∧ (k : Int) < n := by
  unfold rngL at h
  obtain ⟨k, hk, rfl⟩ := List.mem_map.mp h
  exact ⟨k, rfl, by have := List.mem_range.mp hk; omega⟩
theorem for_inv {Φ : Nat → Fn} {t : Tg} {it : It} {b : Ss} {ρ ρ1 : Env} {xs : List D} (I : Env → Prop) (h : evIt Φ it ρ = .ok xs ρ1) (h1 : I ρ1)
    (k : ∀ x ∈ xs, ∀ ρ, I ρ → ∃ ρ1 ρ', bindT t x ρ = some ρ1 ∧ exSs Φ b ρ1 = .nx ρ' ∧ I ρ') : ∃ ρ', exS Φ (.for_ t it b) ρ = .nx ρ' ∧ I ρ' := by
  rw [exS_for_, h, sr_ok]
  refine loopF_inv I xs ρ1 h1 fun x m ρ hI => ?_
  obtain ⟨ρ1, ρ', e1, e2, e3⟩ := k x m ρ hI
  exact ⟨ρ', by rw [e1]; exact e2, e3⟩
abbrev itCells : It := .rng (.mm true (.lit (.int 1)) (.mm false (.lens 0) (.lit (.int 3))))
theorem evIt_cells (Φ : Nat → Fn) (ns : List Int) (r : Env) : ∃ n : Int, evIt Φ itCells (.scr ns :: r) = .ok (rngL n) (.scr ns :: r) := by
  refine ⟨if (if (3 : Int) < ns.length then 3 else (ns.length : Int)) > 1 then (if (3 : Int) < ns.length then 3 else (ns.length : Int)) else 1, ?_⟩
  have ok : rngOk (if (if (3 : Int) < ns.length then 3 else (ns.length : Int)) > 1 then (if (3 : Int) < ns.length then 3 else (ns.length : Int)) else 1) = true := by
    unfold rngOk
    refine decide_eq_true ?_
    split <;> split <;> omega
  simp only [itCells, evIt_rng, ev_mm, ev_lit, lit_int, bind_ok, ev_lens, at_def, List.getElem?_cons_zero, Option.getD_some, isScr_scr, lift_some, mmD, Bool.false_eq_true, if_false, if_true, intOf, ok]
def isT : FRes → Bool
  | .ok (.bool true) [] => true
  | _ => false
theorem isT_ok {r : FRes} (h : isT r = true) : r = .ok (.bool true) [] := by
  unfold isT at h
  split at h
  · rfl
  · cases h
end DM
/-! Rules, sets and books as data. -/
namespace DM
open DR
/-! shapes -/
structure Sh (k : Nat) (d : D) : Prop where
  lay : d.canLay0 = true
  dep : d.depth ≤ k
theorem Sh.mono {j k : Nat} {d : D} (h : Sh j d) (le : j ≤ k) : Sh k d := ⟨h.lay, Nat.le_trans h.dep le⟩
theorem Sh.shp {k : Nat} {d : D} (h : Sh k d) (le : k ≤ 64 := by decide) : shp d = true := by
  show PySem.SeqAt.shaped d = true
  unfold PySem.SeqAt.shaped
  rw [h.lay, decide_eq_true (Nat.le_trans h.dep le)]
  rfl
theorem sh_none : Sh 0 .none := ⟨rfl, Nat.le_refl _⟩
theorem sh_int (i : Int) : Sh 0 (.int i) := ⟨rfl, Nat.le_refl _⟩
theorem sh_bool (b : Bool) : Sh 0 (.bool b) := ⟨rfl, Nat.le_refl _⟩
theorem sh_all {k : Nat} : ∀ {xs : List D}, (∀ x ∈ xs, Sh k x) → PySem.PyData.canLayAll0 xs = true ∧ PySem.PyData.depthAll xs ≤ k
  | [], _ => ⟨rfl, Nat.zero_le _⟩
  | x :: xs, h => by
    obtain ⟨a, b⟩ := sh_all fun y m => h y (List.mem_cons_of_mem _ m)
    have c := h x List.mem_cons_self
    refine ⟨?_, ?_⟩
    · rw [PySem.PyData.canLayAll0, c.lay, a]
      rfl
    · rw [PySem.PyData.depthAll]
      exact Nat.max_le.mpr ⟨c.dep, b⟩
theorem sh_tup {k : Nat} {xs : List D} (h : ∀ x ∈ xs, Sh k x) : Sh (k + 1) (.tuple xs) := by
  obtain ⟨a, b⟩ := sh_all h
  exact ⟨by rw [PySem.PyData.canLay0]; exact a, by rw [PySem.PyData.depth]; omega⟩
theorem sh_lst {k : Nat} {xs : List D} (h : ∀ x ∈ xs, Sh k x) : Sh (k + 1) (.list xs) := by
  obtain ⟨a, b⟩ := sh_all h
  exact ⟨by rw [PySem.PyData.canLay0]; exact a, by rw [PySem.PyData.depth]; omega⟩
theorem sh_map {α : Type} {k : Nat} {f : α → D} {xs : List α} (h : ∀ x ∈ xs, Sh k (f x)) : ∀ y ∈ xs.map f, Sh k y := by
  intro y m
  obtain ⟨x, hx, rfl⟩ := List.mem_map.mp m
  exact h x hx
/-! encodings -/
def eS (s : List Int) : D := .tuple (s.map .int)
structure Ru where
  hd : Option Int
  ho : List Int
  fa : List Int
  deriving DecidableEq
def eH : Option Int → D
  | none => .none
  | some i => .int i
def eR (r : Ru) : D := .tuple [eH r.hd, eS r.ho, eS r.fa]
def eRs (rs : List Ru) : D := .tuple (rs.map eR)
def eB (n : Int) (rs : List Ru) : D := .tuple [.int n, eRs rs]
theorem sh_eS (s : List Int) : Sh 1 (eS s) := sh_tup (sh_map fun i _ => sh_int i)
theorem sh_eH (h : Option Int) : Sh 0 (eH h) := by
  cases h
  · exact sh_none
  · exact sh_int _
theorem sh_eR (r : Ru) : Sh 2 (eR r) := sh_tup (by
  intro x m
  simp only [List.mem_cons, List.not_mem_nil, or_false] at m
  rcases m with rfl | rfl | rfl
  · exact (sh_eH _).mono (by decide)
  · exact sh_eS _
  · exact sh_eS _)
theorem sh_eRs (rs : List Ru) : Sh 3 (eRs rs) := sh_tup (sh_map fun r _ => sh_eR r)
theorem sh_eB (n : Int) (rs : List Ru) : Sh 4 (eB n rs) := sh_tup (by
  intro x m
  simp only [List.mem_cons, List.not_mem_nil, or_false] at m
  rcases m with rfl | rfl
  · exact (sh_int _).mono (by decide)
  · exact sh_eRs _)
@[simp] theorem shp_int (i : Int) : shp (.int i) = true := (sh_int i).shp
@[simp] theorem shp_none : shp .none = true := sh_none.shp
@[simp] theorem shp_bool (b : Bool) : shp (.bool b) = true := (sh_bool b).shp
@[simp] theorem shp_eS (s : List Int) : shp (eS s) = true := (sh_eS s).shp
@[simp] theorem shp_eH (s : Option Int) : shp (eH s) = true := (sh_eH s).shp
@[simp] theorem shp_eR (r : Ru) : shp (eR r) = true := (sh_eR r).shp
@[simp] theorem shp_eRs (r : List Ru) : shp (eRs r) = true := (sh_eRs r).shp
@[simp] theorem shp_eB (n : Int) (r : List Ru) : shp (eB n r) = true := (sh_eB n r).shp
@[simp] theorem shp_ints (s : List Int) : shp (.list (s.map .int)) = true := (sh_lst (sh_map fun i _ => sh_int i)).shp
@[simp] theorem shp_nil : shp (.list []) = true := (sh_lst (k := 0) (by intro x m; cases m)).shp
@[simp] theorem shp_lR (rs : List Ru) : shp (.list (rs.map eR)) = true := (sh_lst (sh_map fun i _ => sh_eR i)).shp
@[simp] theorem shp_lS (rs : List (List Int)) : shp (.list (rs.map eS)) = true := (sh_lst (sh_map fun i _ => sh_eS i)).shp
/-! equality -/
@[simp] theorem eqv_int (a b : Int) : PySem.PyData.eqv (.int a) (.int b) = decide (a = b) := by
  simp [PySem.PyData.eqv, Bool.beq_eq_decide_eq]
theorem eqv_all {α : Type} [DecidableEq α] {f : α → D} (h : ∀ a b, PySem.PyData.eqv (f a) (f b) = decide (a = b)) : ∀ xs ys : List α, PySem.PyData.eqvAll (xs.map f) (ys.map f) = decide (xs = ys)
  | [], [] => by simp [PySem.PyData.eqvAll]
  | [], _ :: _ => by simp [PySem.PyData.eqvAll]
  | _ :: _, [] => by simp [PySem.PyData.eqvAll]
  | x :: xs, y :: ys => by
    rw [List.map_cons, List.map_cons, PySem.PyData.eqvAll, h, eqv_all h xs ys]
    simp
@[simp] theorem eqv_eS (s t : List Int) : PySem.PyData.eqv (eS s) (eS t) = decide (s = t) := by
  rw [eS, eS, PySem.PyData.eqv]
  exact eqv_all eqv_int s t
@[simp] theorem eqv_eH (s t : Option Int) : PySem.PyData.eqv (eH s) (eH t) = decide (s = t) := by
  cases s <;> cases t <;> simp [eH, PySem.PyData.eqv]
@[simp] theorem eqv_eR (s t : Ru) : PySem.PyData.eqv (eR s) (eR t) = decide (s = t) := by
  cases s
  cases t
  simp [eR, PySem.PyData.eqv, PySem.PyData.eqvAll, Bool.and_assoc]
@[simp] theorem eqv_lR (s t : List Ru) : PySem.PyData.eqv (.list (s.map eR)) (.list (t.map eR)) = decide (s = t) := by
  rw [PySem.PyData.eqv]
  exact eqv_all eqv_eR s t
@[simp] theorem eqv_eRs (s t : List Ru) : PySem.PyData.eqv (eRs s) (eRs t) = decide (s = t) := by
  rw [eRs, eRs, PySem.PyData.eqv]
  exact eqv_all eqv_eR s t
theorem any_eqv {α : Type} [DecidableEq α] {f : α → D} (h : ∀ a b, PySem.PyData.eqv (f a) (f b) = decide (a = b)) (xs : List α) (a : α) : ((xs.map f).any fun z => PySem.PyData.eqv z (f a)) = decide (a ∈ xs) := by
  rw [List.any_map]
  induction xs with
  | nil => simp
  | cons x xs ih =>
    rw [List.any_cons, ih]
    simp only [Function.comp, h]
    simp [eq_comm]
theorem in_tup {x : D} {ys : List D} (h1 : shp x = true) (h2 : shp (.tuple ys) = true) : copIn x (.tuple ys) = some (ys.any fun z => PySem.PyData.eqv z x) := by
  show (if shp x = true ∧ shp (.tuple ys) = true then some (ys.any fun z => PySem.PyData.eqv z x) else none) = _
  rw [if_pos ⟨h1, h2⟩]
theorem in_lst {x : D} {ys : List D} (h1 : shp x = true) (h2 : shp (.list ys) = true) : copIn x (.list ys) = some (ys.any fun z => PySem.PyData.eqv z x) := by
  show (if shp x = true ∧ shp (.list ys) = true then some (ys.any fun z => PySem.PyData.eqv z x) else none) = _
  rw [if_pos ⟨h1, h2⟩]
@[simp] theorem in_set (a : Int) (s : List Int) : copIn (.int a) (eS s) = some (decide (a ∈ s)) := by
  unfold eS
  rw [in_tup (shp_int a) (sh_eS s).shp, any_eqv eqv_int]
@[simp] theorem in_head (h : Option Int) (s : List Int) : copIn (eH h) (eS s) = some (match h with
    | some a => decide (a ∈ s)
    | none => false) := by
  cases h with
  | some a => exact in_set a s
  | none =>
    unfold eS
    rw [in_tup (shp_eH none) (sh_eS s).shp, List.any_map]
    simp [eH, PySem.PyData.eqv]
@[simp] theorem in_ints (a : Int) (s : List Int) : copIn (.int a) (.list (s.map .int)) = some (decide (a ∈ s)) := by
  rw [in_lst (shp_int a) (shp_ints s), any_eqv eqv_int]
@[simp] theorem in_rules (r : Ru) (s : List Ru) : copIn (eR r) (.list (s.map eR)) = some (decide (r ∈ s)) := by
  rw [in_lst (shp_eR r) (shp_lR s), any_eqv eqv_eR]
@[simp] theorem in_eRs (r : Ru) (s : List Ru) : copIn (eR r) (eRs s) = some (decide (r ∈ s)) := by
  unfold eRs
  rw [in_tup (shp_eR r) (sh_eRs s).shp, any_eqv eqv_eR]
/-! reading -/
@[simp] theorem data_eS (s : List Int) : dataOf (eS s) = some (s.map .int) := rfl
@[simp] theorem data_eRs (s : List Ru) : dataOf (eRs s) = some (s.map eR) := rfl
@[simp] theorem data_list (s : List D) : dataOf (.list s) = some s := rfl
@[simp] theorem data_tup (s : List D) : dataOf (.tuple s) = some s := rfl
@[simp] theorem tup_eS (s : List Int) : tupOf (eS s) = some (s.map .int) := rfl
@[simp] theorem tup_eRs (s : List Ru) : tupOf (eRs s) = some (s.map eR) := rfl
@[simp] theorem ix_eR0 (r : Ru) : ixD (eR r) (.int 0) = some (eH r.hd) := rfl
@[simp] theorem ix_eR1 (r : Ru) : ixD (eR r) (.int 1) = some (eS r.ho) := rfl
@[simp] theorem ix_eR2 (r : Ru) : ixD (eR r) (.int 2) = some (eS r.fa) := rfl
@[simp] theorem ix_eB0 (n : Int) (r : List Ru) : ixD (eB n r) (.int 0) = some (.int n) := rfl
@[simp] theorem ix_eB1 (n : Int) (r : List Ru) : ixD (eB n r) (.int 1) = some (eRs r) := rfl
@[simp] theorem int_of (i : Int) : intOf (.int i) = some i := rfl
theorem bools_map {α : Type} (p : α → Bool) : ∀ xs : List α, boolsOf (xs.map fun a => .bool (p a)) = some (xs.map p)
  | [] => rfl
  | x :: xs => by
    show (boolsOf (xs.map fun a => .bool (p a))).map (p x :: ·) = _
    rw [bools_map p xs]
    rfl
@[simp] theorem all_map {α : Type} (p : α → Bool) (xs : List α) : allD (.list (xs.map fun a => .bool (p a))) = some (.bool (xs.all p)) := by
  show (boolsOf (xs.map fun a => .bool (p a))).map (fun bs => PySem.PyData.bool (bs.all id)) = _
  rw [bools_map]
  simp
@[simp] theorem any_map {α : Type} (p : α → Bool) (xs : List α) : anyD (.list (xs.map fun a => .bool (p a))) = some (.bool (xs.any p)) := by
  show (boolsOf (xs.map fun a => .bool (p a))).map (fun bs => PySem.PyData.bool (bs.any id)) = _
  rw [bools_map]
  simp
/-! comprehensions -/
theorem wipe_at (ρ : Env) : ∀ (vs : List Nat) (j : Nat), (wipeE ρ vs).at j = if j ∈ vs then .un else ρ.at j
  | [], j => by simp [wipeE]
  | v :: vs, j => by
    rw [wipeE]
    by_cases h : v < (wipeE ρ vs).length
    · rw [DR.at_set h, wipe_at ρ vs j]
      by_cases e : v = j
      · simp [e]
      · simp [e, Ne.symm e, fun q : j = v => e q.symm]
    · rw [List.set_eq_of_length_le (Nat.le_of_not_lt h), wipe_at ρ vs j]
      by_cases e : j = v
      · subst e
        rw [wipeE_len] at h
        rw [if_pos List.mem_cons_self]
        split
        · rfl
        · exact DR.at_out h
      · simp [e]
theorem restore_wipe {ρ : Env} {vs : List Nat} : restore ρ (wipeE ρ vs) vs = ρ := by
  have len : (restore ρ (wipeE ρ vs) vs).length = ρ.length := by rw [restore_len, wipeE_len]
  have key : ∀ j, (restore ρ (wipeE ρ vs) vs).at j = ρ.at j := fun j => by
    rw [restore_at (wipeE_len ρ vs), wipe_at]
    split <;> rfl
  refine List.ext_getElem len fun j h1 h2 => ?_
  have := key j
  rw [at_def, at_def, List.getElem?_eq_getElem h1, List.getElem?_eq_getElem h2] at this
  exact this
theorem loopC_map {α : Type} {enc : α → D} {f : D → Env → Res (List D)} {g : α → List D} {ρ : Env} : ∀ {as : List α}, (∀ a ∈ as, f (enc a) ρ = .ok (g a) ρ) → loopC f (as.map enc) ρ = .ok (as.flatMap g) ρ
  | [], _ => rfl
  | a :: as, h => by
    rw [List.map_cons, loopC, h a List.mem_cons_self, bind_ok, loopC_map fun b m => h b (List.mem_cons_of_mem _ m), bind_ok]
    rfl
/-- a comprehension that changes nothing: over a list of things, k the test, g the item -/
theorem comp_map {α : Type} {Φ : Nat → Fn} {tg : Tg} {it : It} {c : Eo} {e : E} {vs : List Nat} {ρ ρ1 : Env} (as : List α) (enc : α → D) (k : α → Bool) (g : α → D) (hi : evIt Φ it ρ = .ok (as.map enc) ρ1) (pl : vs.all (plainAt ρ1) = true)
    (ht : ∀ a ∈ as, ∃ ρ2, bindT tg (enc a) (wipeE ρ1 vs) = some ρ2 ∧ evC Φ c ρ2 = .ok (k a) ρ2 ∧ (k a = true → ev Φ e ρ2 = .ok (g a) ρ2) ∧ wipeE ρ2 vs = wipeE ρ1 vs) (hl : as.length ≤ 1000000) : ev Φ (.comp tg it c e vs) ρ = .ok (.list ((as.filter k).map g)) ρ1 := by
  rw [ev_comp, hi, bind_ok, if_pos pl, loopC_map (g := fun a => if k a = true then [g a] else []) fun a m => ?_]
  · have e1 : as.flatMap (fun a => if k a = true then [g a] else []) = (as.filter k).map g := by
      clear hi ht hl
      induction as with
      | nil => rfl
      | cons a as ih =>
        rw [List.flatMap_cons, ih, List.filter_cons]
        split <;> rfl
    have l : ((as.filter k).map g).length ≤ 1000000 := by
      rw [List.length_map]
      exact Nat.le_trans (List.length_filter_le _ _) hl
    rw [e1]
    show (if ((as.filter k).map g).length ≤ 1000000 then Res.ok _ _ else Res.bad) = _
    rw [if_pos l, restore_wipe]
  · obtain ⟨ρ2, h1, h2, h3, h4⟩ := ht a m
    rw [h1, lift_some, bind_ok, h2, bind_ok]
    cases q : k a with
    | true => rw [if_pos rfl, if_pos rfl, h3 q, bind_ok, h4]
    | false => rw [if_neg (by simp), if_neg (by simp), h4]
theorem set_set {ρ : Env} {v : Nat} {a b : Slot} : List.set (List.set ρ v a) v b = List.set ρ v b := List.set_set ..
/-- .. over one name -/
theorem comp1 {α : Type} {Φ : Nat → Fn} {it : It} {c : Eo} {e : E} {v : Nat} {ρ : Env} (as : List α) (enc : α → D) (k : α → Bool) (g : α → D) (hi : evIt Φ it ρ = .ok (as.map enc) ρ) (hv : v < ρ.length) (pl : plainAt ρ v = true) (hl : as.length ≤ 1000000)
    (hc : ∀ a ∈ as, evC Φ c (List.set ρ v (.val (enc a))) = .ok (k a) (List.set ρ v (.val (enc a)))) (he : ∀ a ∈ as, k a = true → ev Φ e (List.set ρ v (.val (enc a))) = .ok (g a) (List.set ρ v (.val (enc a)))) :
    ev Φ (.comp (.nm v) it c e [v]) ρ = .ok (.list ((as.filter k).map g)) ρ := by
  refine comp_map as enc k g hi (by simpa using pl) (fun a m => ⟨List.set ρ v (.val (enc a)), ?_, hc a m, he a m, ?_⟩) hl
  · show (if v < (List.set ρ v .un).length then some (List.set (List.set ρ v .un) v (.val (enc a))) else none) = _
    rw [if_pos (by simpa using hv), set_set]
  · show List.set (List.set ρ v (.val (enc a))) v .un = List.set ρ v .un
    rw [set_set]
/-- .. over two names -/
theorem comp2n {α : Type} {Φ : Nat → Fn} {it : It} {c : Eo} {e : E} {v w : Nat} {ρ : Env} (as : List α) (enc enc2 : α → D) (k : α → Bool) (g : α → D) (hi : evIt Φ it ρ = .ok (as.map fun a => .tuple [enc a, enc2 a]) ρ) (hv : v < ρ.length) (hw : w < ρ.length) (ne : v ≠ w) (pl : plainAt ρ v = true) (pl2 : plainAt ρ w = true) (hl : as.length ≤ 1000000)
    (hc : ∀ a ∈ as, evC Φ c (List.set (List.set ρ v (.val (enc a))) w (.val (enc2 a))) = .ok (k a) (List.set (List.set ρ v (.val (enc a))) w (.val (enc2 a)))) (he : ∀ a ∈ as, k a = true → ev Φ e (List.set (List.set ρ v (.val (enc a))) w (.val (enc2 a))) = .ok (g a) (List.set (List.set ρ v (.val (enc a))) w (.val (enc2 a)))) :
    ev Φ (.comp (.tup (.cons (.nm v) (.cons (.nm w) .nil))) it c e [v, w]) ρ = .ok (.list ((as.filter k).map g)) ρ := by
  refine comp_map as (fun a => .tuple [enc a, enc2 a]) k g hi (by simp [pl, pl2]) (fun a m => ⟨List.set (List.set ρ v (.val (enc a))) w (.val (enc2 a)), ?_, hc a m, he a m, ?_⟩) hl
  · simp only [bindT, bindTs, wipeE, List.length_set, hv, hw, if_true, Option.bind_some]
    congr 1
    rw [set_set, List.set_comm (i := w) (j := v) _ _ (Ne.symm ne), set_set]
  · show List.set (List.set (List.set (List.set ρ v (.val (enc a))) w (.val (enc2 a))) w .un) v .un = List.set (List.set ρ w .un) v .un
    rw [set_set, List.set_comm (i := w) (j := v) _ _ (Ne.symm ne), set_set, List.set_comm (i := w) (j := v) _ _ (Ne.symm ne)]
end DM
/-! What the program's small defs answer. -/
namespace DM
open DR PG
def rem (r : Ru) (c : List Int) : Bool := !(r.fa.any fun a => decide (a ∈ c))
def hdIn (h : Option Int) (c : List Int) : Bool := match h with
  | some a => decide (a ∈ c)
  | none => false
def sub (s t : List Int) : Bool := s.all fun a => decide (a ∈ t)
def oby (c : List Int) (r : Ru) : Bool := hdIn r.hd c || !(sub r.ho c)
def vio (c : List Int) (r : Ru) : Bool := rem r c && !oby c r
structure SetOk (n : Int) (s : List Int) : Prop where
  mem : ∀ a ∈ s, 0 ≤ a ∧ a < n
  asc : s.Pairwise (· < ·)
structure RuOk (n : Int) (r : Ru) : Prop where
  hd : ∀ a, r.hd = some a → 0 ≤ a ∧ a < n
  ho : SetOk n r.ho
  fa : SetOk n r.fa
structure BookOk (n : Int) (rs : List Ru) : Prop where
  lo : 1 ≤ n
  hi : n ≤ 4
  ru : ∀ r ∈ rs, RuOk n r
  nd : rs.Nodup
  few : rs.length ≤ 76
theorem SetOk.len {n : Int} {s : List Int} (h : SetOk n s) (hn : n ≤ 1000000) : s.length ≤ 1000000 := by
  have key : ∀ (s : List Int) (lo : Int), 0 ≤ lo → (∀ a ∈ s, lo ≤ a ∧ a < n) → s.Pairwise (· < ·) → (s.length : Int) ≤ max 0 (n - lo) := by
    intro s
    induction s with
    | nil => intro lo _ _ _; simp; omega
    | cons a s ih =>
      intro lo h0 h1 h2
      rw [List.pairwise_cons] at h2
      have a1 := h1 a List.mem_cons_self
      have := ih (a + 1) (by omega) (fun b m => ⟨h2.1 b m, (h1 b (List.mem_cons_of_mem _ m)).2⟩) h2.2
      simp only [List.length_cons]
      omega
  have := key s 0 (Int.le_refl 0) h.mem h.asc
  omega
theorem is_whole_int (i : Int) : f_is_whole [.val (.int i)] = .ok (.bool true) [] := by
  simp [f_is_whole, b_is_whole, DR.run, isiD, isiK, kd]
theorem is_atom_ok (n a : Int) : f_is_atom [.val (.int n), .val (.int a)] = .ok (.bool (decide (0 ≤ a ∧ a < n))) [] := by
  by_cases h : 0 ≤ a <;> simp [f_is_atom, b_is_atom, DR.run, callBy, is_whole_int, h]
theorem is_within_ok (s t : List Int) (hl : s.length ≤ 1000000) : f_is_within [.val (eS s), .val (eS t)] = .ok (.bool (sub s t)) [] := by
  simp [f_is_within, b_is_within, DR.run]
  rw [comp1 s .int (fun _ => true) (fun a => .bool (decide (a ∈ t)))]
  all_goals simp [plainAt, hl, sub]
theorem remains_ok (r : Ru) (c : List Int) (hl : r.fa.length ≤ 1000000) : f_remains [.val (eR r), .val (eS c)] = .ok (.bool (rem r c)) [] := by
  simp [f_remains, b_remains, DR.run]
  rw [comp1 r.fa .int (fun _ => true) (fun a => .bool (decide (a ∈ c)))]
  all_goals simp [plainAt, hl, rem]
theorem obeys_ok (r : Ru) (c : List Int) (hl : r.ho.length ≤ 1000000) : f_obeys [.val (eS c), .val (eR r)] = .ok (.bool (oby c r)) [] := by
  have w := is_within_ok r.ho c hl
  cases h : r.hd with
  | none => simp [f_obeys, b_obeys, DR.run, callBy, h, w, oby, hdIn]
  | some a =>
    by_cases m : a ∈ c <;> simp [f_obeys, b_obeys, DR.run, callBy, h, m, w, oby, hdIn]
theorem violates_ok (r : Ru) (c : List Int) (h1 : r.ho.length ≤ 1000000) (h2 : r.fa.length ≤ 1000000) : f_violates [.val (eS c), .val (eR r)] = .ok (.bool (vio c r)) [] := by
  have w1 := remains_ok r c h2
  have w2 := obeys_ok r c h1
  cases q : rem r c <;> simp [f_violates, b_violates, DR.run, callBy, w1, w2, q, vio]
/-! forms -/
theorem sl_eS (s : List Int) : slD (eS s) (some 1) none = some (eS s.tail) := by
  show some (PySem.PyData.tuple (cutD (s.map .int) (some 1) none)) = _
  congr 1
  unfold eS cutD
  congr 1
  simp only [HT.sIx, List.length_map]
  cases s with
  | nil => rfl
  | cons a s =>
    simp only [List.length_cons, List.map_cons, List.tail_cons, show ¬ ((1 : Int) < 0) by decide, if_false]
    rw [show min (Int.toNat 1) (s.length + 1) = 1 by simp]
    show List.take (s.length + 1 - 1) (s.map PySem.PyData.int) = _
    exact List.take_of_length_le (by simp)
theorem zip_ints : ∀ s t : List Int, zipL (s.map .int) (t.map .int) = (s.zip t).map fun p => .tuple [.int p.1, .int p.2]
  | [], _ => by simp [zipL]
  | _ :: _, [] => by simp [zipL]
  | a :: s, b :: t => by simp [zipL, zip_ints s t]
theorem is_ascending_set {n : Int} {s : List Int} (h : SetOk n s) (hn : n ≤ 1000000) : f_is_ascending [.val (eS s)] = .ok (.bool true) [] := by
  have hl := h.len hn
  have all : ∀ a b, (a, b) ∈ s.zip s.tail → a < b := by
    intro a b m
    obtain ⟨i, hi⟩ := List.getElem?_of_mem m
    rw [List.getElem?_zip_eq_some, List.getElem?_tail] at hi
    obtain ⟨h1, e1⟩ := List.getElem?_eq_some_iff.mp hi.1
    obtain ⟨h2, e2⟩ := List.getElem?_eq_some_iff.mp hi.2
    have e1 : s[i] = a := e1
    have e2 : s[i + 1] = b := e2
    rw [← e1, ← e2]
    exact List.pairwise_iff_getElem.mp h.asc _ _ h1 h2 (by omega)
  simp [f_is_ascending, b_is_ascending, DR.run, sl_eS]
  rw [comp2n (s.zip s.tail) (fun p => .int p.1) (fun p => .int p.2) (fun _ => true) (fun p => .bool (decide (p.1 < p.2)))]
  · simp
    exact all
  · simp [sl_eS]
    rw [← List.map_tail, zip_ints]
  · simp
  · simp
  · simp
  · simp [plainAt]
  · simp [plainAt]
  · simp
    omega
  · simp
  · simp
@[simp] theorem isi_eS (s : List Int) : isiD .tuple (eS s) = true := rfl
@[simp] theorem isi_eR (s : Ru) : isiD .tuple (eR s) = true := rfl
@[simp] theorem isi_eRs (s : List Ru) : isiD .tuple (eRs s) = true := rfl
@[simp] theorem isi_eB (n : Int) (s : List Ru) : isiD .tuple (eB n s) = true := rfl
@[simp] theorem len_eS (s : List Int) : lenD (eS s) = some (.int s.length) := by simp [eS]
@[simp] theorem len_eR (s : Ru) : lenD (eR s) = some (.int 3) := rfl
@[simp] theorem len_eRs (s : List Ru) : lenD (eRs s) = some (.int s.length) := by simp [eRs]
@[simp] theorem len_eB (n : Int) (s : List Ru) : lenD (eB n s) = some (.int 2) := rfl
@[simp] theorem eq_ints (a b : Int) : copEq (.int a) (.int b) = some (decide (a = b)) := by simp [copEq, strEq]
theorem is_set_ok {n : Int} {s : List Int} (h : SetOk n s) (hn : n ≤ 1000000) : f_is_set [.val (.int n), .val (eS s)] = .ok (.bool true) [] := by
  have hl := h.len hn
  have w := is_ascending_set h hn
  simp [f_is_set, b_is_set, DR.run]
  rw [comp1 s .int (fun _ => true) (fun a => .bool (decide (0 ≤ a ∧ a < n)))]
  · have all : ∀ x ∈ s, 0 ≤ x ∧ x < n := h.mem
    simp [callBy, w]
    rw [if_pos all]
    simp
  all_goals simp [plainAt, hl, callBy, is_atom_ok]
theorem is_tuple_of_ok (k : Int) (d : D) (hd : isiD .tuple d = true) {n : Int} (hl : lenD d = some (.int n)) : f_is_tuple_of [.val (.int k), .val d] = .ok (.bool (decide (n = k))) [] := by
  simp [f_is_tuple_of, b_is_tuple_of, DR.run, hd, hl]
theorem has_rule_form_ok {n : Int} {r : Ru} (h : RuOk n r) (hn : n ≤ 1000000) : f_has_rule_form [.val (.int n), .val (eR r)] = .ok (.bool true) [] := by
  have w := is_tuple_of_ok 3 (eR r) rfl rfl
  have w1 := is_set_ok h.ho hn
  have w2 := is_set_ok h.fa hn
  cases e : r.hd with
  | none =>
    simp [f_has_rule_form, b_has_rule_form, DR.run, callBy, w]
    simp [eR, e, eH, callBy, w1, w2]
  | some a =>
    have w3 := is_atom_ok n a
    rw [decide_eq_true (h.hd a e)] at w3
    simp [f_has_rule_form, b_has_rule_form, DR.run, callBy, w]
    simp [eR, e, eH, callBy, w1, w2, w3]
theorem key_eS (s : List Int) : keyOk 7 (eS s) = true := by simp [eS, keyOk]
theorem key_eR (r : Ru) : keyOk 8 (eR r) = true := by
  cases h : r.hd <;> simp [eR, keyOk, h, eH, eS]
theorem eR_inj {a b : Ru} (h : eR a = eR b) : a = b := by
  have := eqv_eR a b
  rw [h, eqv_eR b b] at this
  simpa using this.symm
theorem len_set {rs : List Ru} (nd : rs.Nodup) (few : rs.length ≤ 76) : lenSetD (eRs rs) = some (.int rs.length) := by
  have hk : (rs.map eR).all (keyOk 8) = true := by
    rw [List.all_map, List.all_eq_true]
    exact fun r _ => key_eR r
  have n2 : (rs.map eR).Nodup := by
    unfold List.Nodup
    rw [List.pairwise_map]
    exact nd.imp fun h e => h (eR_inj e)
  have pm : (dedup (rs.map eR)).Perm (rs.map eR) := (List.perm_ext_iff_of_nodup (nodup_dedup hk) n2).mpr fun d => mem_dedup hk d
  have l := pm.length_eq
  rw [List.length_map] at l
  have all : (rs.map eR).all (fun x => isTup x && keyOk 8 x) = true := by
    rw [List.all_map, List.all_eq_true]
    intro r _
    show (isTup (eR r) && keyOk 8 (eR r)) = true
    rw [key_eR]
    rfl
  unfold lenSetD setL eRs
  show Option.map _ (if (rs.map eR).all (fun x => isTup x && keyOk 8 x) = true ∧ (rs.map eR).length ≤ 76 then some (dedup (rs.map eR)) else none) = _
  rw [if_pos ⟨all, by rw [List.length_map]; exact few⟩]
  simp [l]
theorem are_rules_ok {n : Int} {rs : List Ru} (h : BookOk n rs) : f_are_rules [.val (.int n), .val (eRs rs)] = .ok (.bool true) [] := by
  have few := h.few
  have hi := h.hi
  simp [f_are_rules, b_are_rules, DR.run]
  rw [comp1 rs eR (fun _ => true) (fun _ => .bool true)]
  · simp [len_set h.nd h.few]
  · simp
  · simp
  · simp [plainAt]
  · omega
  · simp
  · intro r m _
    have w := has_rule_form_ok (h.ru r m) (by omega)
    simp [callBy, w]
theorem is_rulebook_ok {n : Int} {rs : List Ru} (h : BookOk n rs) : f_is_rulebook [.val (eB n rs)] = .ok (.bool true) [] := by
  have few := h.few
  have hi := h.hi
  have lo := h.lo
  have w := is_tuple_of_ok 2 (eB n rs) rfl rfl
  have w1 := are_rules_ok h
  have w2 : f_is_atoms [.val (.int n)] = .ok (.bool true) [] := by
    simp [f_is_atoms, b_is_atoms, DR.run, callBy, is_whole_int, lo, hi]
  simp [f_is_rulebook, b_is_rulebook, DR.run, callBy, w]
  have l100 : (rs.length : Int) ≤ 100 := by omega
  simp [eB, callBy, w1, w2, l100]
theorem check_book_ok {n : Int} {rs : List Ru} (h : BookOk n rs) : f_check_book [.val (eB n rs)] = .ok .none [] := by
  simp [f_check_book, b_check_book, DR.run, callBy, is_rulebook_ok h]
theorem check_set_ok {n : Int} {s : List Int} (h : SetOk n s) (hn : n ≤ 1000000) : f_check_set [.val (.int n), .val (eS s)] = .ok .none [] := by
  simp [f_check_set, b_check_set, DR.run, callBy, is_set_ok h hn]
theorem check_book_and_set_ok {n : Int} {rs : List Ru} {s : List Int} (h : BookOk n rs) (hs : SetOk n s) : f_check_book_and_set [.val (eB n rs), .val (eS s)] = .ok .none [] := by
  have hi := h.hi
  simp [f_check_book_and_set, b_check_book_and_set, DR.run, callBy, check_book_ok h, check_set_ok hs (by omega)]
theorem BookOk.sz {n : Int} {rs : List Ru} (h : BookOk n rs) {r : Ru} (m : r ∈ rs) : r.ho.length ≤ 1000000 ∧ r.fa.length ≤ 1000000 := by
  have hi := h.hi
  exact ⟨(h.ru r m).ho.len (by omega), (h.ru r m).fa.len (by omega)⟩
theorem remaining_ok {n : Int} {rs : List Ru} {s : List Int} (h : BookOk n rs) (hs : SetOk n s) : f_remaining [.val (eB n rs), .val (eS s)] = .ok (eRs (rs.filter fun r => rem r s)) [] := by
  have few := h.few
  simp [f_remaining, b_remaining, DR.run, callBy, check_book_and_set_ok h hs]
  rw [comp1 rs eR (fun r => rem r s) eR]
  · simp [eRs]
  · simp
  · simp
  · simp [plainAt]
  · omega
  · intro r m
    simp [callBy, remains_ok r s (h.sz m).2]
  · simp
theorem violated_ok {n : Int} {rs : List Ru} {s : List Int} (h : BookOk n rs) (hs : SetOk n s) : f_violated [.val (eB n rs), .val (eS s)] = .ok (eRs (rs.filter fun r => vio s r)) [] := by
  have few := h.few
  simp [f_violated, b_violated, DR.run, callBy, check_book_and_set_ok h hs]
  rw [comp1 rs eR (fun r => vio s r) eR]
  · simp [eRs]
  · simp
  · simp
  · simp [plainAt]
  · omega
  · intro r m
    simp [callBy, violates_ok r s (h.sz m).1 (h.sz m).2]
  · simp
end DM
/-! Drawn rules and books. -/
namespace DM
open DR PG
/-- a pen: what is drawn from -/
def Pen (p : List D) : Prop := ∃ a b c : Int, p = [.int a, .int b, .int c]
theorem law_draw_ok {p : List D} (h : Pen p) (m : Int) (hm : 0 < m) (hm2 : m < 1073741824) : ∃ r p', f_law_draw [.mut p, .val (.int m)] = .ok (.int r) [p'] ∧ Pen p' ∧ 0 ≤ r ∧ r < m := by
  obtain ⟨a, b, c, rfl⟩ := h
  obtain ⟨r, a', b', c', e, h0, h1⟩ := draw_ok (fns []) a b c m hm hm2
  exact ⟨r, _, e, ⟨_, _, _, rfl⟩, h0, h1⟩
theorem law_pen_ok (x : Int) : ∃ p, f_law_pen [.val (.int x)] = .new p [] ∧ Pen p := by
  obtain ⟨a, b, e⟩ := pen_ok (fns []) x
  exact ⟨_, e, ⟨_, _, _, rfl⟩⟩
theorem loopC_sub {f : D → Env → Res (List D)} {g : D → D} (I : Env → Prop) : ∀ (xs : List D) (ρ : Env), I ρ → (∀ x ∈ xs, ∀ ρ, I ρ → ∃ ys ρ', f x ρ = .ok ys ρ' ∧ I ρ' ∧ ys.Sublist [g x]) → ∃ zs ρ', loopC f xs ρ = .ok zs ρ' ∧ I ρ' ∧ zs.Sublist (xs.map g)
  | [], ρ, h, _ => ⟨[], ρ, rfl, h, List.Sublist.slnil⟩
  | x :: xs, ρ, h, st => by
    obtain ⟨ys, ρ1, e1, h1, s1⟩ := st x List.mem_cons_self ρ h
    obtain ⟨zs, ρ2, e2, h2, s2⟩ := loopC_sub I xs ρ1 h1 fun y m => st y (List.mem_cons_of_mem _ m)
    refine ⟨ys ++ zs, ρ2, ?_, h2, ?_⟩
    · rw [loopC, e1, bind_ok, e2, bind_ok]
    · have := s1.append s2
      simpa using this
/-- a comprehension that goes on drawing -/
theorem comp_sub {Φ : Nat → Fn} {it : It} {c : Eo} {e : E} {v : Nat} {ρ ρ1 : Env} {xs : List D} (g : D → D) (I : Env → Prop) (hi : evIt Φ it ρ = .ok xs ρ1) (pl : plainAt ρ1 v = true) (h0 : I (List.set ρ1 v .un)) (hl : xs.length ≤ 1000000)
    (st : ∀ x ∈ xs, ∀ ρ, I ρ → v < ρ.length ∧ ∃ k ρ2, evC Φ c (List.set ρ v (.val x)) = .ok k ρ2 ∧ (k = false → I (List.set ρ2 v .un)) ∧ (k = true → ∃ ρ3, ev Φ e ρ2 = .ok (g x) ρ3 ∧ I (List.set ρ3 v .un))) :
    ∃ zs ρ2, ev Φ (.comp (.nm v) it c e [v]) ρ = .ok (.list zs) (List.set ρ2 v (ρ1.at v)) ∧ I ρ2 ∧ zs.Sublist (xs.map g) := by
  obtain ⟨zs, ρ2, e1, h1, s1⟩ := loopC_sub (f := fun x ρ => (lift (bindT (.nm v) x ρ) ρ).bind fun ρ' _ => (evC Φ c ρ').bind fun k ρ2 => if k = true then (ev Φ e ρ2).bind fun y ρ3 => .ok [y] (wipeE ρ3 [v]) else .ok [] (wipeE ρ2 [v])) (g := g) I xs (List.set ρ1 v .un) h0 (by
    intro x m ρ hI
    obtain ⟨lv, k, ρ2, e1, h1, h2⟩ := st x m ρ hI
    cases k with
    | false =>
      refine ⟨[], List.set ρ2 v .un, ?_, h1 rfl, List.nil_sublist _⟩
      rw [bindT_nm, if_pos lv, lift_some, bind_ok, e1, bind_ok, if_neg (by simp)]
      rfl
    | true =>
      obtain ⟨ρ3, e2, h3⟩ := h2 rfl
      refine ⟨[g x], List.set ρ3 v .un, ?_, h3, List.Sublist.refl _⟩
      rw [bindT_nm, if_pos lv, lift_some, bind_ok, e1, bind_ok, if_pos rfl, e2, bind_ok]
      rfl)
  refine ⟨zs, ρ2, ?_, h1, s1⟩
  have l : zs.length ≤ 1000000 := by
    have := s1.length_le
    rw [List.length_map] at this
    omega
  rw [ev_comp, hi, bind_ok, if_pos (by simpa using pl)]
  show (match loopC _ xs (List.set ρ1 v .un) with
    | .ok ys ρ2 => if ys.length ≤ 1000000 then Res.ok (PySem.PyData.list ys) (restore ρ1 ρ2 [v]) else .bad
    | _ => .bad) = _
  rw [e1]
  show (if zs.length ≤ 1000000 then Res.ok (PySem.PyData.list zs) (restore ρ1 ρ2 [v]) else .bad) = _
  rw [if_pos l]
  rfl
/-- the first n whole numbers -/
def rgI (n : Int) : List Int := (List.range n.toNat).map fun (i : Nat) => (i : Int)
theorem rng_map (n : Int) : rngL n = (rgI n).map .int := by
  unfold rngL rgI
  rw [List.map_map]
  rfl
theorem rgI_asc (n : Int) : (rgI n).Pairwise (· < ·) := by
  unfold rgI
  rw [List.pairwise_map]
  exact List.pairwise_lt_range.imp fun h => by omega
theorem mem_rgI {n a : Int} : a ∈ rgI n ↔ 0 ≤ a ∧ a < n := by
  unfold rgI
  constructor
  · intro m
    obtain ⟨i, hi, rfl⟩ := List.mem_map.mp m
    have := List.mem_range.mp hi
    omega
  · intro h
    exact List.mem_map.mpr ⟨a.toNat, List.mem_range.mpr (by omega), by show (a.toNat : Int) = a; omega⟩
theorem sub_map {s : List Int} : ∀ {zs : List D}, zs.Sublist (s.map .int) → ∃ t : List Int, t.Sublist s ∧ zs = t.map .int := by
  intro zs h
  obtain ⟨t, h1, h2⟩ := List.sublist_map_iff.mp h
  exact ⟨t, h1, h2⟩
theorem SetOk.sub {n : Int} {s t : List Int} (h : SetOk n s) (st : t.Sublist s) : SetOk n t := ⟨fun a m => h.mem a (st.subset m), h.asc.sublist st⟩
theorem rgI_ok (n : Int) : SetOk n (rgI n) := ⟨fun a m => mem_rgI.mp m, rgI_asc n⟩
theorem law_some_ok {p : List D} (h : Pen p) (n sh : Int) (hn : 0 ≤ n) (hn2 : n ≤ 1000) : ∃ s p', f_law_some [.mut p, .val (.int n), .val (.int sh)] = .ok (eS s) [p'] ∧ Pen p' ∧ SetOk n s := by
  have rk : -1000000 ≤ n ∧ n ≤ 1000000 := by omega
  obtain ⟨zs, ρ2, e, ⟨q, hq, rfl⟩, st⟩ := comp_sub (Φ := fns [f_law_draw]) (it := .rng (.var 1)) (c := .yes (.cmp .lt (.call 0 (.mut 0 (.val (.lit (.int 6)) .nil))) (.var 2))) (e := .var 3) (v := 3) (ρ := [.bor 0 p, .val (.int n), .val (.int sh), .un]) (ρ1 := [.bor 0 p, .val (.int n), .val (.int sh), .un]) (xs := rngL n) id
    (fun ρ => ∃ p, Pen p ∧ ρ = [.bor 0 p, .val (.int n), .val (.int sh), .un]) (by simp [rk]) (by simp [plainAt]) ⟨p, h, rfl⟩ (by simp [rngL]; omega) (by
      rintro x _ ρ ⟨q, hq, rfl⟩
      obtain ⟨r, q', e, hq', _, _⟩ := law_draw_ok hq 6 (by decide) (by decide)
      exact ⟨by simp, decide (r < sh), [.bor 0 q', .val (.int n), .val (.int sh), .val x], by simp [callBy, e], fun _ => ⟨q', hq', rfl⟩, fun _ => ⟨_, by simp; rfl, ⟨q', hq', rfl⟩⟩⟩)
  rw [List.map_id, rng_map] at st
  obtain ⟨s, s1, rfl⟩ := sub_map st
  refine ⟨s, q, ?_, hq, (rgI_ok n).sub s1⟩
  simp [f_law_some, b_law_some, DR.run, e, eS]
theorem set_nil (n : Int) : SetOk n [] := ⟨(fun a m => by cases m), List.Pairwise.nil⟩
theorem law_rule_ok {p : List D} (h : Pen p) (n : Int) (hn : 1 ≤ n) (hn2 : n ≤ 4) : ∃ r p', f_law_rule [.mut p, .val (.int n)] = .ok (eR r) [p'] ∧ Pen p' ∧ RuOk n r := by
  obtain ⟨hd, p1, e1, h1, a0, a1⟩ := law_draw_ok h n (by omega) (by omega)
  obtain ⟨w, p2, e2, h2, b0, b1⟩ := law_draw_ok h1 9 (by decide) (by decide)
  have hdok : ∀ a, some hd = some a → 0 ≤ a ∧ a < n := fun a e => by cases e; exact ⟨a0, a1⟩
  by_cases c0 : w = 0
  · subst c0
    exact ⟨⟨some hd, [], []⟩, p2, by simp [f_law_rule, b_law_rule, DR.run, callBy, setAll, e1, e2, eR, eH, eS], h2, hdok, set_nil n, set_nil n⟩
  by_cases c1 : w < 3
  · obtain ⟨s, p3, e3, h3, s1⟩ := law_some_ok h2 n 2 (by omega) (by omega)
    obtain ⟨u, p4, e4, h4, u1⟩ := law_some_ok h3 n 2 (by omega) (by omega)
    exact ⟨⟨none, s, u⟩, p4, by simp [f_law_rule, b_law_rule, DR.run, callBy, setAll, e1, e2, e3, e4, c0, c1, eR, eH], h4, (fun a e => by cases e), s1, u1⟩
  by_cases c2 : w < 5
  · obtain ⟨s, p3, e3, h3, s1⟩ := law_some_ok h2 n 3 (by omega) (by omega)
    exact ⟨⟨some hd, [], s⟩, p3, by simp [f_law_rule, b_law_rule, DR.run, callBy, setAll, e1, e2, e3, c0, c1, c2, eR, eH, eS], h3, hdok, set_nil n, s1⟩
  by_cases c3 : w < 7
  · obtain ⟨s, p3, e3, h3, s1⟩ := law_some_ok h2 n 3 (by omega) (by omega)
    exact ⟨⟨some hd, s, []⟩, p3, by simp [f_law_rule, b_law_rule, DR.run, callBy, setAll, e1, e2, e3, c0, c1, c2, c3, eR, eH, eS], h3, hdok, s1, set_nil n⟩
  · obtain ⟨s, p3, e3, h3, s1⟩ := law_some_ok h2 n 2 (by omega) (by omega)
    obtain ⟨u, p4, e4, h4, u1⟩ := law_some_ok h3 n 2 (by omega) (by omega)
    exact ⟨⟨some hd, s, u⟩, p4, by simp [f_law_rule, b_law_rule, DR.run, callBy, setAll, e1, e2, e3, e4, c0, c1, c2, c3, eR, eH], h4, hdok, s1, u1⟩
theorem loopF_pre {f : D → Env → SR} (I : Nat → Env → Prop) : ∀ (xs : List D) (j : Nat) (ρ : Env), I j ρ → (∀ (i : Nat) x, xs[i]? = some x → ∀ ρ, I (j + i) ρ → ∃ ρ', (f x ρ = .nx ρ' ∨ f x ρ = .ct ρ') ∧ I (j + i + 1) ρ') → ∃ ρ', loopF f xs ρ = .nx ρ' ∧ I (j + xs.length) ρ'
  | [], j, ρ, h, _ => ⟨ρ, rfl, h⟩
  | x :: xs, j, ρ, h, k => by
    obtain ⟨ρ1, e, h1⟩ := k 0 x rfl ρ h
    obtain ⟨ρ2, e2, h2⟩ := loopF_pre I xs (j + 1) ρ1 h1 fun i y hy ρ hI => by
      have := k (i + 1) y (by simpa using hy) ρ (by rw [show j + (i + 1) = j + 1 + i by omega]; exact hI)
      rw [show j + (i + 1) + 1 = j + 1 + i + 1 by omega] at this
      exact this
    refine ⟨ρ2, ?_, by rw [List.length_cons, show j + (xs.length + 1) = j + 1 + xs.length by omega]; exact h2⟩
    rcases e with e | e <;> (rw [loopF, e]; exact e2)
/-- a loop, turn by turn -/
theorem for_pre {Φ : Nat → Fn} {t : Tg} {it : It} {b : Ss} {ρ ρ1 : Env} {xs : List D} (I : Nat → Env → Prop) (h : evIt Φ it ρ = .ok xs ρ1) (h1 : I 0 ρ1)
    (k : ∀ (i : Nat) x, xs[i]? = some x → ∀ ρ, I i ρ → ∃ ρ1 ρ', bindT t x ρ = some ρ1 ∧ (exSs Φ b ρ1 = .nx ρ' ∨ exSs Φ b ρ1 = .ct ρ') ∧ I (i + 1) ρ') : ∃ ρ', exS Φ (.for_ t it b) ρ = .nx ρ' ∧ I xs.length ρ' := by
  rw [exS_for_, h, sr_ok]
  have := loopF_pre (f := fun x ρ => match bindT t x ρ with
    | some ρ' => exSs Φ b ρ'
    | none => .bad) I xs 0 ρ1 h1 (by
      intro i x hx ρ hI
      rw [Nat.zero_add] at hI
      obtain ⟨ρ1, ρ', e1, e2, e3⟩ := k i x hx ρ hI
      exact ⟨ρ', by rw [e1]; exact e2, by rw [Nat.zero_add]; exact e3⟩)
  rw [Nat.zero_add] at this
  exact this
theorem rng_at {n : Int} {i : Nat} {x : D} (h : (rngL n)[i]? = some x) : x = .int i ∧ (i : Int) < n := by
  unfold rngL at h
  rw [List.getElem?_map] at h
  obtain ⟨j, hj, rfl⟩ := Option.map_eq_some_iff.mp h
  obtain ⟨h1, e⟩ := List.getElem?_eq_some_iff.mp hj
  rw [List.getElem_range] at e
  subst e
  rw [List.length_range] at h1
  exact ⟨rfl, by omega⟩
@[simp] theorem rng_len (n : Int) : (rngL n).length = n.toNat := by simp [rngL]
theorem law_circle_ok {p : List D} (h : Pen p) (n : Int) (hn : 1 ≤ n) (hn2 : n ≤ 4) : ∃ (rs : List Ru) (p' : List D), f_law_circle [.mut p, .val (.int n)] = .new (rs.map eR) [p'] ∧ Pen p' ∧ (∀ r ∈ rs, RuOk n r) ∧ rs.map (·.hd) = (List.range n.toNat).map fun (i : Nat) => some (i : Int) := by
  have rk : -1000000 ≤ n ∧ n ≤ 1000000 := by omega
  obtain ⟨ρ', e, q, rs, s3, s4, hq, rfl, hr, hh⟩ := for_pre (Φ := fns [f_law_draw]) (t := .nm 3) (it := .rng (.var 1)) (b := .cons (.set 4 (.tup (.cons (.bop .mod (.bop .add (.var 3) (.lit (.int 1))) (.var 1)) .nil))) (.cons (.app 2 (.ite (.cmp .gt (.call 0 (.mut 0 (.val (.lit (.int 3)) .nil))) (.lit (.int 0))) (.tup (.cons (.var 3) (.cons (.tup .nil) (.cons (.var 4) .nil)))) (.tup (.cons (.var 3) (.cons (.var 4) (.cons (.tup .nil) .nil)))))) .nil))
    (ρ := [.bor 0 p, .val (.int n), .own [], .un, .un]) (ρ1 := [.bor 0 p, .val (.int n), .own [], .un, .un]) (xs := rngL n)
    (fun i ρ => ∃ (q : List D) (rs : List Ru) (s3 s4 : Slot), Pen q ∧ ρ = [.bor 0 q, .val (.int n), .own (rs.map eR), s3, s4] ∧ (∀ r ∈ rs, RuOk n r) ∧ rs.map (·.hd) = (List.range i).map fun (i : Nat) => some (i : Int))
    (by simp [rk]) ⟨p, [], .un, .un, h, rfl, (fun r m => by cases m), rfl⟩ (by
      rintro i x hx ρ ⟨q, rs, s3, s4, hq, rfl, hr, hh⟩
      obtain ⟨rfl, lt⟩ := rng_at hx
      obtain ⟨w, q', e, hq', b0, b1⟩ := law_draw_ok hq 3 (by decide) (by decide)
      have m0 : 0 ≤ ((i : Int) + 1) % n := Int.emod_nonneg _ (by omega)
      have m1 : ((i : Int) + 1) % n < n := Int.emod_lt_of_pos _ (by omega)
      have so : SetOk n [((i : Int) + 1) % n] := ⟨fun a m => by rw [List.mem_singleton.mp m]; exact ⟨m0, m1⟩, List.pairwise_singleton _ _⟩
      have len : rs.length = i := by
        have := congrArg List.length hh
        simpa using this
      have len2 : rs.length < 1000000 := by omega
      have n0 : 0 < n := by omega
      by_cases c : 0 < w
      · refine ⟨[.bor 0 q, .val (.int n), .own (rs.map eR), .val (.int i), s4], [.bor 0 q', .val (.int n), .own ((rs ++ [Ru.mk (some (i : Int)) [] [((i : Int) + 1) % n]]).map eR), .val (.int i), .val (eS [((i : Int) + 1) % n])], by simp, .inl ?_, q', rs ++ [Ru.mk (some (i : Int)) [] [((i : Int) + 1) % n]], _, _, hq', rfl, ?_, ?_⟩
        · simp [callBy, e, c, bop, bopAdd, bopInt, n0, len2, eR, eH, eS]
        · intro r m
          rcases List.mem_append.mp m with m | m
          · exact hr r m
          · rw [List.mem_singleton.mp m]
            exact ⟨fun a e => by cases e; omega, set_nil n, so⟩
        · rw [List.map_append, hh, List.range_succ, List.map_append]
          rfl
      · refine ⟨[.bor 0 q, .val (.int n), .own (rs.map eR), .val (.int i), s4], [.bor 0 q', .val (.int n), .own ((rs ++ [Ru.mk (some (i : Int)) [((i : Int) + 1) % n] []]).map eR), .val (.int i), .val (eS [((i : Int) + 1) % n])], by simp, .inl ?_, q', rs ++ [Ru.mk (some (i : Int)) [((i : Int) + 1) % n] []], _, _, hq', rfl, ?_, ?_⟩
        · simp [callBy, e, c, bop, bopAdd, bopInt, n0, len2, eR, eH, eS]
        · intro r m
          rcases List.mem_append.mp m with m | m
          · exact hr r m
          · rw [List.mem_singleton.mp m]
            exact ⟨fun a e => by cases e; omega, so, set_nil n⟩
        · rw [List.map_append, hh, List.range_succ, List.map_append]
          rfl)
  rw [rng_len] at hh
  refine ⟨rs, q, ?_, hq, hr, hh⟩
  simp [f_law_circle, b_law_circle, DR.run, e]
theorem seq1 {Φ : Nat → Fn} {s : S} {r : Ss} {ρ ρ1 : Env} (h : exS Φ s ρ = .nx ρ1) : exSs Φ (.cons s r) ρ = exSs Φ r ρ1 := by rw [exSs_cons, h, seq_nx]
theorem nodup_of_map {α β : Type} (f : α → β) {l : List α} (h : (l.map f).Nodup) : l.Nodup := by
  unfold List.Nodup at h
  rw [List.pairwise_map] at h
  exact h.imp fun n e => n (by rw [e])
theorem law_book_ok {p : List D} (h : Pen p) : ∃ (n : Int) (rs : List Ru) (p' : List D), f_law_book [.mut p] = .ok (eB n rs) [p'] ∧ Pen p' ∧ BookOk n rs ∧ rs.length ≤ 11 := by
  obtain ⟨w, p1, e1, h1, a0, a1⟩ := law_draw_ok h 4 (by decide) (by decide)
  obtain ⟨v, p2, e2, h2, _, _⟩ := law_draw_ok h1 4 (by decide) (by decide)
  generalize hn : 1 + w = n
  have n0 : 1 ≤ n := by omega
  have n1 : n ≤ 4 := by omega
  obtain ⟨rs0, p3, h3, r0, d0, l0, e3⟩ : ∃ (rs0 : List Ru) (p3 : List D), Pen p3 ∧ (∀ r ∈ rs0, RuOk n r) ∧ rs0.Nodup ∧ rs0.length ≤ 4 ∧
      ev (fns [f_law_draw, f_law_circle, f_law_rule]) (.ite (.cmp .eq (.call 0 (.mut 0 (.val (.lit (.int 4)) .nil))) (.lit (.int 0))) (.call 1 (.mut 0 (.val (.var 1) .nil))) (.lst .nil)) [.bor 0 p1, .val (.int n), .un, .un, .un] = .ok (.list (rs0.map eR)) [.bor 0 p3, .val (.int n), .un, .un, .un] := by
    by_cases c : v = 0
    · obtain ⟨rs, q, e, hq, hr, hh⟩ := law_circle_ok h2 n n0 n1
      refine ⟨rs, q, hq, hr, nodup_of_map (·.hd) ?_, ?_, ?_⟩
      · rw [hh]
        unfold List.Nodup
        rw [List.pairwise_map]
        exact List.pairwise_lt_range.imp fun h e => by
          have := Option.some.inj e
          omega
      · have := congrArg List.length hh
        simp at this
        omega
      · subst c
        simp [callBy, e2, e]
    · exact ⟨[], p2, h2, (fun r m => by cases m), List.nodup_nil, by simp, by simp [callBy, e2, c]⟩
  obtain ⟨t, p4, e4, h4, t0, t1⟩ := law_draw_ok h3 8 (by decide) (by decide)
  have rk : -1000000 ≤ t ∧ t ≤ 1000000 := by omega
  obtain ⟨ρ', e5, q, rs, s3, s4, hq, rfl, hr, hd, hl⟩ := for_pre (Φ := fns [f_law_draw, f_law_circle, f_law_rule]) (t := .nm 3) (it := .rng (.call 0 (.mut 0 (.val (.lit (.int 8)) .nil)))) (b := .cons (.set 4 (.call 2 (.mut 0 (.val (.var 1) .nil)))) (.cons (.ife (.cmp .nin (.var 4) (.var 2)) (.cons (.set 2 (.ite (.cmp .eq (.call 0 (.mut 0 (.val (.lit (.int 2)) .nil))) (.lit (.int 0))) (.bop .add (.lst (.cons (.var 4) .nil)) (.var 2)) (.bop .add (.var 2) (.lst (.cons (.var 4) .nil))))) .nil) .nil) .nil))
    (ρ := [.bor 0 p3, .val (.int n), .val (.list (rs0.map eR)), .un, .un]) (ρ1 := [.bor 0 p4, .val (.int n), .val (.list (rs0.map eR)), .un, .un]) (xs := rngL t)
    (fun i ρ => ∃ (q : List D) (rs : List Ru) (s3 s4 : Slot), Pen q ∧ ρ = [.bor 0 q, .val (.int n), .val (.list (rs.map eR)), s3, s4] ∧ (∀ r ∈ rs, RuOk n r) ∧ rs.Nodup ∧ rs.length ≤ 4 + i)
    (by simp [callBy, e4, rk]) ⟨p4, rs0, .un, .un, h4, rfl, r0, d0, l0⟩ (by
      rintro i x hx ρ ⟨q, rs, s3, s4, hq, rfl, hr, hd, hl⟩
      obtain ⟨rfl, lt⟩ := rng_at hx
      obtain ⟨r, q1, f1, g1, ro⟩ := law_rule_ok hq n n0 n1
      by_cases m : r ∈ rs
      · exact ⟨[.bor 0 q, .val (.int n), .val (.list (rs.map eR)), .val (.int i), s4], [.bor 0 q1, .val (.int n), .val (.list (rs.map eR)), .val (.int i), .val (eR r)], by simp, .inl (by simp [callBy, f1, m]), q1, rs, _, _, g1, rfl, hr, hd, by omega⟩
      · obtain ⟨u, q2, f2, g2, _, _⟩ := law_draw_ok g1 2 (by decide) (by decide)
        have z : 1 + rs.length ≤ 1000000 := by omega
        have z2 : rs.length + 1 ≤ 1000000 := by omega
        by_cases c : u = 0
        · subst c
          refine ⟨[.bor 0 q, .val (.int n), .val (.list (rs.map eR)), .val (.int i), s4], [.bor 0 q2, .val (.int n), .val (.list ((r :: rs).map eR)), .val (.int i), .val (eR r)], by simp, .inl ?_, q2, r :: rs, _, _, g2, rfl, ?_, ?_, ?_⟩
          · simp [callBy, f1, f2, m, bop, bopAdd, z]
          · intro r' m'
            rcases List.mem_cons.mp m' with rfl | m'
            · exact ro
            · exact hr r' m'
          · exact List.nodup_cons.mpr ⟨m, hd⟩
          · simp
            omega
        · refine ⟨[.bor 0 q, .val (.int n), .val (.list (rs.map eR)), .val (.int i), s4], [.bor 0 q2, .val (.int n), .val (.list ((rs ++ [r]).map eR)), .val (.int i), .val (eR r)], by simp, .inl ?_, q2, rs ++ [r], _, _, g2, rfl, ?_, ?_, ?_⟩
          · simp [callBy, f1, f2, m, c, bop, bopAdd, z2]
          · intro r' m'
            rcases List.mem_append.mp m' with m' | m'
            · exact hr r' m'
            · rw [List.mem_singleton.mp m']
              exact ro
          · rw [List.nodup_append]
            exact ⟨hd, List.pairwise_singleton _ _, fun a ha b hb e => m (by rw [← List.mem_singleton.mp hb, ← e]; exact ha)⟩
          · simp
            omega)
  rw [rng_len] at hl
  have l11 : rs.length ≤ 11 := by omega
  refine ⟨n, rs, q, ?_, hq, ⟨n0, n1, hr, hd, by omega⟩, l11⟩
  have s1 : exS (fns [f_law_draw, f_law_circle, f_law_rule]) (.set 1 (.bop .add (.lit (.int 1)) (.call 0 (.mut 0 (.val (.lit (.int 4)) .nil))))) [.bor 0 p, .un, .un, .un, .un] = .nx [.bor 0 p1, .val (.int n), .un, .un, .un] := by simp [callBy, e1, bop, bopAdd, hn]
  show SR.fin [.mut p] (exSs (fns [f_law_draw, f_law_circle, f_law_rule]) b_law_book [.bor 0 p, .un, .un, .un, .un]) = _
  rw [b_law_book, seq1 s1, exSs_cons, exS_set, e3]
  simp only [sr_ok, List.length_cons, List.length_nil, Nat.reduceAdd, Nat.reduceLT, if_true, seq_nx, List.set_cons_succ, List.set_cons_zero]
  rw [seq1 e5]
  simp [eB, eRs]
end DM
namespace K23
open DR DM
theorem t0 : PG.f_law_choice_right [] = .ok (.bool true) [] := isT_ok (by decide +kernel)
theorem t1 : PG.f_law_alone_right [] = .ok (.bool true) [] := isT_ok (by decide +kernel)
theorem t2 : PG.f_law_circle_right [] = .ok (.bool true) [] := isT_ok (by decide +kernel)
theorem t3 : PG.f_law_small_right_2 [] = .ok (.bool true) [] := isT_ok (by decide +kernel)
theorem law_true (ns : List Int) (h : ns.length ≤ 63) : f_law [.scr ns] = .ok (.bool true) [] := by
  simp [f_law, b_law, DR.run, callBy, t0, t1, t2, t3]
end K23
set_option Elab.async false
set_option linter.all false
set_option maxRecDepth 100000
set_option maxHeartbeats 0
open PySem PySem.W PySem.Calls PyProof.Rows
set_option maxRecDepth 100000 in
set_option maxHeartbeats 0 in
theorem PySem.Challenge.cw_defaultswaps_k23_whole_cases_by_hand_holds : PySem.Challenge.rw_defaultswaps_k23_whole_cases_by_hand.Holds := by
  w_on; o_law
  refine HandSHeadRun.head_any (r := OpenLaw.row PySem.Challenge.rw_defaultswaps_k23_whole_cases_by_hand) (q := view (OpenLaw.row PySem.Challenge.rw_defaultswaps_k23_whole_cases_by_hand).prog [67]) (H := K23.hk) (ob := K23.ob) (M := 4000) (loose := K23.names) (d := HandSHeadRun.topDef (OpenLaw.row PySem.Challenge.rw_defaultswaps_k23_whole_cases_by_hand).prog 67) (kwd := []) K23.ob_eq
    (by kernel_rfl) (fun s => by kernel_rfl) K23.run_top (by kernel_rfl) (by kernel_rfl) (by kernel_rfl) (by rfl) (by first | assumption | decide +kernel) (by decide +kernel) ⟨rfl, rfl, rfl, rfl, rfl, by decide +kernel⟩ ?hw ?hc
  case hw => w_witness2
  case hc =>
    refine DR.g_walk (l := PySem.Challenge.rw_defaultswaps_k23_whole_cases_by_hand) (n := 63) (k := 13) (x := "_law_script") rfl (by decide) (by kernel_rfl) ⟨rfl, by decide, by decide⟩ ?F
    intro w mg fa h Y G hmg0
    obtain ⟨K, KX, c⟩ := Y
    have hmg : mg ("law" : PySem.Str) = some (.ref fa) := by
      have e : (HandSHeadRun.topDef (OpenLaw.row PySem.Challenge.rw_defaultswaps_k23_whole_cases_by_hand).prog 67).name = ("law" : PySem.Str) := by kernel_rfl
      rw [← e]
      exact hmg0
    obtain ⟨fd, hb, hF⟩ := K23.facts (P := (PySem.Challenge.rw_defaultswaps_k23_whole_cases_by_hand).prog) (w := w) KX G c hmg
    exact ⟨K, fd, DR.spD K K23.f_law, KX, hb, DR.law_sp K23.law_true, fun base _ _ => hF base⟩
