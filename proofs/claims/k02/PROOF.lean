import PyProof.Rows.All
import Wide.All
import OpenK.AllK
import Wide.FinOn
import HandS.ForMost
import HandS.Conv
import HandS.More
import HandS.TupAny
import HandS.IsInst
import HandS.Wide
import HandS.Flow
import HandS.Style
import HandS.Zip
import HandS.Defaults
import PyProof.ReprRoads
import KE.KDictSum
import HandS.Walk
import PySem.Challenge.RW_aheadofholes_k02_holes_and_names_of_tree
set_option Elab.async false
set_option linter.all false
set_option maxRecDepth 100000
namespace Ah
open PySem PySem.Spec PyProof.Rows L2

/-! ## data: no dicts in what Dp reads -/
mutual
theorem dpNoDict {K : PySem.W.Frag} {H : Hp} : ∀ (d : PyData) (v : V), Dp K H v d → d.hasDict = false
  | .none, _, _ => by simp only [PyData.hasDict]
  | .bool _, _, _ => by simp only [PyData.hasDict]
  | .int _, _, _ => by simp only [PyData.hasDict]
  | .str _, _, _ => by simp only [PyData.hasDict]
  | .list ds, _, h => by
    cases h with
    | lst _ ha => simp only [PyData.hasDict]; exact dpNoDictAll ds _ ha
  | .tuple ds, _, h => by
    cases h with
    | tup _ ha => simp only [PyData.hasDict]; exact dpNoDictAll ds _ ha
  | .dict _, _, h => by cases h
theorem dpNoDictAll {K : PySem.W.Frag} {H : Hp} : ∀ (ds : List PyData) (vs : List V), DpAll K H vs ds → PyData.hasDictAll ds = false
  | [], _, _ => by simp only [PyData.hasDictAll]
  | d :: ds, _, h => by
    cases h with
    | cons a b => simp only [PyData.hasDictAll, dpNoDict d _ a, dpNoDictAll ds _ b, Bool.or_false]
end

/-! ## repr of data -/
def rRepr (K : PySem.W.Frag) : List V → Hp → VK → Prop := fun xs H Q => ∃ x d, xs = [x] ∧ Dp K H x d ∧
  d.showable = true ∧ d.depth ≤ 60 ∧ d.shown.length ≤ sizeLine ∧ Q (.str d.shown) H
theorem call_reprD {X : Cx} (hg : X.A.guards = some []) (hu : X.A.units + 64 < cLine) : CallR X (.builtin "repr") (rRepr X.K) := by
  intro pins s σ H xs us Q I r h
  obtain ⟨x, d, rfl, hd, hs, hdep, hsz, q⟩ := h
  obtain ⟨u, rfl, rx⟩ := vals1 r
  cases hd with
  | non =>
    obtain rfl : u = Value.none := rx
    refine PySem.P.repr_of_none ⟨.str _, H, I.tok _, ⟨_, rfl⟩, ?_⟩
    simpa only [PyData.shown] using q
  | bl b =>
    obtain rfl : u = Value.bool b := rx
    refine PySem.P.repr_of_bool ⟨.str _, H, I.tok _, ⟨_, rfl⟩, ?_⟩
    simpa only [PyData.shown] using q
  | int i =>
    obtain ⟨t, rfl⟩ := rx
    refine PySem.P.repr_of_int (by simpa [PyData.showable] using hs) ⟨.str _, H, I.tok _, ⟨_, rfl⟩, ?_⟩
    simpa only [PyData.shown] using q
  | str z =>
    obtain ⟨t, rfl⟩ := rx
    refine PySem.P.repr_of_str ⟨.str _, H, I.tok _, ⟨_, rfl⟩, ?_⟩ (by simpa only [PyData.shown] using hsz)
    simpa only [PyData.shown] using q
  | @lst a xs ds h1 h2 =>
    obtain rfl : u = Value.ref a := rx
    have hd : Dp X.K H (.ref a) (.list ds) := .lst h1 h2
    obtain ⟨as, rd⟩ := Dp.reads I (.list ds) (.ref a) (.ref a) hd rfl
    have nd := dpNoDict _ _ hd
    exact repr_of_reads' rd hs (fun z => by rw [nd] at z; cases z) hg (by omega) (fun _ _ e => e)
      (fun h' u tk hk => ⟨.str _, H, I.kept (t' := tk) hk, ⟨_, rfl⟩, q⟩) hsz
  | @tup a xs ds h1 h2 =>
    obtain rfl : u = Value.ref a := rx
    have hd : Dp X.K H (.ref a) (.tuple ds) := .tup h1 h2
    obtain ⟨as, rd⟩ := Dp.reads I (.tuple ds) (.ref a) (.ref a) hd rfl
    have nd := dpNoDict _ _ hd
    exact repr_of_reads' rd hs (fun z => by rw [nd] at z; cases z) hg (by omega) (fun _ _ e => e)
      (fun h' u tk hk => ⟨.str _, H, I.kept (t' := tk) hk, ⟨_, rfl⟩, q⟩) hsz

/-! ## defs that ask what runs around them (repr does): promises under "no repr is running" -/
section
variable {P : Program} {w : World} {K : PySem.W.Frag} {mg : Str → Option Value} {base : Heap} {CX : CXT} {k : Nat} {f : Addr} {fd : FuncData} {ps : List Str} {sp : Sp}
structure FnG (P : Program) (w : World) (K : PySem.W.Frag) (mg : Str → Option Value) (base : Heap) (CX : CXT) (k : Nat)
    (f : Addr) (fd : FuncData) (ps : List Str) (sp : Sp) : Prop where
  many : ∀ vs H Q E, sp vs H Q E → vs.length = ps.length
  runs : ∀ (A : Around) (outer : List Env) (s : Shared) (H : Hp) (args : Args) (us : List Value) (vs : List V) (Q : VK) (E : XK),
    A.guards = some [] → Room k A → Env0 P w K mg base A outer s H → BindsTo s fd args (ps.zip us) → Vals vs us → sp vs H Q E →
    codeAny (model P w) A (.call (.ref f) args) (CR CX outer P w H s Q E) s
theorem FnG.of (F : FnOk P w K mg base CX k f fd ps sp) : FnG P w K mg base CX k f fd ps sp :=
  ⟨F.len, fun A outer s H args us vs Q E _ => F.run A outer s H args us vs Q E⟩
theorem FnG.higher {j : Nat} (F : FnG P w K mg base CX j f fd ps sp) (h : j ≤ k) : FnG P w K mg base CX k f fd ps sp :=
  ⟨F.many, fun A outer s H args us vs Q E hg hr => F.runs A outer s H args us vs Q E hg (hr.mono h)⟩
end

section
variable {X : Cx} {CX : CXT} {k n : Nat} {f : Addr} {fd : FuncData} {ps ks : List Str} {sp : Sp} {E : XK} {x : Str} {p pos : Pos}
variable {e : Expr} {es : List Expr} {kws : List Keyword} {t tk : TA} {g : List Value → List Value → List Value} {gV : List V → List V → List V}
variable {dvs : List V} {ds : List Value}
/-- what lies behind a call, once it has run -/
theorem endOfCall {pins : List (Addr × Obj)} {σ : L2.St} {H : Hp} {s s' : Shared} {Q : VK} {r : Result} (hx : Passes CX X E) (I : Inv X pins σ H s)
    (hq : CR CX X.stack X.prog X.w H s Q E r s') :
    match r with
    | .ok (.ret u) => EP X pins σ Q u s'
    | .ok _ => False
    | .error e => X.xe e s' := by
  cases r with
  | error e => exact hx pins σ H s e s' I hq
  | ok fl => cases fl <;> first | exact I.after hq | exact False.elim hq
theorem runFnG {pins : List (Addr × Obj)} {σ : L2.St} {H : Hp} {s : Shared} {Q : VK} {us : List Value} {vs : List V} (F : FnG X.prog X.w X.K X.mg X.base CX k f fd ps sp)
    (hG : X.A.guards = some []) (hr : Room k X.A) (hb : Binds X.K fd ps ds) (hd : Vals dvs ds) (hx : Passes CX X E)
    (I : Inv X pins σ H s) (r : Vals vs us) (h : sp (vs ++ dvs) H Q E) :
    wpAny (model X.prog X.w) X.A (call (.ref f) us) (EP X pins σ Q) X.xe s := by
  have both : Vals (vs ++ dvs) (us ++ ds) := r.append hd
  have hl : (us ++ ds).length = ps.length := both.length.symm.trans (F.many _ _ _ _ h)
  refine wpAny_call (codeAny_mono
    (F.runs X.A X.stack s H ⟨us, []⟩ (us ++ ds) (vs ++ dvs) Q E hG hr I.env0 (hb s us I.kIn hl) both h) fun r s' hq => ?_)
  have z := endOfCall hx I hq
  cases r with
  | error e => exact z
  | ok fl => cases fl <;> first | exact z | exact False.elim z
theorem pe_callG (F : FnG X.prog X.w X.K X.mg X.base CX k f fd ps sp) (hG : X.A.guards = some []) (hr : Room k X.A) (hg : Gl X x) (hm : X.mg x = some (.ref f))
    (hk : PySem.W.keepIn X.K (.ref f) = true) (hb : Binds X.K fd ps ds) (hd : Vals dvs ds) (hx : Passes CX X E) (ha : PA X (e :: es) t)
    (hdb : (x == ("__debug__" : Str)) = false := by decide)
    (he : starEach (e :: es) X.env = (false, eval e X.env) :: starEach es X.env := by rfl)
    (hpl : (backTo pos (starEach es X.env)).any (·.1) = false := by rfl) :
    PE X (.Call (.Name x p) (e :: es) [] pos) (tCall sp dvs E t) := by
  constructor
  intro pins s σ H Q I h
  refine wpAny_Call_Name_kw (ld_glob I hg hm ?_ hdb)
  have inner := thn (ha.run pos pins s σ H _ I h) fun us s1 (z : AP X pins σ (fun vs H1 => sp (vs ++ dvs) H1 Q E) us s1) => z
  refine PySem.W.callWith_K (h₀ := X.base) I.ok.mod.kin hk (thn inner fun us s1 z => ?_) he hpl
  obtain ⟨vs, H1, I1, r, q⟩ := z
  exact ⟨I1.kIn, runFnG F hG hr hb hd hx I1 r q⟩
/-- f(k = v, ..): keywords alone -/
theorem pe_callKw (F : FnOk X.prog X.w X.K X.mg X.base CX k f fd ps sp) (hr : Room k X.A) (hg : Gl X x) (hm : X.mg x = some (.ref f))
    (hk : PySem.W.keepIn X.K (.ref f) = true) (hb : KBn X.K fd ps 0 ks g gV) (hx : Passes CX X E) (hkw : PK X kws tk)
    (hall : (backToKw pos (keywordEach kws X.env)).all (·.1.isSome) = true := by rfl)
    (hks : (backToKw pos (keywordEach kws X.env)).filterMap (·.1) = ks := by rfl)
    (hdb : (x == ("__debug__" : Str)) = false := by decide)
    (hpl : ((backTo pos (starEach [] X.env)).any (·.1) || (backToKw pos (keywordEach kws X.env)).any (·.1.isNone)) = false := by rfl) :
    PE X (.Call (.Name x p) [] kws pos) (tCallN 0 ks.length sp gV E tNil tk) := by
  constructor
  intro pins s σ H Q I h
  refine wpAny_Call_Name_kw (ld_glob I hg hm ?_ hdb)
  refine PySem.W.callWith_KW0 (h₀ := X.base) I.ok.mod.kin hk hall ?_ hpl
  refine thn (hkw.run pos pins s σ H _ I h) fun ws s2 z => ?_
  obtain ⟨zs, H2, I2, rz, l1, l2, q2⟩ := z
  refine ⟨I2.kIn, ?_⟩
  rw [hks]
  exact run_fnN (us := []) (vs := []) F hr hb hx I2 .nil rz l1 l2 q2
end
end Ah

namespace Ah
open PySem PySem.Spec PyProof.Rows L2

section
variable {P : Program} {w : World} {K : PySem.W.Frag} {mg : Str → Option Value} {base : Heap}
/-- a body's last flow is the call's end -/
theorem endOfBody {CX : CXT} {N : List Str} {qual : Str} {scope : Scope} {f : Addr} {cdv : Value} {A : Around} {outer : List Env} {s s' : Shared} {H : Hp} {E : XK} {Q : VK} {fl : Flow}
    (h : SP (cxOf CX P w K mg base N qual scope f cdv A outer s H E) [] { nx := fun _ H' => Q .non H', rt := Q } fl s') :
    match fl with
    | .ret u => CE outer P w H s Q u s'
    | .next => CE outer P w H s Q .none s'
    | _ => False := by
  cases fl with
  | ret u => obtain ⟨v, σ', H', J, rv, q⟩ := h; exact ⟨v, H', J.os, J.bare, J.base, J.hok, rv, q⟩
  | next => obtain ⟨σ', H', J, q⟩ := h; exact ⟨.non, H', J.os, J.bare, J.base, J.hok, rfl, q⟩
  | brk => obtain ⟨_, _, _, q⟩ := h; exact q
  | cont => obtain ⟨_, _, _, q⟩ := h; exact q
theorem Fun.okG {x qual : Str} {st : Stmt} {f : Addr} {fd : FuncData} {N ps : List Str} {k : Nat} {sp : Sp} (F : Fun K x qual st f fd) (S : FnScope N ps (defScope st))
    (len : ∀ vs H Q E, sp vs H Q E → vs.length = ps.length)
    (hbody : ∀ (cdv : Value) (A : Around) (outer : List Env) (s : Shared) (H : Hp) (vs : List V) (Q : VK) (E : XK), A.guards = some [] →
      Room k (A.deeper (envOfC qual (defScope st) s.heap.objs.size f cdv)) → sp vs H Q E →
      ∃ t, PSs (cxOf CX0 P w K mg base N qual (defScope st) f cdv A outer s H E).nox (defBody st) t ∧
        t { nx := fun _ H' => Q .non H', rt := Q } (start N vs) H) : FnG P w K mg base CX0 (k + 1) f fd ps sp := by
  obtain ⟨oc, od, kV, doc, pm, an, cdv, ct, osl, rfl, lk, hcd⟩ := F.ex
  constructor
  · exact len
  · intro A outer s H args us vs Q E hG hr e0 hb rv hsp
    have hl := len _ _ _ _ hsp
    have kept : ∀ b o, base.get? b = some o → s.heap.get? b = some o := fun b o e => (e0.bs b o e).1
    have KX : K.In s.heap := e0.mod.kin.keeps kept
    have lim := e0.mod.nolimit.keeps kept
    have kinds : ∀ y ∈ ps.zip us, (defScope st).names.lookup y.1 = some .local ∨
        ((defScope st).names.lookup y.1 = some .cell ∧ ((cellsFrom (s.heap.objs.size + 1) (defScope st).names []).lookup y.1).isSome = true) := by
      rintro ⟨n, v⟩ hy
      rcases S.par n (List.of_mem_zip hy).1 with q | q
      · left; exact q
      · right; exact ⟨q, PySem.W.cellsFrom_some _ _ _ (.inl q)⟩
    refine codeAny_call_function hr.depth (KX _ _ lk) rfl S.co S.gen rfl (PySem.W.codeRec_of KX hcd) (hb _ _ _ _ (wpAny_newFunctionEnv_cells S.kind kinds ?_))
    rintro env rfl s1 x
    refine ⟨lim.keeps x.toInCall.keep, codeAny_func ?_⟩
    obtain ⟨t, ht, hq⟩ := hbody cdv A outer s H vs Q E hG (hr.deeper _) hsp
    have I := inv_start (CX := CX0) (E := E) S hr.hd e0 hl rv x
    refine wpAny_mono (ht.nox.run [] s1 (start N vs) H _ I hq) (fun fl s' hs => ?_) (fun e s' hs => hs)
    have z := endOfBody hs
    cases fl <;> first | exact z | exact False.elim z
end

/-! ## the law's own call, nothing of repr running -/
theorem lawCallG {P : Program} {w : World} {K : PySem.W.Frag} {mg mb : Str → Option Value} {k : Nat} {fa a : Addr} {fd : FuncData} {x : Str} {sp : Sp} {s₁ : Shared} {vs : List Value} {ns : List Int}
    (KX : K.In s₁.heap) (hns : s₁.heap.Ns mainGlobals mg) (hb : s₁.heap.Ns builtinsNs mb) (hbb : ∀ x : Str, x ≠ "__name__" → mb x = bootBuiltins x)
    (hlim : s₁.heap.NoLimit) (hg : s₁.gens = #[]) (ha : s₁.heap.get? a = some { cls := .type "list", data := .seq vs.toArray })
    (hi : IntsAre vs ns) (hl : ns.length ≤ sizeLine) (hr : Room k callerA)
    (F : ∀ base : Heap, K.In base → base.Ns mainGlobals mg → FnG P w K mg base CX0 k fa fd [x] sp)
    (hbind : ∀ (s : Shared) (u : Value), BindsTo s fd ⟨[u], []⟩ [(x, u)])
    (hsp : ∀ H : Hp, Only H → SqL K H a (ns.map V.int) → sp [.ref a] H (fun v _ => v = .bl true) E0) :
    codeAny (model P w) callerA (.call (.ref fa) ⟨[.ref a], []⟩)
      (fun r s' => r = .ok (.ret (.bool true)) ∧ OldK s₁.heap s'.heap ∧ s'.os = s₁.os ∧ AllBare s'.gens) s₁ := by
  -- whatever is tracked at the entry: nothing, or the script alone, frozen
  suffices core : ∀ H : Hp, Only H → SqL K H a (ns.map V.int) → HOk P w H s₁.heap → (∀ b, H b ≠ none → b = a) → (H a ≠ none → K.lookup a = none) →
      codeAny (model P w) callerA (.call (.ref fa) ⟨[.ref a], []⟩)
        (fun r s' => r = .ok (.ret (.bool true)) ∧ OldK s₁.heap s'.heap ∧ s'.os = s₁.os ∧ AllBare s'.gens) s₁ by
    cases hk : K.lookup a with
    | some o =>
      have e := KX a o hk
      have eo : o = { cls := .type "list", data := .seq vs.toArray } := Option.some.inj (e.symm.trans ha)
      subst eo
      refine core (fun _ => none) (fun _ => .inl rfl) (.inr ⟨_, vs.toArray, _, hk, rfl, rfl, rfl, ?_, ?_⟩) (fun b u z => by cases (show (none : Option HO) = some u from z)) (fun b z => (z rfl).elim) (fun z => (z rfl).elim)
      · rw [List.size_toArray, hi.length]; exact hl
      · simpa using vals_ints hi
    | none =>
      let it : HO := .frz { cls := .type "list", data := .seq vs.toArray } (.lst (ns.map V.int))
      let H₀ : Hp := fun b => if b = a then some it else none
      have ha0 : H₀ a = some it := if_pos rfl
      have no : ∀ {b}, b ≠ a → H₀ b = none := fun h => if_neg h
      refine core H₀ (fun b => ?_) (.inl (.inr ⟨_, ha0⟩)) (fun b u z => ?_) (fun b z => ?_) (fun _ => hk)
      · exact (Decidable.em (b = a)).elim (fun e => .inr ⟨_, _, e ▸ ha0⟩) (fun e => .inl (no e))
      · refine (Decidable.em (b = a)).elim (fun e => ?_) (fun e => by rw [no e] at z; cases z)
        subst e
        rw [ha0] at z
        cases z
        exact ⟨ha, by rw [List.length_map]; exact hl, vs, _, vals_ints hi, ha⟩
      · exact (Decidable.em (b = a)).elim id (fun e => (z (no e)).elim)
  intro H hO hS hok hA hK
  have own : ∀ {b : Addr} {u : HO}, H b = some u → b = a := fun {b u} q => hA b (by rw [q]; exact Option.some_ne_none u)
  have bring : ∀ {b : Addr} {o : Obj}, s₁.heap.get? b = some o → H b = none → (hidT s₁.heap H).get? b = some o := hidT_get
  have noDict : ∀ {b : Addr} {o : Obj} {es : Array DictEntry} {ep : Nat}, s₁.heap.get? b = some o → o.data = .dict es ep → H b = none := by
    intro b o es ep e d
    cases q : H b with
    | none => rfl
    | some u =>
      obtain rfl := own q
      obtain rfl := Option.some.inj (ha.symm.trans e)
      cases d
  have ns' : ∀ {b : Addr} {m : Str → Option Value}, s₁.heap.Ns b m → (hidT s₁.heap H).Ns b m := by
    rintro b m ⟨o, es, ep, e, d, r⟩
    exact ⟨o, es, ep, bring e (noDict e d), d, r⟩
  have hKb : K.In (hidT s₁.heap H) := by
    intro b o e
    refine bring (KX b o e) ?_
    cases q : H b with
    | none => rfl
    | some u =>
      obtain rfl := own q
      rw [hK (by rw [q]; exact Option.some_ne_none u)] at e
      cases e
  obtain ⟨mc, l1, l2⟩ := hlim
  have hM : Mod K mg (hidT s₁.heap H) := ⟨hKb, ns' hns, ⟨mb, ns' hb, hbb⟩, ⟨mc, ns' l1, l2⟩⟩
  have nofr : ∀ b, b ∉ frs ([] : List Env) := fun b h => by cases h
  have e0 : Env0 P w K mg (hidT s₁.heap H) callerA [] s₁ H :=
    ⟨rfl, hM, fun b o e => of_hidT e, Nat.le_of_eq (hidT_size _ _), trivial, fun b hb => (nofr b hb).elim, hok, .of_eq hg⟩
  have run := (F _ hKb (ns' hns)).runs callerA [] s₁ H ⟨[.ref a], []⟩ [.ref a] [.ref a] _ _ rfl hr e0 (hbind s₁ (.ref a)) (.cons rfl .nil) (hsp H hO hS)
  refine codeAny_mono run fun r s' h => ?_
  match r, h with
  | .error e, h => exact False.elim h
  | .ok .next, h => exact False.elim h
  | .ok .brk, h => exact False.elim h
  | .ok .cont, h => exact False.elim h
  | .ok (.ret u), h =>
    obtain ⟨v, H', os, bare, un, hok', rv, q⟩ := h
    have q' : v = .bl true := q
    subst q'
    obtain rfl : u = Value.bool true := rv
    refine ⟨rfl, OldK.of_keep fun b o e => ?_, os, bare⟩
    cases q : H b with
    | none => exact un.keep b o e q (nofr b) (fun z => by cases z)
    | some u =>
      rcases hO b with z | ⟨ob, xs, z⟩
      · rw [q] at z; cases z
      · have old := (hok b _ z).1
        have new := (hok' b _ (un.frzs b ob _ z)).1
        have eo := Option.some.inj (e.symm.trans old)
        subst eo
        exact new

theorem walkG {l : PySem.W.OpenLaw} {n k : Nat} {q : Program} {loose : List Str} {XP : (Str → Option Value) → Heap → Prop} {YP : World → Heap → Prop} {d : DefRec} {K : Params → PySem.W.Frag} {sp : World → Sp} {x : Str}
    (hn : l.most = some n) (hn2 : n ≤ sizeLine) (hdf : d.params.defaults = []) (hr : Room k callerA)
    (hY : ∀ (w : World) (h : Heap), YP w h → (K w.params).In h)
    (F : ∀ (w : World) (mg : Str → Option Value) (fa : Addr) (h : Heap), (K w.params).In h → h.Ns mainGlobals mg → mg d.name = some (.ref fa) →
      ∃ fd : FuncData, (∀ (s : Shared) (u : Value), BindsTo s fd ⟨[u], []⟩ [(x, u)]) ∧
        ∀ base : Heap, (K w.params).In base → base.Ns mainGlobals mg → FnG l.prog w (K w.params) mg base CX0 k fa fd [x] (sp w))
    (hsp : ∀ (w : World) (H : Hp) (a : Addr) (ns : List Int), ns.length ≤ n → Only H → SqL (K w.params) H a (ns.map V.int) →
      sp w [.ref a] H (fun v _ => v = .bl true) E0) :
    PySem.W.WalkO q loose XP YP l.row.toRowW d [] (fun f vs => PySem.call f vs) := by
  apply Att.attach_call hn hdf
  intro w s₀ s₁ mg mb fa o pm cd doc a vs ns G Y ho hd hcd hmg hobj hints hlen hg
  obtain ⟨fd, hb, hF⟩ := F w mg fa _ (hY w _ Y) G.T.g hmg
  exact lawCallG (hY w _ Y) G.T.g G.T.b G.T.builtins G.T.nolimit hg hobj hints (Nat.le_trans hlen hn2) hr hF hb (fun H hO hS => hsp w H a ns hlen hO hS)
end Ah

namespace Ah
open PySem PySem.Spec PyProof.Rows L2
open Sem (wp)

/-! ## text * number -/
def rMulS : R2 := fun x y H Q => ∃ z n, x = .str z ∧ y = .int n ∧ MulOk z n ∧ Q (.str (Txt.mul z n)) H
theorem op_mulStr {X : Cx} : OpR X (binaryOp .Mult) rMulS := by
  intro pins s σ H x y v u Q I rx ry h
  obtain ⟨z, n, rfl, rfl, ok, q⟩ := h
  obtain ⟨t, rfl⟩ := rx
  obtain ⟨t', rfl⟩ := ry
  exact SB.mul ok fun t'' k => ⟨.str _, H, I.tok _, ⟨_, rfl⟩, q⟩

/-! ## tuple(a dict) -/
section
variable {prog : Program} {w : World} {A : Around} {E : Value → Shared → Prop} {s : Shared}
theorem newTupD {T : String} {r d : Addr} {n : Nat} {PP : Nat → Value → Prop} {OK : Heap → Prop} {Q₁ : Value → Shared → Prop} (KS : PySem.W.KdlSrc prog w T r d n PP OK)
    (hh : A.handled = none) (hok : OK s.heap) (hn : n ≤ sizeLine) (hT : s.TypeIs (.ref r) T)
    (hnt : (Value.type T == Value.type "tuple") = false)
    (h : ∀ (h' : Heap) (tk : Nat) (acc : Array Value), (∀ b o, s.heap.get? b = some o → h'.get? b = some o) → ItemsOf PP acc n →
      Q₁ (.ref h'.objs.size) { s with heap := h'.push { cls := .type "tuple", data := .seq acc }, toks := tk }) :
    codeAny (model prog w) A (.call (.builtin "tuple.__new__") ⟨[.type "tuple", .ref r], []⟩) (wants Q₁ E) s := by
  refine codeAny_of_tree ?_
  show wpAny _ A.in1 (do checkBuiltinCall "tuple.__new__" ⟨[.type "tuple", .ref r], []⟩; again (.builtin "tuple.__new__" ⟨[.type "tuple", .ref r], []⟩)) _ _ s
  refine wpAny_bind (wpAny_of_eq (F.newCall_tuple_1 _) (wpAny_pure ⟨plainId_quiet F.plain_tuple_new _, codeAny_builtin F.entry_tuple_new ?_⟩))
  rw [Around.under_plainId F.plain_tuple_new _]
  have q1 := sub_tuple_self
  have q2 := init_tuple_lookup
  have q3 := madeHere_tuple
  have hh1 : A.in1.handled = none := hh
  wp_walk using wpAny_typeOf hT, PySem.W.kdu_collect (A := A.in1) KS hh1 hok hn
  intro h' tk acc hk hacc
  show wpAny _ _ (Builtin.Tuple.tupleExact acc.toList.toArray >>= fun v => ret v) _ _ _
  unfold Builtin.Tuple.tupleExact
  refine wpAny_bind (wpAny_newObj_type (wpAny_pure ?_) ?_)
  · rw [Array.toArray_toList]; exact h h' tk acc hk hacc
  · show acc.toList.toArray.size ≤ sizeLine
    rw [Array.toArray_toList, hacc.1]; exact hn
theorem callTupD {T : String} {r d : Addr} {n : Nat} {PP : Nat → Value → Prop} {OK : Heap → Prop} {Q : Value → Shared → Prop} (KS : PySem.W.KdlSrc prog w T r d n PP OK)
    (hh : A.handled = none) (hok : OK s.heap) (hn : n ≤ sizeLine) (hT : s.TypeIs (.ref r) T) (hnt : (Value.type T == Value.type "tuple") = false)
    (hQ : ∀ (h' : Heap) (tk : Nat) (acc : Array Value), (∀ b o, s.heap.get? b = some o → h'.get? b = some o) → ItemsOf PP acc n →
      Q (.ref h'.objs.size) { s with heap := h'.push { cls := .type "tuple", data := .seq acc }, toks := tk }) :
    wpAny (model prog w) A (call (.type "tuple") [.ref r]) Q E s := by
  have made := newTupD (Q₁ := fun obj s₁ => s₁.TypeIs obj "tuple" ∧ Q obj s₁) (E := E) (A := A.in1) KS hh hok hn hT hnt
    fun h' tk acc hk hacc => ⟨⟨_, Heap.get?_push_size _ rfl, rfl⟩, hQ h' tk acc hk hacc⟩
  refine callType_codes F.called_tuple (F.typeCall_tuple_1 _) F.entry_object_init made fun obj s₁ h₁ => ⟨h₁.1, F.args_object_init_2 obj _, ?_⟩
  exact object_init_meets F.called_tuple.init.lookup F.called_tuple.made (by decide) prog w A.in1 _ s₁ ⟨h₁.1, rfl, h₁.2⟩
end
def rTupD : List V → Hp → VK → Prop := fun xs H Q => ∃ p kvs, xs = [.ref p] ∧ H p = some (.dK kvs) ∧
  ∀ q, H q = none → Q (.ref q) (upd H q (.tup (kvs.map fun kv => kV kv.1)))
theorem call_tupleD {X : Cx} (hc : X.calm = true) : CallR X (.type "tuple") rTupD := by
  intro pins s σ H xs us Q I r h
  obtain ⟨p, kvs, rfl, hk, q⟩ := h
  obtain ⟨u, rfl, rx⟩ := vals1 r
  obtain rfl : u = Value.ref p := rx
  obtain ⟨z, lo, vs, rk, hd⟩ := (show ObjOk X.prog X.w H s.heap p (.dK kvs) from I.hok p _ hk)
  obtain ⟨ep, hat⟩ := hd.dictAt
  have hl : kvs.length = vs.length := Paired.length rk
  refine callTupD (PySem.W.kdl_dict (knd := mixKind X.prog X.w) (kvs := vs) (ep := ep) lo) (I.ok.hd hc) hat (by rw [← hl]; exact z) hd.typeIs (by decide) fun h' tk acc hkeep hacc => ?_
  have I1 : Inv X pins σ H { s with heap := h', toks := tk } := I.kept (t' := tk) hkeep
  refine ⟨.ref h'.objs.size, upd H h'.objs.size (.tup (kvs.map fun kv => kV kv.1)), I1.laid (t' := tk) (fun b o e => Heap.get?_push_of_some _ e) (Nat.le_refl _)
    (show ObjOk X.prog X.w _ _ _ (.tup (kvs.map fun kv => kV kv.1)) from ⟨?_, acc.toList, ?_, ?_⟩), rfl, q _ (I1.hok.fresh (Nat.le_refl _))⟩
  · rw [List.length_map]; exact z
  · have el : acc.toList.length = acc.size := Array.length_toList
    refine vals_of_at (by rw [List.length_map, el, hacc.1, hl]) fun j x w h1 h2 => ?_
    obtain ⟨k, y, hky, hi⟩ := hacc.2 j w (by rw [← Array.getElem?_toList]; exact h2)
    have e1 : (kvs.map (·.1))[j]? = some k := by
      rw [KV.keys rk, List.getElem?_map, hky]; rfl
    have e3 : (kvs.map fun kv => kV kv.1) = (kvs.map (·.1)).map kV := by rw [List.map_map]; rfl
    rw [e3, List.getElem?_map, e1] at h1
    cases h1
    exact keyIs_rel hi
  · rw [Array.toArray_toList]; exact IsTup.new _ _

/-! ## list.extend(a tuple) -/
theorem ext_tup (l : Addr) (items : Array Value) (n : Nat) (b : Addr) (dd : Option Addr) (sl : Array (Option Value)) (items2 : Array Value) (n2 : Nat)
    (a0 : ¬(!items.isEmpty && Builtin.List.listTooLong (items.size + items2.size)) = true) (a1 : items.size ≤ sizeLine) (a2 : items.size + items2.size ≤ sizeLine + 1) :
    Meets (Builtin.«list.extend» ⟨[.ref l, .ref b], []⟩) (fun _ R s => s.heap.get? l = some { cls := .type "list", dict := none, data := .seq items n, slots := #[] } ∧
      s.heap.get? b = some { cls := .type "tuple", dict := dd, data := .seq items2 n2, slots := sl } ∧
      R (.ok (.ret Value.none)) { s with heap := s.heap.update l (Obj.mapSeq fun x => x ++ items2), toks := s.toks }) :=
  .of_wp fun prog w A R s h => by
    obtain ⟨hp, g, d, tk, os⟩ := s
    obtain ⟨hl, hb, h⟩ := h
    have f1 := AutoSeq1.idx_int
    have f2 := AutoSeq1.sub_tuple_tuple
    have f3 := AutoSeq1.sub_list_list
    have f4 := AutoSeq1.sub_tuple_list
    have f5 := AutoSeq1.sub_list_tuple
    have big : (items ++ items2).size ≤ sizeLine + 1 := by rw [Array.size_append]; exact a2
    wp_walk using (wpAny_updateSeq hl rfl (hz := a1) (_hz' := big)), wpAny_loadPart' hl, wpAny_loadPart' hb
    exact ⟨_, rfl, h⟩
def rExtT (K : PySem.W.Frag) : V → List V → Hp → VK → Prop := fun x vs H Q => ∃ l b xs zs, x = .ref l ∧ vs = [.ref b] ∧
  H l = some (.lst xs) ∧ SqT K H b zs ∧ xs.length + zs.length ≤ sizeLine ∧ Q .non (upd H l (.lst (xs ++ zs)))
theorem mt_extendT {X : Cx} : MtM X "list.extend" (rExtT X.K) := by
  intro pins s σ H x vs v us Q I rx rv h
  obtain ⟨l, b, xs, zs, rfl, rfl, hH, hB, hz, q⟩ := h
  cases rx
  obtain ⟨u, rfl, ru⟩ := rv.one
  cases ru
  obtain ⟨z, its, n, r, hl, e⟩ := I.lstM hH
  obtain ⟨its2, r2, ⟨⟨cl, dd, dt, sl⟩, e2, hc, n2, hd⟩, z2⟩ := I.tuple hB
  simp only at hc hd
  subst hc hd
  have l2 : zs.length = its2.length := r2.length
  have size2 : its.toArray.size + its2.toArray.size ≤ sizeLine := by rw [List.size_toArray, List.size_toArray]; omega
  have short : ¬ (!its.toArray.isEmpty && Builtin.List.listTooLong (its.toArray.size + its2.toArray.size)) = true := by
    rw [notLongL size2, Bool.and_false]; exact Bool.false_ne_true
  refine call_meets F.slot_list_extend ⟨_, e, rfl⟩ F.entry_list_extend (F.args_list_extend_2 _ _)
    (ext_tup l its.toArray n b dd sl its2.toArray n2 short (by rw [List.size_toArray]; omega) (by omega)) ⟨e, e2, ?_⟩
  refine ⟨.non, _, I.lset (its' := its ++ its2) hH e (by simp) (r.append r2) ?_, rfl, q⟩
  rw [List.length_append]
  exact hz

/-! ## t[:0:-1], t[::-1] of a tuple -/
theorem backPick (xs : Array Value) : ∀ k : Nat, k ≤ xs.size →
    ((List.range k).filterMap fun (m : Nat) => xs[(((xs.size : Int) - 1) + (m : Int) * (-1)).toNat]?) = (xs.toList.drop (xs.size - k)).reverse
  | 0, _ => by simp
  | k + 1, h => by
    have ih := backPick xs k (by omega)
    have hi : xs.size - (k + 1) < xs.toList.length := by rw [Array.length_toList]; omega
    have e1 : (((xs.size : Int) - 1) + (k : Int) * (-1)).toNat = xs.size - (k + 1) := by omega
    have e2 : xs.toList.drop (xs.size - (k + 1)) = xs.toList[xs.size - (k + 1)] :: xs.toList.drop (xs.size - k) := by
      have e3 : xs.size - (k + 1) + 1 = xs.size - k := by omega
      rw [← e3]; exact List.drop_eq_getElem_cons hi
    have e4 : xs[xs.size - (k + 1)]? = some xs.toList[xs.size - (k + 1)] := by
      rw [← Array.getElem?_toList]; exact List.getElem?_eq_getElem hi
    rw [List.range_succ, List.filterMap_append, ih, e2, List.reverse_cons]
    congr 1
    simp only [List.filterMap_cons, List.filterMap_nil, e1, e4]
section
variable {prog : Program} {w : World} {A : Around} {E : Value → Shared → Prop} {s : Shared}
theorem sliceBack {sl : Addr} {vl vu vs : Value} {lo hi st : Option Int} {n : Nat} {Q : Int × Int × Nat → Shared → Prop} (hs : s.heap.IsSliceOf sl vl vu vs)
    (pl : IsPart vl lo) (pu : IsPart vu hi) (ps : IsPart vs (some (-1))) (L : Int) (k : Nat)
    (ha : ∃ b, Builtin.Slice.sliceAdjust lo hi (-1) (n : Int) = (L, b) ∧ Builtin.Slice.slicePlaces L b (-1) = k)
    (h : Q (L, -1, k) s) : wpAny (model prog w) A (Builtin.Slice.sliceApplied (.ref sl) (pure (n : Int))) Q E s := by
  obtain ⟨os, hos, hcs, hds⟩ := id hs
  obtain ⟨b, e1, e2⟩ := ha
  unfold Builtin.Slice.sliceApplied Builtin.Slice.sliceFields
  refine wpAny_bind (wpAny_bind (wpAny_field hos hds (x := vl) rfl (wpAny_bind (wpAny_field hos hds (x := vu) rfl (wpAny_bind (wpAny_field hos hds (x := vs) rfl (wpAny_pure ?_)))))))
  refine wpAny_bind (HT.slicePart_ ps ?_)
  show wpAny _ _ (if ((-1 : Int) == 0) = true then _ else _) _ _ s
  rw [if_neg (by decide)]
  refine wpAny_bind (HT.slicePart_ pl (wpAny_bind (HT.slicePart_ pu (wpAny_bind (wpAny_pure ?_)))))
  show wpAny _ _ (match Builtin.Slice.sliceAdjust lo hi (-1) (n : Int) with | (lo, hi) => pure (lo, (-1 : Int), Builtin.Slice.slicePlaces lo hi (-1))) _ _ s
  rw [e1]
  show wpAny _ _ (pure (L, (-1 : Int), Builtin.Slice.slicePlaces L b (-1))) _ _ s
  rw [e2]
  exact wpAny_pure h
theorem itemsBack {t sl : Addr} {items : Array Value} {vl vu vs : Value} {lo hi : Option Int} {Q : Value → Shared → Prop} (ht : IsTup s.heap t items)
    (hs : s.heap.IsSliceOf sl vl vu vs) (pl : IsPart vl lo) (pu : IsPart vu hi) (ps : IsPart vs (some (-1))) (k : Nat) (hk : k ≤ items.size)
    (ha : ∃ b, Builtin.Slice.sliceAdjust lo hi (-1) (items.size : Int) = ((items.size : Int) - 1, b) ∧ Builtin.Slice.slicePlaces ((items.size : Int) - 1) b (-1) = k)
    (h : Q (.ref s.heap.objs.size) { s with heap := s.heap.push { cls := .type "tuple", data := .seq ((items.toList.drop (items.size - k)).reverse).toArray } })
    (hsz : items.size ≤ sizeLine) : wpAny (model prog w) A (getItem (.ref t) (.ref sl)) Q E s := by
  have fits : sizeOk (.seq ((items.toList.drop (items.size - k)).reverse).toArray) := by
    show ((items.toList.drop (items.size - k)).reverse).toArray.size ≤ sizeLine
    rw [List.size_toArray, List.length_reverse, List.length_drop, Array.length_toList]; omega
  obtain ⟨os, hos, hcs, hds⟩ := id hs
  have tySl : s.TypeIs (.ref sl) "slice" := ⟨os, hos, hcs⟩
  unfold getItem
  try with_reducible refine wpAny_holding ?_
  first | refine wpAny_bind (wpAny_pure ?_) | skip
  refine wpAny_bind (wpAny_sequenceKey ht.typeIs (by decide) ?_)
  refine wpAny_bind (wpAny_callSpecial?_slot (name := Str.ofString "__getitem__") ht.typeIs PyProof.Rows.slot_tuple_getitem
    (wpAny_call_entry PyProof.Rows.slot_tuple_getitem ht.typeIs entry_tuple_getitem ?_ (args_tuple_getitem _ _)))
  show wpAny _ _ (Builtin.Tuple.tupleItemsOf (.ref t) >>= _) _ _ s
  refine wpAny_bind (tupleItemsOf_ ht (wpAny_bind (wpAny_typeOf tySl ?_)))
  rw [if_pos (by decide)]
  refine wpAny_bind (sliceBack (st := some (-1)) hs pl pu ps _ k ha ?_)
  have notAll : ¬ ((((items.size : Int) - 1 == 0) && (-1 : Int) == 1 && k == items.size) = true) := by simp
  show wpAny _ _ (if (((items.size : Int) - 1 == 0) && (-1 : Int) == 1 && k == items.size) = true then _ else _) _ _ s
  rw [if_neg notAll, backPick items k hk]
  first
    | exact wpAny_bind (m := Builtin.Tuple.tupleExact _) (wpAny_newObj_type (wpAny_pure ⟨_, rfl, wpAny_pure h⟩) fits)
    | exact wpAny_bind (wpAny_bind (m := Builtin.Tuple.tupleExact _) (wpAny_newObj_type (wpAny_pure ⟨_, rfl, wpAny_pure h⟩) fits))
end
section
variable {X : Cx} {e : Expr} {te : TE} {k k0 : Nat} {p0 p1 p2 p3 pos : Pos}
/-- t[:0:-1], t a tuple that has an item: all but the first, from behind -/
def tBack0 (K : PySem.W.Frag) (te : TE) : TE := fun σ H Q => te σ H fun x H1 => ∃ a y xs, x = .ref a ∧ SqT K H1 a (y :: xs) ∧
  ∀ p, H1 p = none → Q (.ref p) (upd H1 p (.tup xs.reverse))
theorem adj0 (n : Nat) : ∃ b, Builtin.Slice.sliceAdjust none (some 0) (-1) (((n + 1 : Nat) : Int)) = (((n + 1 : Nat) : Int) - 1, b) ∧ Builtin.Slice.slicePlaces ((((n + 1 : Nat) : Int)) - 1) b (-1) = n := by
  refine ⟨0, ?_, ?_⟩
  · unfold Builtin.Slice.sliceAdjust
    simp only [show ¬ ((-1 : Int) > 0) by decide, if_false]
    simp
    omega
  · unfold Builtin.Slice.slicePlaces
    simp only [show ¬ ((-1 : Int) > 0) by decide, if_false, show -(-1 : Int) = 1 from rfl, Int.ediv_one]
    split <;> omega
theorem pe_back0 (he : PE X e te) : PE X (.Subscript e (.Slice none (some (.Constant (.int 0) k0 p0)) (some (.UnaryOp .USub (.Constant (.int 1) k p1) p2)) p3) pos) (tBack0 X.K te) := by
  constructor
  intro pins s σ H Q I h
  refine Subscript_ (thn (he.run pins s σ H _ I h) fun v s1 z => ?_)
  obtain ⟨x, H1, I1, r1, a, y, xs, ex, hx, q⟩ := z
  subst ex
  cases r1
  have hst : PO X (some (.UnaryOp .USub (.Constant (.int 1) k p1) p2)) (tPart (tUn (rU fun i => .int (-i)) (tC (.int 1)))) := po_some (pe_un un_neg pe_int)
  have h0 : PO X (some (.Constant (.int 0) k0 p0)) (tPart (tC (.int 0))) := po_some pe_int
  refine wpAny_Slice (thn (po_none.run pins s1 σ H1 (fun o H2 => o = none ∧ H2 = H1) I1 ⟨rfl, rfl⟩) ?_)
  rintro vl s2 ⟨l, H2, I2, pl, rfl, rfl⟩
  refine thn (h0.run pins s2 σ H2 (fun o H3 => o = some 0 ∧ H3 = H2) I2 ⟨0, rfl, rfl, rfl⟩) ?_
  rintro vu s3 ⟨u, H3, I3, pu, rfl, rfl⟩
  refine thn (hst.run pins s3 σ H3 (fun o H4 => o = some (-1) ∧ H4 = H3) I3 ⟨1, rfl, -1, rfl, rfl, rfl⟩) ?_
  rintro vs s4 ⟨o, H4, I4, ps, rfl, rfl⟩
  have I5 : Inv X pins σ H4 { s4 with heap := s4.heap.push { cls := .type "slice", data := .fields #[vl, vu, vs] } } :=
    I4.kept (t' := s4.toks) fun b ob z => Heap.get?_push_of_some _ z
  obtain ⟨its, r, ht, hz⟩ := I5.tuple hx
  obtain ⟨w0, ws, rfl⟩ : ∃ w0 ws, its = w0 :: ws := by cases r; exact ⟨_, _, rfl⟩
  have hlen := r.length
  simp only [List.length_cons] at hlen hz
  refine tail_any (ops := [.ref a, .ref s4.heap.objs.size]) ht.typeIs (PyProof.Rows.slot_tuple_getitem.lookup) ?_ (by with_unfolding_all rfl)
  refine itemsBack ht (Heap.IsSliceOf.new _ vl vu vs) pl pu ps ws.length (by simp) (by simpa using adj0 ws.length) ?_ (by rw [List.size_toArray, List.length_cons]; omega)
  have e1 : ((w0 :: ws).toArray.toList.drop ((w0 :: ws).toArray.size - ws.length)).reverse = ws.reverse := by simp
  rw [e1]
  refine ⟨.ref _, _, I5.laid (t' := s4.toks) (o := .tup xs.reverse) (fun b ob z => Heap.get?_push_of_some _ z) (Nat.le_refl _) ?_, rfl, q _ (I5.hok.fresh (Nat.le_refl _))⟩
  cases r with
  | cons _ rr => exact ⟨by rw [List.length_reverse]; omega, _, (show Vals xs ws from rr).reverse, IsTup.new _ _⟩
end
end Ah

namespace Ah
open PySem PySem.Spec PyProof.Rows L2

/-! ## defs of the text, by their names -/
/-- the def st stands under its name behind the top -/
def At (K : PySem.W.Frag) (mg : Str → Option Value) (x : Str) (st : Stmt) : Prop := ∃ f fd, Fun K x x st f fd ∧ mg x = some (.ref f)
section
variable (P : Program) (w : World) (K : PySem.W.Frag) (mg : Str → Option Value) (base : Heap)
/-- .. and keeps a promise -/
def Has (k : Nat) (x : Str) (st : Stmt) (ps : List Str) (sp : Sp) : Prop :=
  ∃ f fd, Fun K x x st f fd ∧ FnOk P w K mg base CX0 k f fd ps sp ∧ Binds K fd ps [] ∧ mg x = some (.ref f)
/-- .. where no repr is running -/
def HasG (k : Nat) (x : Str) (st : Stmt) (ps : List Str) (sp : Sp) : Prop :=
  ∃ f fd, Fun K x x st f fd ∧ FnG P w K mg base CX0 k f fd ps sp ∧ Binds K fd ps [] ∧ mg x = some (.ref f)
end
/-- how many positional arguments bind -/
def Posi (x : Str) (st : Stmt) (ps : List Str) : Prop := ∀ (kV doc pm : Value) (an : Option Addr) (cdv ct : Value) (us : List Value), us.length = ps.length →
  bindArgs (PySem.W.fnOf x x (defArgs st) (defBody st) (defScope st) .none kV doc pm an cdv ct) ⟨us, []⟩ = pure (ps.zip us)
/-- how keywords alone bind: g puts their values in the parameters' order -/
def Keyw (x : Str) (st : Stmt) (ps ks : List Str) (g : {α : Type} → List α → List α) : Prop := ∀ (kV doc pm : Value) (an : Option Addr) (cdv ct : Value) (ws : List Value), ws.length = ks.length →
  bindArgs (PySem.W.fnOf x x (defArgs st) (defBody st) (defScope st) .none kV doc pm an cdv ct) ⟨[], ks.zip ws⟩ = pure (ps.zip (g ws))
section
variable {P : Program} {w : World} {K : PySem.W.Frag} {mg : Str → Option Value} {base : Heap} {x : Str} {st : Stmt} {N ps : List Str} {k : Nat} {sp : Sp}
theorem At.has (T : At K mg x st) (S : FnScope N ps (defScope st)) (b : Posi x st ps) (len : ∀ vs H Q E, sp vs H Q E → vs.length = ps.length)
    (body : ∀ (f : Addr) (cdv : Value) (A : Around) (outer : List Env) (s : Shared) (H : Hp) (vs : List V) (Q : VK) (E : XK), Room k (A.deeper (envOfC x (defScope st) s.heap.objs.size f cdv)) → sp vs H Q E →
      ∃ t, PSs (cxOf CX0 P w K mg base N x (defScope st) f cdv A outer s H E).nox (defBody st) t ∧ t { nx := fun _ H' => Q .non H', rt := Q } (start N vs) H) :
    Has P w K mg base (k + 1) x st ps sp := by
  obtain ⟨f, fd, F, m⟩ := T
  exact ⟨f, fd, F, F.ok S len (body f), F.binds b, m⟩
theorem At.hasG (T : At K mg x st) (S : FnScope N ps (defScope st)) (b : Posi x st ps) (len : ∀ vs H Q E, sp vs H Q E → vs.length = ps.length)
    (body : ∀ (f : Addr) (cdv : Value) (A : Around) (outer : List Env) (s : Shared) (H : Hp) (vs : List V) (Q : VK) (E : XK), A.guards = some [] → Room k (A.deeper (envOfC x (defScope st) s.heap.objs.size f cdv)) → sp vs H Q E →
      ∃ t, PSs (cxOf CX0 P w K mg base N x (defScope st) f cdv A outer s H E).nox (defBody st) t ∧ t { nx := fun _ H' => Q .non H', rt := Q } (start N vs) H) :
    HasG P w K mg base (k + 1) x st ps sp := by
  obtain ⟨f, fd, F, m⟩ := T
  exact ⟨f, fd, F, Fun.okG F S len (body f), F.binds b, m⟩
theorem Has.up {j : Nat} (D : Has P w K mg base j x st ps sp) (h : j ≤ k) : Has P w K mg base k x st ps sp := by
  obtain ⟨f, fd, F, G, b, m⟩ := D
  exact ⟨f, fd, F, G.mono h, b, m⟩
theorem Has.none (T : At K mg x st) (b : Posi x st ps) (no : ∀ vs H Q E, ¬ sp vs H Q E) : Has P w K mg base k x st ps sp := by
  obtain ⟨f, fd, F, m⟩ := T
  exact ⟨f, fd, F, ⟨fun vs H Q E h => (no vs H Q E h).elim, fun A outer s H args us vs Q E _ _ _ _ h => (no vs H Q E h).elim⟩, F.binds b, m⟩
theorem Has.imp {sp' : Sp} (D : Has P w K mg base k x st ps sp) (h : ∀ vs H Q E, sp' vs H Q E → sp vs H Q E) : Has P w K mg base k x st ps sp' := by
  obtain ⟨f, fd, F, G, b, m⟩ := D
  exact ⟨f, fd, F, G.imp h, b, m⟩
end
section
variable {X : Cx} {j k : Nat} {x : Str} {st : Stmt} {ps ks : List Str} {sp : Sp} {p pos : Pos} {e : Expr} {es : List Expr} {kws : List Keyword} {t tk : TA}
theorem pe_callD (D : Has X.prog X.w X.K X.mg X.base j x st ps sp) (hj : j ≤ k) (hr : Room k X.A) (ha : PA X (e :: es) t) (hg : Gl X x := by rfl)
    (hdb : (x == ("__debug__" : Str)) = false := by decide)
    (he : starEach (e :: es) X.env = (false, eval e X.env) :: starEach es X.env := by rfl) (hpl : (backTo pos (starEach es X.env)).any (·.1) = false := by rfl) :
    PE X (.Call (.Name x p) (e :: es) [] pos) (tCall sp [] E0 t) := by
  obtain ⟨f, fd, F, G, b, m⟩ := D
  exact pe_call G (hr.mono hj) hg m F.kp b .nil pass0 ha hdb he hpl
theorem pe_callDG (D : HasG X.prog X.w X.K X.mg X.base j x st ps sp) (hG : X.A.guards = some []) (hj : j ≤ k) (hr : Room k X.A) (ha : PA X (e :: es) t) (hg : Gl X x := by rfl)
    (hdb : (x == ("__debug__" : Str)) = false := by decide)
    (he : starEach (e :: es) X.env = (false, eval e X.env) :: starEach es X.env := by rfl) (hpl : (backTo pos (starEach es X.env)).any (·.1) = false := by rfl) :
    PE X (.Call (.Name x p) (e :: es) [] pos) (tCall sp [] E0 t) := by
  obtain ⟨f, fd, F, G, b, m⟩ := D
  exact pe_callG G hG (hr.mono hj) hg m F.kp b .nil pass0 ha hdb he hpl
theorem zipNil {α β : Type} : ∀ (l : List α), l.zip ([] : List β) = []
  | [] => rfl
  | _ :: _ => rfl
/-- f(k = v, ..) of a def of the text -/
theorem pe_callD0 (g : {α : Type} → List α → List α) (D : Has X.prog X.w X.K X.mg X.base j x st ps sp) (kb : Keyw x st ps ks g)
    (rel : ∀ (zs : List V) (ws : List Value), Vals zs ws → Vals (g zs) (g ws)) (hj : j ≤ k) (hr : Room k X.A) (hkw : PK X kws tk) (hg : Gl X x := by rfl)
    (hall : (backToKw pos (keywordEach kws X.env)).all (·.1.isSome) = true := by rfl)
    (hks : (backToKw pos (keywordEach kws X.env)).filterMap (·.1) = ks := by rfl)
    (hdb : (x == ("__debug__" : Str)) = false := by decide)
    (hpl : ((backTo pos (starEach [] X.env)).any (·.1) || (backToKw pos (keywordEach kws X.env)).any (·.1.isNone)) = false := by rfl) :
    PE X (.Call (.Name x p) [] kws pos) (tCallN 0 ks.length sp (fun _ zs => g zs) E0 tNil tk) := by
  obtain ⟨f, fd, F, G, b, m⟩ := D
  have kb' : KBn X.K fd ps 0 ks (fun _ ws => g ws) (fun _ zs => g zs) := by
    constructor
    · intro s us ws _ l1 l2
      obtain rfl : us = [] := List.length_eq_zero_iff.mp l1
      obtain ⟨oc, od, kV, doc, pm, an, cdv, ct, osl, rfl, lk, hcd⟩ := F.ex
      exact .of_eq (kb kV doc pm an cdv ct ws l2)
    · intro vs us zs ws _ rz
      exact rel zs ws rz
  exact pe_callKw G (hr.mono hj) hg m F.kp kb' pass0 hkw hall hks hdb hpl
end
theorem rel1 (zs : List V) (ws : List Value) (r : Vals zs ws) : Vals (id zs) (id ws) := r

/-! ## built-in classes as values -/
section
variable {X : Cx} {pos : Pos}
theorem pe_ty_str (m : X.mg "str" = none) (hg : Gl X "str" := by rfl) : PE X (.Name "str" pos) (tC (.ty "str")) := pe_bltn hg m (by decide +kernel) rfl
theorem pe_ty_int (m : X.mg "int" = none) (hg : Gl X "int" := by rfl) : PE X (.Name "int" pos) (tC (.ty "int")) := pe_bltn hg m (by decide +kernel) rfl
theorem pe_ty_tuple (m : X.mg "tuple" = none) (hg : Gl X "tuple" := by rfl) : PE X (.Name "tuple" pos) (tC (.ty "tuple")) := pe_bltn hg m (by decide +kernel) rfl
theorem pe_ty_list (m : X.mg "list" = none) (hg : Gl X "list" := by rfl) : PE X (.Name "list" pos) (tC (.ty "list")) := pe_bltn hg m (by decide +kernel) rfl
theorem pe_ty_bool (m : X.mg "bool" = none) (hg : Gl X "bool" := by rfl) : PE X (.Name "bool" pos) (tC (.ty "bool")) := pe_bltn hg m (by decide +kernel) rfl
end

/-! ## heaps: what is kept -/
/-- all that was tracked, but at ms, is as it was -/
def Kp (ms : List Addr) (H H' : Hp) : Prop := ∀ b o, b ∉ ms → H b = some o → H' b = some o
theorem Kp.refl (ms : List Addr) (H : Hp) : Kp ms H H := fun _ _ _ h => h
theorem Kp.trans {ms : List Addr} {H H1 H2 : Hp} (a : Kp ms H H1) (b : Kp ms H1 H2) : Kp ms H H2 := fun c o n h => b c o n (a c o n h)
theorem Kp.wide {ms ns : List Addr} {H H' : Hp} (a : Kp ms H H') (h : ∀ b, b ∈ ms → b ∈ ns) : Kp ns H H' := fun c o n q => a c o (fun z => n (h c z)) q
theorem Kp.of_same {ms : List Addr} {H H' : Hp} (a : Same H H') : Kp ms H H' := fun c o _ q => a c o q
theorem Kp.same {H H' : Hp} (a : Kp [] H H') : Same H H' := fun c o q => a c o (fun z => by cases z) q
theorem Kp.new {ms : List Addr} {H : Hp} {p : Addr} {o : HO} (h : H p = none) : Kp ms H (upd H p o) := fun b u _ q => by rw [upd_ne (ne_of_none q h)]; exact q
theorem Kp.put {ms : List Addr} {H : Hp} {p : Addr} {o : HO} (h : p ∈ ms) : Kp ms H (upd H p o) := fun b u n q => by
  have hne : b ≠ p := fun e => n (e ▸ h)
  rw [upd_ne hne]; exact q
/-- a write to what was not there in H₀ -/
theorem Kp.put0 {ms : List Addr} {H₀ H : Hp} {p : Addr} {o : HO} (k : Kp ms H₀ H) (h : H₀ p = none) : Kp ms H₀ (upd H p o) := fun b u n q => by
  rw [upd_ne (ne_of_none q h)]; exact k b u n q
theorem Kp.free {ms : List Addr} {H H' : Hp} (k : Kp ms H H') {p : Addr} (hp : H' p = none) (hm : p ∉ ms) : H p = none := by
  cases q : H p with
  | none => rfl
  | some u => rw [k p u hm q] at hp; cases hp
theorem Kp.tup {ms : List Addr} {H H' : Hp} (k : Kp ms H H') (hm : ∀ m ∈ ms, ∀ ys, H m ≠ some (.tup ys)) {b : Addr} {xs : List V} (q : H b = some (.tup xs)) : H' b = some (.tup xs) :=
  k b _ (fun z => hm b z xs q) q

/-! ## the hand: a list of three numbers, of which draws are taken -/
def Hand (n : Nat) (H : Hp) (a : Addr) : Prop := ∃ g d c : Int, H a = some (.lst [.int g, .int d, .int c]) ∧ 0 ≤ g ∧ g < 10 ^ 180 ∧ 0 ≤ d ∧ d < 2147483647 ∧ 0 ≤ c ∧ c ≤ (n : Int)
theorem Hand.more {n m : Nat} {H : Hp} {a : Addr} (h : Hand n H a) (l : n ≤ m) : Hand m H a := by
  obtain ⟨g, d, c, h0, h1, h2, h3, h4, h5, h6⟩ := h
  exact ⟨g, d, c, h0, h1, h2, h3, h4, h5, by omega⟩
theorem Hand.keep {n : Nat} {ms : List Addr} {H H' : Hp} {a : Addr} (h : Hand n H a) (k : Kp ms H H') (hn : a ∉ ms) : Hand n H' a := by
  obtain ⟨g, d, c, h0, h1⟩ := h
  exact ⟨g, d, c, k _ _ hn h0, h1⟩
theorem Hand.new {n : Nat} {H : Hp} {a p : Addr} {o : HO} (h : Hand n H a) (hp : H p = none) : Hand n (upd H p o) a := h.keep (ms := []) (Kp.new hp) (fun z => by cases z)
theorem Hand.there {n : Nat} {H : Hp} {a : Addr} (h : Hand n H a) : ∃ xs, H a = some (.lst xs) := by
  obtain ⟨g, d, c, h0, _⟩ := h
  exact ⟨_, h0⟩
theorem Hand.ne {n : Nat} {H : Hp} {a p : Addr} (h : Hand n H a) (hp : H p = none) : a ≠ p := by
  obtain ⟨xs, q⟩ := h.there
  exact ne_of_none q hp
end Ah

namespace Ah
open PySem PySem.Spec PyProof.Rows L2
/-! ## // and % by positive numbers -/
theorem fm0 {g m : Int} (h : 1 ≤ m) : 0 ≤ g.fmod m := by rw [Int.fmod_eq_emod_of_nonneg g (by omega)]; exact Int.emod_nonneg _ (by omega)
theorem fm1 {g m : Int} (h : 1 ≤ m) : g.fmod m < m := by rw [Int.fmod_eq_emod_of_nonneg g (by omega)]; exact Int.emod_lt_of_pos _ (by omega)
theorem fd0 {g m : Int} (hg : 0 ≤ g) (h : 1 ≤ m) : 0 ≤ g.fdiv m := by rw [Int.fdiv_eq_ediv_of_nonneg _ (by omega)]; exact Int.ediv_nonneg hg (by omega)
theorem fd1 {g m : Int} (hg : 0 ≤ g) (h : 1 ≤ m) : g.fdiv m ≤ g := by rw [Int.fdiv_eq_ediv_of_nonneg _ (by omega)]; exact Int.ediv_le_self _ hg
theorem fd2 {g m k : Int} (h : 1 ≤ m) (hg : g < m * k) : g.fdiv m < k := by
  rw [Int.fdiv_eq_ediv_of_nonneg _ (by omega)]
  exact Int.ediv_lt_of_lt_mul (by omega) (by rw [Int.mul_comm]; exact hg)
theorem five {c : Int} : c.fmod 5 = 0 ∨ c.fmod 5 = 1 ∨ c.fmod 5 = 2 ∨ c.fmod 5 = 3 ∨ c.fmod 5 = 4 := by
  have h0 : 0 ≤ c.fmod 5 := fm0 (by decide)
  have h1 : c.fmod 5 < 5 := fm1 (by decide)
  omega
/-! ## an item of a list at a number within it -/
theorem atI_in {α : Type} {xs : List α} {k : Int} (h0 : 0 ≤ k) (h1 : k < (xs.length : Int)) : ∃ x, atI xs k = some x ∧ x ∈ xs ∧ xs[k.toNat]? = some x := by
  have hk : k.toNat < xs.length := by omega
  have ek : k = ((k.toNat : Nat) : Int) := by omega
  refine ⟨xs[k.toNat], ?_, List.getElem_mem _, List.getElem?_eq_getElem hk⟩
  have q : atI xs ((k.toNat : Nat) : Int) = some xs[k.toNat] := atI_nat (List.getElem?_eq_getElem hk)
  rw [← ek] at q
  exact q
theorem szLe {n : Nat} (h : Nat.ble n 1000 = true) : n ≤ sizeLine := Nat.le_of_lt (small1000 (Nat.le_of_ble_eq_true h))
theorem seqW {c : TT} {tb b : TS} {D : Ends} {σ : L2.St} {H : Hp} (h : tWhile c tb { D with nx := b D } σ H) : tSeq (tWhile c tb) b D σ H := h
theorem atI0 {α : Type} {x : α} {xs : List α} : atI (x :: xs) 0 = some x := atI_nat (j := 0) rfl
end Ah

namespace Ah
open PySem PySem.Spec PyProof.Rows L2

/-! ## names -/
def Nm (z : Str) : Prop := 1 ≤ z.length ∧ z.length ≤ 8 ∧ ∀ c ∈ z.cps.toList, 97 ≤ c ∧ c ≤ 122
def Full (f : Str) : Prop := ∃ l o : Str, Nm l ∧ Nm o ∧ f = l ++ ("." : Str) ++ o
theorem Full.length {f : Str} (h : Full f) : f.length ≤ 17 := by
  obtain ⟨l, o, hl, ho, rfl⟩ := h
  have e : (l ++ ("." : Str) ++ o).length = l.length + 1 + o.length := by
    show ((l.cps ++ _) ++ o.cps).size = l.cps.size + 1 + o.cps.size
    rw [Array.size_append, Array.size_append]; rfl
  have := hl.2.1
  have := ho.2.1
  omega
theorem Nm.append {a b : Str} (ha : ∀ c ∈ a.cps.toList, 97 ≤ c ∧ c ≤ 122) (hb : ∀ c ∈ b.cps.toList, 97 ≤ c ∧ c ≤ 122) : ∀ c ∈ (a ++ b).cps.toList, 97 ≤ c ∧ c ≤ 122 := by
  intro c hc
  have e : (a ++ b).cps.toList = a.cps.toList ++ b.cps.toList := Array.toList_append
  rw [e] at hc
  rcases List.mem_append.mp hc with h | h
  · exact ha c h
  · exact hb c h
def AB : Str := "abcdefghijklmnopqrstuvwxyz"
theorem ab_in : ∀ c ∈ AB.cps.toList, 97 ≤ c ∧ c ≤ 122 := by decide +kernel
theorem ab_len : AB.length = 26 := by decide +kernel
/-- a letter so many times -/
def times : List Int := [1, 1, 2, 8]
theorem mulOk1 {c : Nat} {n : Int} (h : n ∈ times) : MulOk ⟨#[c]⟩ n := by
  simp only [times, List.mem_cons, List.not_mem_nil, or_false] at h
  rcases h with rfl | rfl | rfl | rfl <;> refine ⟨by decide, fun _ _ => ?_, fun _ _ => ?_⟩ <;> first | (show ¬ ((1 : Int) > _); decide) | rfl
theorem mulNm {c : Nat} {n : Int} (h : n ∈ times) (h0 : 97 ≤ c) (h1 : c ≤ 122) : Nm (Txt.mul ⟨#[c]⟩ n) := by
  simp only [times, List.mem_cons, List.not_mem_nil, or_false] at h
  rcases h with rfl | rfl | rfl | rfl
  · exact ⟨by show 1 ≤ 1; decide, by show 1 ≤ 8; decide, fun d hd => by have : d ∈ [c] := hd; simp at this; omega⟩
  · exact ⟨by show 1 ≤ 1; decide, by show 1 ≤ 8; decide, fun d hd => by have : d ∈ [c] := hd; simp at this; omega⟩
  · exact ⟨by show 1 ≤ 2; decide, by show 2 ≤ 8; decide, fun d hd => by have : d ∈ [c, c] := hd; simp at this; omega⟩
  · exact ⟨by show 1 ≤ 8; decide, by show 8 ≤ 8; decide, fun d hd => by have : d ∈ [c, c, c, c, c, c, c, c] := hd; simp at this; omega⟩
theorem timesV {i : Nat} {x : V} (h : ([V.int 1, .int 1, .int 2, .int 8] : List V)[i]? = some x) : ∃ n, x = .int n ∧ n ∈ times := by
  have m := List.mem_of_getElem? h
  simp only [List.mem_cons, List.not_mem_nil, or_false] at m
  rcases m with rfl | rfl | rfl | rfl <;> exact ⟨_, rfl, by decide⟩

theorem strLen (a b : Str) : (a ++ b).length = a.length + b.length := Array.size_append
theorem getSnoc {α : Type} {xs : List α} {y z : α} {j : Nat} (h : (xs ++ [y])[j]? = some z) : (j < xs.length ∧ xs[j]? = some z) ∨ (j = xs.length ∧ z = y) := by
  by_cases hj : j < xs.length
  · left; rw [List.getElem?_append_left hj] at h; exact ⟨hj, h⟩
  · right
    rw [List.getElem?_append_right (by omega)] at h
    have : j - xs.length = 0 := by
      have := (List.getElem?_eq_some_iff.mp h).1
      simp at this; omega
    rw [this] at h
    cases h
    exact ⟨by omega, rfl⟩
/-! ## the drawn names, with how many parts each has -/
def NameAt (H : Hp) (t : Addr) (f : Str) (m : Int) : Prop := H t = some (.tup [.str f, .int m]) ∧ Full f ∧ 0 ≤ m ∧ m ≤ 3
def Names (H : Hp) (r : Addr) : Prop := ∃ ts : List Addr, H r = some (.lst (ts.map V.ref)) ∧ ts.length ≤ 5 ∧ (∃ t ∈ ts, ∃ f, NameAt H t f 0) ∧ ∀ t ∈ ts, ∃ f m, NameAt H t f m
theorem NameAt.keep {ms : List Addr} {H H' : Hp} {t : Addr} {f : Str} {m : Int} (h : NameAt H t f m) (k : Kp ms H H') (n : ∀ x ∈ ms, ∀ xs, H x ≠ some (.tup xs)) : NameAt H' t f m :=
  ⟨k.tup n h.1, h.2⟩
theorem Names.keep {ms : List Addr} {H H' : Hp} {r : Addr} (h : Names H r) (k : Kp ms H H') (hr : r ∉ ms) (n : ∀ x ∈ ms, ∀ xs, H x ≠ some (.tup xs)) : Names H' r := by
  obtain ⟨ts, h0, h1, ⟨t, ht, f, h2⟩, h3⟩ := h
  refine ⟨ts, k _ _ hr h0, h1, ⟨t, ht, f, h2.keep k n⟩, fun t ht => ?_⟩
  obtain ⟨f, m, h⟩ := h3 t ht
  exact ⟨f, m, h.keep k n⟩
theorem lstNo {H : Hp} {a : Addr} {xs : List V} (h : H a = some (.lst xs)) : ∀ ys, H a ≠ some (.tup ys) := fun ys q => by rw [h] at q; cases q
theorem Hand.noTup {n : Nat} {H : Hp} {a : Addr} (h : Hand n H a) : ∀ ys, H a ≠ some (.tup ys) := by
  obtain ⟨xs, q⟩ := h.there
  exact lstNo q
theorem Hand.put {n : Nat} {H : Hp} {a p : Addr} {o : HO} (h : Hand n H a) (hp : p ≠ a) : Hand n (upd H p o) a := h.keep (ms := [p]) (Kp.put (by simp)) (by simpa using fun e => hp e.symm)
theorem strNo {α : Type} {f : α → Str} (xs : List α) (g d c : Int) : (xs.map fun x => V.str (f x)) ≠ [V.int g, .int d, .int c] := by
  intro h
  cases xs with
  | nil => cases h
  | cons x r => cases h
theorem refNo (xs : List Addr) (g d c : Int) : (xs.map V.ref) ≠ [V.int g, .int d, .int c] := by
  intro h
  cases xs with
  | nil => cases h
  | cons x r => cases h
/-- the hand is none of the lists that hold other things -/
theorem Hand.neL {n : Nat} {H : Hp} {a b : Addr} {xs : List V} (h : Hand n H a) (hb : H b = some (.lst xs)) (hx : ∀ g d c : Int, xs ≠ [V.int g, .int d, .int c]) : b ≠ a := by
  rintro rfl
  obtain ⟨g, d, c, h0, _⟩ := h
  rw [h0] at hb
  cases hb
  exact hx g d c rfl
end Ah

namespace Ah
open PySem PySem.Spec PyProof.Rows L2

/-! ## trees -/
inductive Tr where
  | h (s : Str)
  | n (f : Str) (ps : List Tr)
mutual
def Tr.data : Tr → PyData
  | .h s => .str s
  | .n f ps => .tuple (.str f :: datas ps)
def datas : List Tr → List PyData
  | [] => []
  | t :: r => t.data :: datas r
end
mutual
/-- the trees that stand in it, itself first, as they come -/
def Tr.pre : Tr → List Tr
  | .h s => [.h s]
  | .n f ps => .n f ps :: pres ps
def pres : List Tr → List Tr
  | [] => []
  | t :: r => t.pre ++ pres r
end
mutual
def Tr.deep : Tr → Nat
  | .h _ => 0
  | .n _ ps => deeps ps + 1
def deeps : List Tr → Nat
  | [] => 0
  | t :: r => max t.deep (deeps r)
end
mutual
def Tr.ok (zs : List Str) : Tr → Prop
  | .h s => s ∈ zs
  | .n f ps => Full f ∧ ps.length ≤ 3 ∧ oks zs ps
def oks (zs : List Str) : List Tr → Prop
  | [] => True
  | t :: r => t.ok zs ∧ oks zs r
end
theorem datas_map : ∀ ps : List Tr, datas ps = ps.map Tr.data
  | [] => rfl
  | t :: r => by rw [datas, datas_map r]; rfl
theorem datas_append (a b : List Tr) : datas (a ++ b) = datas a ++ datas b := by rw [datas_map, datas_map, datas_map, List.map_append]
theorem pres_append : ∀ a b : List Tr, pres (a ++ b) = pres a ++ pres b
  | [], b => rfl
  | t :: r, b => by
    show t.pre ++ pres (r ++ b) = (t.pre ++ pres r) ++ pres b
    rw [pres_append r b, List.append_assoc]
theorem oks_mem {zs : List Str} : ∀ {ps : List Tr}, oks zs ps → ∀ t ∈ ps, t.ok zs
  | t :: r, h, u, hu => by
    cases hu with
    | head => exact h.1
    | tail _ hm => exact oks_mem h.2 u hm
theorem oks_append {zs : List Str} : ∀ {a b : List Tr}, oks zs a → oks zs b → oks zs (a ++ b)
  | [], _, _, h => h
  | _ :: _, _, h, h' => ⟨h.1, oks_append h.2 h'⟩
theorem deeps_append : ∀ (a b : List Tr), deeps (a ++ b) = max (deeps a) (deeps b)
  | [], b => by rw [List.nil_append, deeps, Nat.zero_max]
  | t :: r, b => by
    show max t.deep (deeps (r ++ b)) = max (max t.deep (deeps r)) (deeps b)
    rw [deeps_append r b, Nat.max_assoc]
/-- how many trees stand in one -/
def Tr.size (t : Tr) : Nat := t.pre.length
def sizes (ps : List Tr) : Nat := (pres ps).length
theorem size_h (s : Str) : (Tr.h s).size = 1 := rfl
theorem size_n (f : Str) (ps : List Tr) : (Tr.n f ps).size = sizes ps + 1 := rfl
theorem sizes_nil : sizes [] = 0 := rfl
theorem sizes_cons (t : Tr) (r : List Tr) : sizes (t :: r) = t.size + sizes r := by
  show (t.pre ++ pres r).length = _
  rw [List.length_append]; rfl
theorem sizes_append (a b : List Tr) : sizes (a ++ b) = sizes a + sizes b := by
  unfold sizes; rw [pres_append, List.length_append]

theorem sizes_ge : ∀ ps : List Tr, ps.length ≤ sizes ps
  | [] => Nat.le_refl _
  | t :: r => by
    rw [sizes_cons, List.length_cons]
    have pos : 1 ≤ t.size := by cases t <;> (first | (rw [size_h]) | (rw [size_n])) <;> omega
    have := sizes_ge r
    omega
theorem datas_rev (ps : List Tr) : datas ps.reverse = (datas ps).reverse := by rw [datas_map, datas_map, List.map_reverse]

theorem size_le {t : Tr} : ∀ {ps : List Tr}, t ∈ ps → t.size ≤ sizes ps
  | u :: r, h => by
    rw [sizes_cons]
    cases h with
    | head => omega
    | tail _ hm => have := size_le hm; omega
theorem deep_le {t : Tr} : ∀ {ps : List Tr}, t ∈ ps → t.deep ≤ deeps ps
  | u :: r, h => by
    show _ ≤ max u.deep (deeps r)
    cases h with
    | head => omega
    | tail _ hm => have := deep_le hm; omega
theorem sizes_take : ∀ (ps : List Tr) (i : Nat), sizes (ps.take i) ≤ sizes ps
  | [], i => by simp
  | t :: r, 0 => by simp [sizes_nil]
  | t :: r, i + 1 => by
    rw [List.take_succ_cons, sizes_cons, sizes_cons]
    have := sizes_take r i
    omega

/-! ## what stands at a value: data that lies in tuples alone stays for ever -/
theorem DpAll.length {K : PySem.W.Frag} {H : Hp} : ∀ {vs : List V} {ds : List PyData}, DpAll K H vs ds → vs.length = ds.length
  | _, _, .nil => rfl
  | _, _, .cons _ r => by rw [List.length_cons, List.length_cons, DpAll.length r]
theorem DpAll.append {K : PySem.W.Frag} {H : Hp} : ∀ {vs us : List V} {ds es : List PyData}, DpAll K H vs ds → DpAll K H us es → DpAll K H (vs ++ us) (ds ++ es)
  | _, _, _, _, .nil, s => s
  | _, _, _, _, .cons a r, s => .cons a (DpAll.append r s)
theorem DpAll.one {K : PySem.W.Frag} {H : Hp} {v : V} {d : PyData} (h : Dp K H v d) : DpAll K H [v] [d] := .cons h .nil
theorem DpAll.snoc {K : PySem.W.Frag} {H : Hp} : ∀ {vs : List V} {ds : List PyData} {d : PyData}, DpAll K H vs (ds ++ [d]) → ∃ us v, vs = us ++ [v] ∧ DpAll K H us ds ∧ Dp K H v d
  | vs, [], d, h => by
    cases h with
    | cons a r => cases r; exact ⟨[], _, rfl, .nil, a⟩
  | vs, e :: ds, d, h => by
    cases h with
    | cons a r =>
      obtain ⟨us, v, rfl, h1, h2⟩ := DpAll.snoc r
      exact ⟨_ :: us, v, rfl, .cons a h1, h2⟩
theorem DpAll.reverse {K : PySem.W.Frag} {H : Hp} : ∀ {vs : List V} {ds : List PyData}, DpAll K H vs ds → DpAll K H vs.reverse ds.reverse
  | _, _, .nil => .nil
  | _, _, .cons a r => by
    rw [List.reverse_cons, List.reverse_cons]
    exact DpAll.append (DpAll.reverse r) (DpAll.one a)
theorem DpAll.get {K : PySem.W.Frag} {H : Hp} : ∀ {vs : List V} {ds : List PyData} {i : Nat} {v : V}, DpAll K H vs ds → vs[i]? = some v → ∃ d, ds[i]? = some d ∧ Dp K H v d
  | _, _, 0, _, .cons a r, e => by cases e; exact ⟨_, rfl, a⟩
  | _, _, i + 1, _, .cons a r, e => DpAll.get (i := i) r e
/-- what may be changed: neither a tuple nor frozen -/
def Loose (H : Hp) (m : Addr) : Prop := (∀ xs, H m ≠ some (.tup xs)) ∧ ∀ o u, H m ≠ some (.frz o u)
theorem Loose.lst {H : Hp} {m : Addr} {l : List V} (h : H m = some (.lst l)) : Loose H m := ⟨fun xs e => (by rw [h] at e; cases e), fun o u e => (by rw [h] at e; cases e)⟩
theorem Loose.dK {H : Hp} {m : Addr} {l : List (Key × V)} (h : H m = some (.dK l)) : Loose H m := ⟨fun xs e => (by rw [h] at e; cases e), fun o u e => (by rw [h] at e; cases e)⟩
theorem Hand.loose {n : Nat} {H : Hp} {a : Addr} (h : Hand n H a) : Loose H a := by
  obtain ⟨l, e⟩ := h.there
  exact .lst e
/-- all lists that were there, but ms, and all tuples, are as they were: enough for data without the lists ms -/
theorem SqT.kp {K : PySem.W.Frag} {ms : List Addr} {H H' : Hp} {a : Addr} {xs : List V} (k : Kp ms H H') (n : ∀ m ∈ ms, Loose H m) (h : SqT K H a xs) : SqT K H' a xs := by
  rcases h with (h | ⟨o, h⟩) | h
  · refine .inl (.inl (k _ _ (fun z => ?_) h))
    exact (n _ z).1 _ h
  · refine .inl (.inr ⟨o, k _ _ (fun z => ?_) h⟩)
    exact (n _ z).2 _ _ h
  · exact .inr h
mutual
theorem Tr.kp {K : PySem.W.Frag} {ms : List Addr} {H H' : Hp} (k : Kp ms H H') (n : ∀ m ∈ ms, Loose H m) : ∀ (t : Tr) {v : V}, Dp K H v t.data → Dp K H' v t.data
  | .h s, v, h => by
    rw [Tr.data] at h ⊢
    cases h
    exact .str s
  | .n f ps, v, h => by
    rw [Tr.data] at h ⊢
    cases h with
    | tup a b =>
      refine .tup (SqT.kp k n a) ?_
      cases b with
      | cons b1 b2 =>
        refine .cons ?_ (trsKp k n ps b2)
        cases b1
        exact .str f
theorem trsKp {K : PySem.W.Frag} {ms : List Addr} {H H' : Hp} (k : Kp ms H H') (n : ∀ m ∈ ms, Loose H m) : ∀ (ts : List Tr) {vs : List V}, DpAll K H vs (datas ts) → DpAll K H' vs (datas ts)
  | [], vs, h => by
    rw [datas] at h ⊢
    cases h
    exact .nil
  | t :: r, vs, h => by
    rw [datas] at h ⊢
    cases h with
    | cons a b => exact .cons (Tr.kp k n t a) (trsKp k n r b)
end
theorem Tr.new {K : PySem.W.Frag} {H : Hp} {p : Addr} {o : HO} {t : Tr} {v : V} (h : Dp K H v t.data) (hp : H p = none) : Dp K (upd H p o) v t.data :=
  t.kp (ms := []) (Kp.new hp) (fun _ z => by cases z) h
theorem trsNew {K : PySem.W.Frag} {H : Hp} {p : Addr} {o : HO} {ts : List Tr} {vs : List V} (h : DpAll K H vs (datas ts)) (hp : H p = none) : DpAll K (upd H p o) vs (datas ts) :=
  trsKp (ms := []) (Kp.new hp) (fun _ z => by cases z) ts h
theorem Tr.put {K : PySem.W.Frag} {H : Hp} {p : Addr} {o : HO} {l : List V} {t : Tr} {v : V} (h : Dp K H v t.data) (hp : H p = some (.lst l)) : Dp K (upd H p o) v t.data :=
  t.kp (ms := [p]) (Kp.put (by simp)) (fun m z => by rw [List.mem_singleton.mp z]; exact .lst hp) h
theorem trsPut {K : PySem.W.Frag} {H : Hp} {p : Addr} {o : HO} {l : List V} {ts : List Tr} {vs : List V} (h : DpAll K H vs (datas ts)) (hp : H p = some (.lst l)) : DpAll K (upd H p o) vs (datas ts) :=
  trsKp (ms := [p]) (Kp.put (by simp)) (fun m z => by rw [List.mem_singleton.mp z]; exact .lst hp) ts h

/-! ## rules that read the written part, said with it (for comprehensions' blocks) -/
section
variable {X : Cx} (K : PySem.W.Frag)
theorem ixL (h : X.K = K := by rfl) : IxR X (rIxL K) := h ▸ ix_list
theorem ixT (h : X.K = K := by rfl) : IxR X (rIxT K) := h ▸ ix_tup
theorem ixQ (h : X.K = K := by rfl) : IxR X (rIx K) := h ▸ ix_seq
end
/-! ## holes' names, as drawn -/
def Holes (zs : List Str) : Prop := zs ≠ [] ∧ zs.length ≤ 4 ∧ zs.Nodup ∧ ∀ z ∈ zs, Nm z
end Ah

namespace Ah
open PySem PySem.Spec PyProof.Rows L2

/-! ## small data: what repr and == ask -/
/-- a small text -/
def Sm (z : Str) : Prop := z.length ≤ 1000 ∧ ∀ c ∈ z.cps.toList, c < 1000
structure Fine (k b : Nat) (d : PyData) : Prop where
  dep : d.depth ≤ k
  sho : d.showable = true
  lay : d.canLay0 = true
  lea : d.leavesShort 13 = true
  blk : d.bulk ≤ b
structure Fines (k b : Nat) (ds : List PyData) : Prop where
  dep : PyData.depthAll ds ≤ k
  sho : PyData.showableAll ds = true
  lay : PyData.canLayAll0 ds = true
  lea : PyData.leavesShortAll 13 ds = true
  blk : PyData.bulkAll ds ≤ b
theorem Nm.sm {z : Str} (h : Nm z) : Sm z := ⟨by have := h.2.1; omega, fun c hc => by have := (h.2.2 c hc).2; omega⟩
theorem Full.sm {f : Str} (h : Full f) : Sm f := by
  refine ⟨by have := h.length; omega, ?_⟩
  obtain ⟨l, o, hl, ho, rfl⟩ := h
  intro c hc
  have e : (l ++ ("." : Str) ++ o).cps.toList = l.cps.toList ++ [46] ++ o.cps.toList := by
    show ((l.cps ++ _) ++ o.cps).toList = _
    rw [Array.toList_append, Array.toList_append]; rfl
  rw [e] at hc
  simp only [List.mem_append, List.mem_singleton] at hc
  rcases hc with (h | h) | h
  · have := (hl.2.2 c h).2; omega
  · omega
  · have := (ho.2.2 c h).2; omega
theorem Fine.str {z : Str} (h : Sm z) (k : Nat) : Fine k z.length (.str z) := by
  refine ⟨by simp [PyData.depth], by simp [PyData.showable], ?_, ?_, by simp [PyData.bulk, Str.length]⟩
  · simp only [PyData.canLay0]
    unfold PyData.strOk
    rw [Array.all_eq_true]
    intro i hi
    have := h.2 z.cps[i] (by simp)
    exact decide_eq_true (by omega)
  · simp only [PyData.leavesShort, List.all_eq_true]
    intro c hc
    have := h.2 c hc
    exact decide_eq_true (by omega)
theorem Fine.int {i : Int} (h : i.natAbs < 10 ^ 12) (k : Nat) : Fine k 0 (.int i) := by
  refine ⟨by simp [PyData.depth], ?_, by simp [PyData.canLay0], ?_, by simp [PyData.bulk]⟩
  · simp only [PyData.showable]
    exact decide_eq_true (log2_small (Nat.lt_of_lt_of_le h (Nat.le_trans (by decide : 10 ^ 12 ≤ 2 ^ 64) (Nat.pow_le_pow_right (by decide) (by decide)))))
  · simp only [PyData.leavesShort]
    exact decide_eq_true (PyData.shown_int_le h)
theorem Fine.bool (b : Bool) (k : Nat) : Fine k 0 (.bool b) := ⟨by simp [PyData.depth], by simp [PyData.showable], by simp [PyData.canLay0], by simp [PyData.leavesShort], by simp [PyData.bulk]⟩
theorem Fine.none (k : Nat) : Fine k 0 .none := ⟨by simp [PyData.depth], by simp [PyData.showable], by simp [PyData.canLay0], by simp [PyData.leavesShort], by simp [PyData.bulk]⟩
theorem Fines.nil (k b : Nat) : Fines k b [] := ⟨by simp [PyData.depthAll], by simp [PyData.showableAll], by simp [PyData.canLayAll0], by simp [PyData.leavesShortAll], by simp [PyData.bulkAll]⟩
theorem Fines.cons {k b c : Nat} {d : PyData} {ds : List PyData} (h : Fine k b d) (r : Fines k c ds) : Fines k (b + 1 + c) (d :: ds) := by
  refine ⟨?_, ?_, ?_, ?_, ?_⟩
  · simp only [PyData.depthAll]; have := h.dep; have := r.dep; omega
  · simp only [PyData.showableAll, h.sho, r.sho]; rfl
  · simp only [PyData.canLayAll0, h.lay, r.lay]; rfl
  · simp only [PyData.leavesShortAll, h.lea, r.lea]; rfl
  · simp only [PyData.bulkAll]; have := h.blk; have := r.blk; omega
theorem Fines.list {k b : Nat} {ds : List PyData} (r : Fines k b ds) : Fine (k + 1) b (.list ds) := by
  refine ⟨?_, ?_, ?_, ?_, ?_⟩
  · simp only [PyData.depth]; have := r.dep; omega
  · simp only [PyData.showable, r.sho]
  · simp only [PyData.canLay0, r.lay]
  · simp only [PyData.leavesShort, r.lea]
  · simp only [PyData.bulk]; exact r.blk
theorem Fines.tuple {k b : Nat} {ds : List PyData} (r : Fines k b ds) : Fine (k + 1) b (.tuple ds) := by
  refine ⟨?_, ?_, ?_, ?_, ?_⟩
  · simp only [PyData.depth]; have := r.dep; omega
  · simp only [PyData.showable, r.sho]
  · simp only [PyData.canLay0, r.lay]
  · simp only [PyData.leavesShort, r.lea]
  · simp only [PyData.bulk]; exact r.blk
theorem Fine.up {k b k' b' : Nat} {d : PyData} (h : Fine k b d) (hk : k ≤ k') (hb : b ≤ b') : Fine k' b' d :=
  ⟨Nat.le_trans h.dep hk, h.sho, h.lay, h.lea, Nat.le_trans h.blk hb⟩
theorem Fines.up {k b k' b' : Nat} {d : List PyData} (h : Fines k b d) (hk : k ≤ k') (hb : b ≤ b') : Fines k' b' d :=
  ⟨Nat.le_trans h.dep hk, h.sho, h.lay, h.lea, Nat.le_trans h.blk hb⟩
theorem Fine.fits {k b : Nat} {d : PyData} (h : Fine k b d) (hb : b ≤ 1000000) : d.shown.length ≤ sizeLine := by
  have := PyData.shown_le_bulk 13 (by decide) d h.lea
  have := h.blk
  rw [sizeLine_eq]
  omega
theorem Fine.shaped {k b : Nat} {d : PyData} (h : Fine k b d) (hk : k ≤ 64) : SeqAt.shaped d = true := by
  unfold SeqAt.shaped
  rw [h.lay, decide_eq_true (Nat.le_trans h.dep hk)]; rfl
theorem finesStrs {zs : List Str} {m : Nat} (h : ∀ z ∈ zs, Sm z ∧ z.length ≤ m) (k : Nat) : Fines k ((m + 1) * zs.length) (zs.map PyData.str) := by
  induction zs with
  | nil => exact Fines.nil _ _
  | cons z r ih =>
    have a := Fine.str (h z (by simp)).1 k
    have b := ih fun y hy => h y (by simp [hy])
    refine (Fines.cons a b).up (Nat.le_refl _) ?_
    have := (h z (by simp)).2
    rw [List.length_cons, Nat.mul_add, Nat.mul_one]
    omega
mutual
theorem Tr.fine {zs : List Str} (hz : ∀ z ∈ zs, Nm z) : ∀ t : Tr, t.ok zs → Fine t.deep (18 + 19 * (t.size - 1)) t.data
  | .h s, h => by
    rw [Tr.data]
    have n := hz s h
    exact (Fine.str n.sm _).up (Nat.le_refl _) (by have := n.2.1; omega)
  | .n f ps, h => by
    rw [Tr.data]
    have r := trsFine hz ps h.2.2
    have a := Fine.str h.1.sm (deeps ps)
    refine (Fines.cons a r).tuple.up (Nat.le_refl _) ?_
    have := h.1.length
    rw [size_n]
    omega
theorem trsFine {zs : List Str} (hz : ∀ z ∈ zs, Nm z) : ∀ ps : List Tr, oks zs ps → Fines (deeps ps) (19 * sizes ps) (datas ps)
  | [], _ => by rw [datas]; exact Fines.nil _ _
  | t :: r, h => by
    rw [datas]
    have a := Tr.fine hz t h.1
    have b := trsFine hz r h.2
    have pos : 1 ≤ t.size := by cases t <;> (first | (rw [size_h]) | (rw [size_n])) <;> omega
    refine (Fines.cons (a.up (Nat.le_max_left _ _) (Nat.le_refl _)) (b.up (Nat.le_max_right t.deep _) (Nat.le_refl _))).up (Nat.le_refl _) ?_
    rw [sizes_cons]
    omega
end
/-- a list of texts as data -/
theorem dpStrs {K : PySem.W.Frag} {H : Hp} : ∀ zs : List Str, DpAll K H (zs.map V.str) (zs.map PyData.str)
  | [] => .nil
  | z :: r => .cons (.str z) (dpStrs r)
end Ah

namespace Ah
open PySem PySem.Spec PyProof.Rows L2
/-! ## holes and names of trees -/
def holeOf : Tr → Option Str
  | .h s => some s
  | .n _ _ => none
def nameOf : Tr → Option Str
  | .h _ => none
  | .n f _ => some f
def addNew {α : Type} [DecidableEq α] (acc : List α) (z : α) : List α := if z ∈ acc then acc else acc ++ [z]
/-- each once, as they first come -/
def uniq {α : Type} [DecidableEq α] (l : List α) : List α := l.foldl addNew []
theorem addNew_mem {α : Type} [DecidableEq α] {acc : List α} {z x : α} : x ∈ addNew acc z ↔ x ∈ acc ∨ x = z := by
  unfold addNew
  split
  · constructor
    · exact .inl
    · rintro (h | rfl) <;> assumption
  · simp
theorem foldl_mem {α : Type} [DecidableEq α] : ∀ (l acc : List α) (x : α), x ∈ l.foldl addNew acc ↔ x ∈ acc ∨ x ∈ l
  | [], acc, x => by simp
  | z :: r, acc, x => by
    rw [List.foldl_cons, foldl_mem r, addNew_mem, List.mem_cons, or_assoc]
theorem uniq_mem {α : Type} [DecidableEq α] {l : List α} {x : α} : x ∈ uniq l ↔ x ∈ l := by
  unfold uniq; rw [foldl_mem]; simp
theorem addNew_nodup {α : Type} [DecidableEq α] {acc : List α} {z : α} (h : acc.Nodup) : (addNew acc z).Nodup := by
  unfold addNew
  split
  · exact h
  · rename_i hz
    rw [List.nodup_append]
    exact ⟨h, by simp, fun a ha b hb => by rw [List.mem_singleton.mp hb]; rintro rfl; exact hz ha⟩
theorem foldl_nodup {α : Type} [DecidableEq α] : ∀ (l acc : List α), acc.Nodup → (l.foldl addNew acc).Nodup
  | [], acc, h => h
  | z :: r, acc, h => foldl_nodup r _ (addNew_nodup h)
theorem uniq_nodup {α : Type} [DecidableEq α] (l : List α) : (uniq l).Nodup := foldl_nodup l [] List.nodup_nil
theorem uniq_snoc {α : Type} [DecidableEq α] (l : List α) (z : α) : uniq (l ++ [z]) = addNew (uniq l) z := by
  unfold uniq; rw [List.foldl_append]; rfl
theorem addNew_len {α : Type} [DecidableEq α] (acc : List α) (z : α) : (addNew acc z).length ≤ acc.length + 1 := by
  unfold addNew; split
  · omega
  · rw [List.length_append]; simp
theorem uniq_len {α : Type} [DecidableEq α] : ∀ (l acc : List α), (l.foldl addNew acc).length ≤ acc.length + l.length
  | [], acc => by simp
  | z :: r, acc => by
    rw [List.foldl_cons, List.length_cons]
    have := uniq_len r (addNew acc z)
    have := addNew_len acc z
    omega
/-- keys of a dict that is filled with True -/
def seen (zs : List Str) : List (Key × V) := zs.map fun z => (Sum.inr z, V.bl true)
theorem seen_put (zs : List Str) (z : Str) : putK (seen zs) (Sum.inr z) (V.bl true) = seen (addNew zs z) := by
  unfold putK seen addNew
  have e : ((zs.map fun z => ((Sum.inr z : Key), V.bl true)).any fun kv => decide (kv.1 = Sum.inr z)) = decide (z ∈ zs) := by
    rw [List.any_map]
    induction zs with
    | nil => rfl
    | cons y r ih =>
      rw [List.any_cons, ih]
      by_cases h : y = z
      · subst h; simp
      · have h1 : ¬ (Sum.inr y : Key) = Sum.inr z := fun q => h (Sum.inr.inj q)
        have h2 : ¬ z = y := fun q => h q.symm
        simp [h1, h2]
  rw [e]
  by_cases h : z ∈ zs
  · rw [if_pos (decide_eq_true h), if_pos h, List.map_map]
    apply List.map_congr_left
    intro y _
    show (if (Sum.inr y : Key) = Sum.inr z then ((Sum.inr y : Key), V.bl true) else (Sum.inr y, V.bl true)) = _
    split <;> rfl
  · rw [decide_eq_false h, if_neg Bool.false_ne_true, if_neg h, List.map_append]
    rfl
theorem seen_keys (zs : List Str) : (seen zs).map (fun kv => kV kv.1) = zs.map V.str := by
  unfold seen; rw [List.map_map]; rfl
def hols (t : Tr) : List Str := uniq (t.pre.filterMap holeOf)
def nams (t : Tr) : List Str := t.pre.filterMap nameOf
end Ah

namespace Ah
open PySem PySem.Spec PyProof.Rows L2
/-! ## kinds, cuts, texts in lists -/
theorem tyTup {K : PySem.W.Frag} {H : Hp} {a : Addr} {xs : List V} (h : SqT K H a xs) : TyX K H (.ref a) (.type "tuple") := by
  rcases h with (h | ⟨o, h⟩) | ⟨o, its, n, h1, h2, _⟩
  · exact .base (.tup h)
  · exact .fTuple h
  · exact .kTuple h1 h2
theorem kStr {K : PySem.W.Frag} : PySem.W.kitOne K (.type "str") (.type "str") = some true := kit_ty (by decide +kernel)
theorem kTup {K : PySem.W.Frag} : PySem.W.kitOne K (.type "tuple") (.type "str") = some false := kit_ty (by decide +kernel)
theorem cut1 (x : V) (xs : List V) : cutV (x :: xs) (some 1) none = xs := by
  have e : HT.sIx (x :: xs).length 0 (some 1) = 1 := by
    have := HT.sIx_nat (x :: xs).length 0 1
    rw [List.length_cons, Nat.min_eq_left (by omega)] at this
    rw [List.length_cons]
    exact this
  unfold cutV
  rw [e, HT.sIx_none]
  simp
theorem cut1ne (x : V) (xs : List V) : ¬ (HT.sIx (x :: xs).length 0 (some 1) = 0 ∧ HT.sIx (x :: xs).length (x :: xs).length none = (x :: xs).length) := by
  rintro ⟨h, _⟩
  have := HT.sIx_nat (x :: xs).length 0 1
  rw [List.length_cons, Nat.min_eq_left (by omega)] at this
  rw [List.length_cons] at h
  have z : HT.sIx (xs.length + 1) 0 (some 1) = 1 := this
  rw [z] at h
  cases h
theorem dotCode : ("." : Str) = ⟨#[46]⟩ := by decide +kernel
theorem inStrs (z : Str) (zs : List Str) : inV (.str z) (zs.map V.str) = decide (z ∈ zs) := by
  unfold inV
  rw [List.any_map]
  induction zs with
  | nil => rfl
  | cons y r ih =>
    rw [List.any_cons, ih]
    show (eqV (.str y) (.str z) || _) = _
    have e : eqV (.str y) (.str z) = (y == z) := rfl
    rw [e]
    by_cases h : y = z
    · subst h; simp
    · have h2 : ¬ z = y := fun q => h q.symm
      simp [h, h2]
theorem flatStrs (zs : List Str) : (zs.map V.str).all flatV = true := by
  rw [List.all_map, List.all_eq_true]; intro z _; rfl
/-- a name of a hole has no dot, a full name has -/
theorem Nm.noDot {z : Str} (h : Nm z) : 46 ∉ z.cps.toList := fun hm => by
  have := (h.2.2 46 hm).1
  omega
theorem Full.dot {f : Str} (h : Full f) : 46 ∈ f.cps.toList := by
  obtain ⟨l, o, _, _, rfl⟩ := h
  have e : (l ++ ("." : Str) ++ o).cps.toList = l.cps.toList ++ [46] ++ o.cps.toList := by
    show ((l.cps ++ _) ++ o.cps).toList = _
    rw [Array.toList_append, Array.toList_append]; rfl
  rw [e]; simp
/-! ## the symbols of a tree, as written -/
def symOf : Tr → Str
  | .h s => s
  | .n f _ => f
def syms (t : Tr) : List Str := t.pre.map symOf
theorem syms_h (s : Str) : syms (.h s) = [s] := rfl
theorem syms_n (f : Str) (ps : List Tr) : syms (.n f ps) = f :: (pres ps).map symOf := rfl
theorem pres_cons (t : Tr) (r : List Tr) : pres (t :: r) = t.pre ++ pres r := rfl
mutual
theorem Tr.sub {zs : List Str} : ∀ t : Tr, t.ok zs → ∀ u ∈ t.pre, (∃ s, u = .h s ∧ s ∈ zs) ∨ ∃ f ps, u = .n f ps ∧ Full f
  | .h s, h, u, hu => by
    have e : u = .h s := List.mem_singleton.mp hu
    exact .inl ⟨s, e, h⟩
  | .n f ps, h, u, hu => by
    have hu' : u ∈ Tr.n f ps :: pres ps := hu
    rcases List.mem_cons.mp hu' with e | hm
    · exact .inr ⟨f, ps, e, h.1⟩
    · exact trsSub ps h.2.2 u hm
theorem trsSub {zs : List Str} : ∀ ps : List Tr, oks zs ps → ∀ u ∈ pres ps, (∃ s, u = .h s ∧ s ∈ zs) ∨ ∃ f ps, u = .n f ps ∧ Full f
  | [], _, u, hu => by cases hu
  | t :: r, h, u, hu => by
    rw [pres_cons] at hu
    rcases List.mem_append.mp hu with hm | hm
    · exact Tr.sub t h.1 u hm
    · exact trsSub r h.2 u hm
end
/-- of a tree's symbols: those without a dot are the holes, those with one the full names -/
theorem symHole {zs : List Str} (hz : ∀ z ∈ zs, Nm z) {us : List Tr} (h : ∀ u ∈ us, (∃ s, u = Tr.h s ∧ s ∈ zs) ∨ ∃ f ps, u = Tr.n f ps ∧ Full f) :
    (us.map symOf).filter (fun s => decide (46 ∉ s.cps.toList)) = us.filterMap holeOf ∧ (us.map symOf).filter (fun s => decide (46 ∈ s.cps.toList)) = us.filterMap nameOf := by
  induction us with
  | nil => exact ⟨rfl, rfl⟩
  | cons u r ih =>
    obtain ⟨i1, i2⟩ := ih fun v hv => h v (List.mem_cons_of_mem _ hv)
    rcases h u (List.mem_cons_self ..) with ⟨s, rfl, hs⟩ | ⟨f, ps, rfl, hf⟩
    · have nd := (hz s hs).noDot
      constructor
      · rw [List.map_cons, List.filter_cons]
        show (if decide (46 ∉ s.cps.toList) = true then s :: _ else _) = s :: r.filterMap holeOf
        rw [if_pos (decide_eq_true nd), i1]
      · rw [List.map_cons, List.filter_cons]
        show (if decide (46 ∈ s.cps.toList) = true then s :: _ else _) = r.filterMap nameOf
        rw [decide_eq_false nd, if_neg Bool.false_ne_true, i2]
    · have nd := hf.dot
      constructor
      · rw [List.map_cons, List.filter_cons]
        show (if decide (46 ∉ f.cps.toList) = true then f :: _ else _) = r.filterMap holeOf
        rw [decide_eq_false (fun k => k nd), if_neg Bool.false_ne_true, i1]
      · rw [List.map_cons, List.filter_cons]
        show (if decide (46 ∈ f.cps.toList) = true then f :: _ else _) = f :: r.filterMap nameOf
        rw [if_pos (decide_eq_true nd), i2]
/-- every symbol is a small text of at most 17 signs -/
theorem symSm {zs : List Str} (hz : ∀ z ∈ zs, Nm z) {t : Tr} (h : t.ok zs) : ∀ s ∈ syms t, Sm s ∧ s.length ≤ 17 := by
  intro s hs
  obtain ⟨u, hu, rfl⟩ := List.mem_map.mp hs
  rcases Tr.sub t h u hu with ⟨s, rfl, hm⟩ | ⟨f, ps, rfl, hf⟩
  · exact ⟨(hz s hm).sm, by have := (hz s hm).2.1; show s.length ≤ 17; omega⟩
  · exact ⟨hf.sm, hf.length⟩
end Ah

namespace Ah
open PySem PySem.Spec PyProof.Rows L2
/-! ## the line of a full name -/
theorem nameCodes (l o : Str) : TL.tl (l ++ ("." : Str) ++ o) = TL.tl l ++ 46 :: TL.tl o := by
  rw [TL.tl_append, TL.tl_append]
  show (TL.tl l ++ [46]) ++ TL.tl o = _
  rw [List.append_assoc]; rfl
theorem dotCodes : TL.tl ("." : Str) = [46] := rfl
theorem preDot (r : List Nat) : TL.pre [46] (46 :: r) = true := rfl
theorem find_name {l o : Str} (hl : Nm l) : Txt.find (l ++ ("." : Str) ++ o) "." = (l.length : Int) := by
  have ne : TL.tl ("." : Str) ≠ [] := by rw [dotCodes]; simp
  have len : (TL.tl l).length = l.length := (TL.len_tl l).symm
  have here : StrLaws.At (l ++ ("." : Str) ++ o) "." (l ++ ("." : Str) ++ o).length l.length := by
    rw [TL.at_iff ne, nameCodes, dotCodes, ← len, List.drop_append_of_le_length (Nat.le_refl _), List.drop_length]
    rfl
  rcases find_whole (l ++ ("." : Str) ++ o) "." with ⟨_, no⟩ | ⟨i, e, hi, no⟩
  · exact (no _ here).elim
  · rw [e]
    have h1 : ¬ l.length < i := fun h => no _ h here
    have h2 : ¬ i < l.length := by
      intro h
      rw [TL.at_iff ne, nameCodes, dotCodes, List.drop_append_of_le_length (by omega)] at hi
      have hi' : i < (TL.tl l).length := by omega
      rw [List.drop_eq_getElem_cons hi'] at hi
      have hm : (TL.tl l)[i] ∈ TL.tl l := List.getElem_mem _
      have c : 97 ≤ (TL.tl l)[i] := (hl.2.2 _ hm).1
      have : TL.pre [46] ((TL.tl l)[i] :: (List.drop (i + 1) (TL.tl l) ++ 46 :: TL.tl o)) = false := TL.pre_of_head _ _ (by omega)
      rw [List.cons_append, this] at hi
      cases hi
    congr 1
    omega
theorem cut_name (l o : Str) : cutS (l ++ ("." : Str) ++ o) none (some (l.length : Int)) = l := by
  have e : (l ++ ("." : Str) ++ o).cps.toList = l.cps.toList ++ 46 :: o.cps.toList := nameCodes l o
  have len : l.cps.toList.length = l.length := by simp [Str.length]
  have le : l.length ≤ (l ++ ("." : Str) ++ o).length := by rw [strLen, strLen]; omega
  unfold cutS
  rw [HT.sIx_none, HT.sIx_nat, Nat.min_eq_left le, List.drop_zero, Nat.sub_zero, e, ← len, List.take_left]
/-! ## data of texts -/
theorem dpTup {K : PySem.W.Frag} {H : Hp} {a : Addr} {zs : List Str} (h : SqT K H a (zs.map V.str)) : Dp K H (.ref a) (.tuple (zs.map PyData.str)) := .tup h (dpStrs zs)
theorem showAll {k b : Nat} {d : PyData} (f : Fine k b d) (hk : k ≤ 60) (hb : b ≤ 1000000) : d.showable = true ∧ d.depth ≤ 60 ∧ d.shown.length ≤ sizeLine :=
  ⟨f.sho, Nat.le_trans f.dep hk, f.fits hb⟩
theorem fineTexts {zs : List Str} (h : ∀ z ∈ zs, Sm z ∧ z.length ≤ 17) (hl : zs.length ≤ 1000) : Fine 1 18000 (.tuple (zs.map PyData.str)) :=
  (finesStrs (m := 17) h 0).tuple.up (Nat.le_refl _) (by omega)
theorem fineTwo {k b : Nat} {d e : PyData} (h : Fine k b d) (h' : Fine k b e) : Fine (k + 1) (2 * b + 2) (.list [d, e]) :=
  (Fines.cons h (Fines.cons h' (Fines.nil k 0))).list.up (Nat.le_refl _) (by omega)
/-! ## a def that keeps each of several promises -/
theorem Has.any {P : Program} {w : World} {K : PySem.W.Frag} {mg : Str → Option Value} {base : Heap} {k : Nat} {x : Str} {st : Stmt} {ps : List Str} {sp : Nat → Sp} (D : Nat)
    (h : ∀ d, d ≤ D → Has P w K mg base k x st ps (sp d)) : Has P w K mg base k x st ps (fun vs H Q E => ∃ d, d ≤ D ∧ sp d vs H Q E) := by
  obtain ⟨f, fd, F, G, b, m⟩ := h 0 (Nat.zero_le _)
  have all : ∀ d, d ≤ D → FnOk P w K mg base CX0 k f fd ps (sp d) := by
    intro d hd
    obtain ⟨f', fd', F', G', b', m'⟩ := h d hd
    rw [m] at m'
    cases m'
    obtain ⟨oc, od, kV, doc, pm, an, cdv, ct, osl, e1, l1, _⟩ := F.ex
    obtain ⟨oc', od', kV', doc', pm', an', cdv', ct', osl', e2, l2, _⟩ := F'.ex
    rw [l1] at l2
    cases l2
    exact G'
  exact ⟨f, fd, F, ⟨fun vs H Q E ⟨d, hd, q⟩ => (all d hd).len vs H Q E q, fun A outer s H args us vs Q E hr he hb hv ⟨d, hd, q⟩ => (all d hd).run A outer s H args us vs Q E hr he hb hv q⟩, b, m⟩
/-- a list that was there is there still, where only new things were changed -/
theorem SqL.kp {K : PySem.W.Frag} {ms : List Addr} {H H' : Hp} {a : Addr} {xs : List V} (k : Kp ms H H') (n : ∀ m ∈ ms, H m = none) (h : SqL K H a xs) : SqL K H' a xs := by
  rcases h with (h | ⟨o, h⟩) | h
  · exact .inl (.inl (k _ _ (fun z => by rw [n _ z] at h; cases h) h))
  · exact .inl (.inr ⟨o, k _ _ (fun z => by rw [n _ z] at h; cases h) h⟩)
  · exact .inr h
/-- what law(script) promises -/
def spLaw (K : PySem.W.Frag) : Sp := fun vs H Q _ => ∃ (a : Addr) (ns : List Int), vs = [.ref a] ∧ SqL K H a (ns.map V.int) ∧ ns.length ≤ 63 ∧ ∀ H', Q (.bl true) H'
/-- what the law asks at one hand -/
def spRight : Sp := fun vs H Q _ => ∃ (a : Addr), vs = [.ref a] ∧ Hand 0 H a ∧ ∀ (H' : Hp), Kp [a] H H' → Q (.bl true) H'
end Ah

namespace Ah
open PySem PySem.Spec PyProof.Rows L2
/-! ## the end: what the top has left -/
theorem mkAt {K : PySem.W.Frag} {h : Heap} {mg : Str → Option Value} (X : K.In h) (G : h.Ns mainGlobals mg) {x : Str} {st : Stmt} {f : Addr} {oc : Value} {od an : Option Addr} {osl : Array (Option Value)} {kV doc pm cdv ct : Value}
    (a : PySem.W.nsIn K mainGlobals x = some (some (.ref f)))
    (l : K.lookup f = some ⟨oc, od, .func (PySem.W.fnOf x x (defArgs st) (defBody st) (defScope st) .none kV doc pm an cdv ct), osl⟩)
    (c : PySem.W.codeIn K cdv x = true) (k : PySem.W.keepIn K (.ref f) = true) : At K mg x st :=
  ⟨f, _, fun_mk l c k, PySem.W.mg_of X G a⟩
theorem mkNo {K : PySem.W.Frag} {h : Heap} {mg : Str → Option Value} (X : K.In h) (G : h.Ns mainGlobals mg) {x : Str} (z : PySem.W.nsIn K mainGlobals x = some none) : mg x = none := PySem.W.mg_none_of X G z
/-- the law's own def, from its promise over every base -/
theorem lawFn {P : Program} {w : World} {K : PySem.W.Frag} {mg : Str → Option Value} {st : Stmt} {fa : Addr} {sp : Sp} {k : Nat} (hfa : mg "law" = some (.ref fa)) (T : At K mg "law" st) (b : Posi "law" st ["script"])
    (D : ∀ base : Heap, HasG P w K mg base k "law" st ["script"] sp) :
    ∃ fd : FuncData, (∀ (s : Shared) (v : Value), BindsTo s fd ⟨[v], []⟩ [("script", v)]) ∧ ∀ base : Heap, K.In base → base.Ns mainGlobals mg → FnG P w K mg base CX0 k fa fd ["script"] sp := by
  obtain ⟨f, fd, F, m⟩ := T
  rw [hfa] at m
  cases m
  obtain ⟨oc, od, kV, doc, pm, an, cdv, ct, osl, e1, l1, _⟩ := id F.ex
  refine ⟨fd, fun s v => ?_, fun base _ _ => ?_⟩
  · rw [e1]
    exact .of_eq (b kV doc pm an cdv ct [v] rfl)
  · obtain ⟨f', fd', F', G', b', m'⟩ := D base
    rw [hfa] at m'
    cases m'
    obtain ⟨oc', od', kV', doc', pm', an', cdv', ct', osl', e2, l2, _⟩ := F'.ex
    rw [l1] at l2
    cases l2
    exact G'
end Ah

namespace Ah
open PySem PySem.Spec PyProof.Rows L2
def topS (i : Nat) : Stmt := PySem.Challenge.pw_aheadofholes_k02_holes_and_names_of_tree.main.body.getD i (.Pass ⟨0, 0, 0, 0⟩)
end Ah
namespace Ah
open PySem PySem.Spec PyProof.Rows L2
local macro_rules | `(tactic| walk_at "side") => `(tactic| first | omega | decide | (dsimp only; omega) | (unfold CDivN; omega) | (unfold CMul; omega) | (unfold CPow; omega) | (unfold CPow; decide) | (unfold CMulW; decide) | exact szLe rfl | rfl)
local macro_rules | `(tactic| walk_at "here") => `(tactic| first | assumption | exact upd_same)
local macro_rules | `(tactic| walk_at "go") => `(tactic| repeat (first
  | (refine ⟨_, rfl, ?_⟩)
  | (refine ⟨_, _, rfl, rfl, ?_⟩)
  | (refine ⟨_, _, _, _, rfl, rfl, SqL.of (by walk_at "here"), rfl, ?_⟩)
  | (refine ⟨_, _, _, _, rfl, rfl, (by walk_at "here"), rfl, ?_⟩)
  | (refine ⟨_, _, rfl, ?_⟩)
  | (refine And.intro (by walk_at "side") ?_)))

abbrev s__law_take : Stmt := topS 8
abbrev N__law_take : List Str := ["hand", "many", "digit", "prime", "drawn"]
theorem sc__law_take : FnScope N__law_take ["hand", "many"] (defScope s__law_take) :=
  ⟨rfl, rfl, rfl, by decide +kernel, rfl, by decide +kernel, by decide +kernel⟩
theorem po__law_take : Posi "_law_take" s__law_take ["hand", "many"] := fun _ _ _ _ _ _ us hl => match us, hl with | [_, _], _ => rfl

def spTake : Sp := fun vs H Q _ => ∃ (a : Addr) (m : Int) (n : Nat), vs = [.ref a, .int m] ∧ Hand n H a ∧ n < 1000000 ∧ 1 ≤ m ∧ m < 1073741824 ∧
  ∀ (r : Int) (H' : Hp), 0 ≤ r → r < m → Kp [a] H H' → Hand (n + 1) H' a → Q (.int r) H'
def primes : List V := [.int 2147483647, .int 2147483629, .int 2147483587, .int 2147483579, .int 2147483563]
theorem primeAt (c : Int) : ∃ p : Int, atI primes (c.fmod 5) = some (.int p) ∧ 2147483563 ≤ p ∧ p ≤ 2147483647 := by
  rcases five (c := c) with e | e | e | e | e <;> rw [e]
  · exact ⟨2147483647, rfl, by decide, by decide⟩
  · exact ⟨2147483629, rfl, by decide, by decide⟩
  · exact ⟨2147483587, rfl, by decide, by decide⟩
  · exact ⟨2147483579, rfl, by decide, by decide⟩
  · exact ⟨2147483563, rfl, by decide, by decide⟩
section
variable {P : Program} {w : World} {K : PySem.W.Frag} {mg : Str → Option Value} {base : Heap}
theorem h_take (T : At K mg "_law_take" s__law_take) : Has P w K mg base 1 "_law_take" s__law_take ["hand", "many"] spTake := by
  refine T.has sc__law_take po__law_take (fun vs H Q E h => ?_) (fun f cdv A outer s H vs Q E hr h => ?_)
  · obtain ⟨a, m, n, rfl, _⟩ := h; rfl
  obtain ⟨a, m, n, rfl, ⟨g, d, c, hH, g0, g1, d0, d1, c0, c1⟩, hn, m1, m2, q⟩ := h
  have nd := sc__law_take.nd
  refine ⟨_, (pss_cons (ps_if (pt_cmpR op_gt (pe_ix ix_list (pv 0) pe_int (fun _ _ => rfl)) pe_int (nomark _)) (pss_cons (ps_set (i := 2) nd rfl (Or.inl rfl) (pe_op op_modN (pe_ix ix_list (pv 0) pe_int (fun _ _ => rfl)) (pv 1)))
      (pss_cons (ps_asg (pe_op op_fdivN (pe_ix ix_list (pv 0) pe_int (fun _ _ => rfl)) (pv 1)) (pg_sub (pv 0) pe_int set_list))
      (pss_one (ps_ret (pv 2))))) pss_nil)
      (pss_cons (ps_asg (pe_op op_add (pe_ix ix_list (pv 0) pe_int (fun _ _ => rfl)) pe_int) (pg_sub (pv 0) pe_int set_list))
      (pss_cons (ps_set (i := 3) nd rfl (Or.inl rfl) (pe_ix ix_list (pe_lst (pa_cons pe_int (pa_cons pe_int (pa_cons pe_int (pa_cons pe_int (pa_cons pe_int pa_nil)))))) (pe_op op_modN (pe_ix ix_list (pv 0) pe_int (fun _ _ => rfl)) pe_int) (fun _ _ => rfl)))
      (pss_cons (ps_set (i := 4) nd rfl (Or.inl rfl) (pe_op op_modN (pe_op op_pow (pe_op op_add (pe_ix ix_list (pv 0) pe_int (fun _ _ => rfl)) (pe_op op_mul pe_int (pe_ix ix_list (pv 0) pe_int (fun _ _ => rfl)))) pe_int) (pv 3)))
      (pss_one (ps_ret (pe_op op_modN (pe_op op_fdivN (pe_op op_modN (pe_op op_mul (pv 4) (pe_op op_add (pe_op op_modN (pv 4) pe_int) (pe_ix ix_list (pv 0) pe_int (fun _ _ => rfl)))) (pv 3)) pe_int) (pv 1)))))))), ?_⟩
  walk_at "go"
  refine ite2 (fun t => ?_) (fun t => ?_)
  · walk_at "go"
    have t' : 0 < g := of_decide_eq_true t
    refine q _ _ (fm0 m1) (fm1 m1) (Kp.put (by simp)) ⟨_, _, _, upd_same, fd0 g0 m1, ?_, d0, d1, c0, by omega⟩
    exact Int.lt_of_le_of_lt (fd1 g0 m1) g1
  · walk_at "go"
    intro p hp
    have nap : a ≠ p := fun e => by rw [e, upd_same] at hp; cases hp
    have ha : upd (upd H a (.lst [.int g, .int d, .int (c + 1)])) p (.lst primes) a = some (.lst [.int g, .int d, .int (c + 1)]) := by rw [upd_ne nap, upd_same]
    have hpp : upd (upd H a (.lst [.int g, .int d, .int (c + 1)])) p (.lst primes) p = some (.lst primes) := upd_same
    obtain ⟨pr, e1, e2, e3⟩ := primeAt (c + 1)
    refine ⟨_, rfl, _, _, _, _, rfl, rfl, SqL.of ha, rfl, ?_⟩
    walk_at "go"
    refine ⟨_, _, _, _, rfl, rfl, SqL.of hpp, e1, ?_⟩
    walk_at "go"
    have b0 : 0 ≤ ((d + 7919 * (c + 1)) ^ Int.toNat 3).fmod pr := fm0 (by omega)
    have b1 : ((d + 7919 * (c + 1)) ^ Int.toNat 3).fmod pr < pr := fm1 (by omega)
    refine ⟨.inl ⟨by omega, by omega⟩, ?_⟩
    walk_at "go"
    refine q _ _ (fm0 m1) (fm1 m1) ((Kp.put (by simp)).put0 (Kp.free (ms := [a]) (Kp.put (by simp)) hp (by simpa using fun e => nap e.symm))) ⟨g, d, c + 1, ha, g0, g1, d0, d1, by omega, by omega⟩
abbrev s__law_of : Stmt := topS 9
abbrev N__law_of : List Str := ["hand", "some"]
theorem sc__law_of : FnScope N__law_of ["hand", "some"] (defScope s__law_of) :=
  ⟨rfl, rfl, rfl, by decide +kernel, rfl, by decide +kernel, by decide +kernel⟩
theorem po__law_of : Posi "_law_of" s__law_of ["hand", "some"] := fun _ _ _ _ _ _ us hl => match us, hl with | [_, _], _ => rfl

/-- the draw from a list made within the call, or from a text -/
def spOf : Sp := fun vs H Q _ => ∃ (a : Addr) (s : V) (n : Nat), vs = [.ref a, s] ∧ Hand n H a ∧ n < 1000000 ∧
  ((∃ b xs, s = .ref b ∧ b ≠ a ∧ H b = some (.lst xs) ∧ xs ≠ [] ∧ xs.length < 1000000 ∧ ∀ (i : Nat) (x : V) (H' : Hp), xs[i]? = some x → Kp [a] H H' → Hand (n + 1) H' a → Q x H') ∨
   (∃ z : Str, s = .str z ∧ 1 ≤ z.length ∧ z.length < 1000000 ∧ ∀ (c : Nat) (H' : Hp), c ∈ z.cps.toList → Kp [a] H H' → Hand (n + 1) H' a → Q (.str ⟨#[c]⟩) H'))
theorem h_of (T : At K mg "_law_of" s__law_of) (d__law_take : Has P w K mg base 1 "_law_take" s__law_take ["hand", "many"] spTake) (mb_len : mg "len" = none) :
    Has P w K mg base 2 "_law_of" s__law_of ["hand", "some"] spOf := by
  refine T.has sc__law_of po__law_of (fun vs H Q E h => ?_) (fun f cdv A outer s H vs Q E hr h => ?_)
  · obtain ⟨a, s, n, rfl, _⟩ := h; rfl
  obtain ⟨a, z, n, rfl, hh, hn, h⟩ := h
  have nd := sc__law_of.nd
  refine ⟨_, (pss_one (ps_ret (pe_ix ix_seq (pv 1) (pe_callD d__law_take (by omega) hr (pa_cons (pv 0) (pa_cons (pe_callB call_len (by rfl) mb_len (by decide +kernel) (pa_cons (pv 1) pa_nil)) pa_nil))) (fun _ _ => rfl)))), ?_⟩
  rcases h with ⟨b, xs, rfl, nba, hb, hne, hlen, q⟩ | ⟨y, rfl, hne, hlen, q⟩
  · have hpos : 1 ≤ xs.length := List.length_pos_iff.mpr hne
    refine ⟨_, rfl, _, rfl, _, rfl, _, _, rfl, .inl ⟨_, SqL.of hb, rfl⟩, ?_⟩
    refine ⟨a, (xs.length : Int), n, rfl, hh, hn, by omega, by omega, fun r H' r0 r1 kp hd => ?_⟩
    obtain ⟨x, hx, _, hx2⟩ := atI_in r0 r1
    exact .inl ⟨_, _, _, _, rfl, rfl, SqL.of (kp b _ (by simpa using nba) hb), hx, q _ _ _ hx2 kp hd⟩
  · refine ⟨_, rfl, _, rfl, _, rfl, _, _, rfl, ⟨Nat.le_trans (Nat.le_of_lt hlen) (by decide), rfl⟩, ?_⟩
    refine ⟨a, (y.length : Int), n, rfl, hh, hn, by omega, by omega, fun r H' r0 r1 kp hd => ?_⟩
    have e : y.cps.toList.length = y.length := by simp [Str.length]
    obtain ⟨x, hx, hm, hx2⟩ := atI_in (xs := y.cps.toList) r0 (by rw [e]; exact r1)
    exact .inr (.inr ⟨_, _, _, rfl, rfl, Nat.le_trans (Nat.le_of_lt hlen) (by decide), hx, q _ _ hm kp hd⟩)
abbrev s__law_hand : Stmt := topS 7
abbrev N__law_hand : List Str := ["script", "k", "cell", "great"]
theorem sc__law_hand : FnScope N__law_hand ["script", "k"] (defScope s__law_hand) :=
  ⟨rfl, rfl, rfl, by decide +kernel, rfl, by decide +kernel, by decide +kernel⟩
theorem po__law_hand : Posi "_law_hand" s__law_hand ["script", "k"] := fun _ _ _ _ _ _ us hl => match us, hl with | [_, _], _ => rfl

theorem flag : ∀ b : Bool, -2 ^ 64 < (if b = true then (1 : Int) else 0) ∧ (if b = true then (1 : Int) else 0) < 2 ^ 64 := by decide
theorem big0 : (10 : Int) ^ Int.toNat 60 * 10 ^ Int.toNat 60 * 10 ^ Int.toNat 60 ≠ 0 := by decide
theorem big1 : (10 : Int) ^ Int.toNat 60 * 10 ^ Int.toNat 60 * 10 ^ Int.toNat 60 = 10 ^ 180 := by decide
theorem great (x : Int) (b : Bool) : 0 ≤ x.fmod (10 ^ Int.toNat 60 * 10 ^ Int.toNat 60 * 10 ^ Int.toNat 60) * (if b = true then 1 else 0) ∧
    x.fmod (10 ^ Int.toNat 60 * 10 ^ Int.toNat 60 * 10 ^ Int.toNat 60) * (if b = true then 1 else 0) < 10 ^ 180 := by
  rw [big1]
  have h0 : 0 ≤ x.fmod (10 ^ 180) := fm0 (by decide)
  have h1 : x.fmod (10 ^ 180) < 10 ^ 180 := fm1 (by decide)
  cases b
  · simp
  · simp only [if_true, Int.mul_one]; exact ⟨h0, h1⟩
def spHand (K : PySem.W.Frag) : Sp := fun vs H Q _ => ∃ (a : Addr) (ns : List Int) (k : Nat), vs = [.ref a, .int k] ∧ SqL K H a (ns.map V.int) ∧ k < 1000 ∧
  ∀ (r : Addr) (H' : Hp), H r = none → Kp [] H H' → Hand 0 H' r → Q (.ref r) H'
theorem h_hand (T : At K mg "_law_hand" s__law_hand) (mb_len : mg "len" = none) (mb_abs : mg "abs" = none) (mb_int : mg "int" = none) :
    Has P w K mg base 1 "_law_hand" s__law_hand ["script", "k"] (spHand K) := by
  refine T.has sc__law_hand po__law_hand (fun vs H Q E h => ?_) (fun f cdv A outer s H vs Q E hr h => ?_)
  · obtain ⟨a, ns, k, rfl, _⟩ := h; rfl
  obtain ⟨a, ns, k, rfl, hs, hk, q⟩ := h
  have nd := sc__law_hand.nd
  refine ⟨_, (pss_cons (ps_set (i := 2) nd rfl (Or.inl rfl) (pe_ifExp (pt_cmpR op_lt (pv 1) (pe_callB call_len_seq (by rfl) mb_len (by decide +kernel) (pa_cons (pv 0) pa_nil)) (nomark _)) (pe_ix ix_list (pv 0) (pv 1) (fun _ _ => rfl)) pe_int))
      (pss_cons (ps_set (i := 3) nd rfl (Or.inl rfl) (pe_op op_mul (pe_op op_modN (pe_callB call_abs (by rfl) mb_abs (by decide +kernel) (pa_cons (pv 2) pa_nil)) (pe_op op_mulW (pe_op op_mulW (pe_op op_pow pe_int pe_int) (pe_op op_pow pe_int pe_int)) (pe_op op_pow pe_int pe_int))) (pe_callTy call_int1 (by rfl) mb_int (by decide +kernel) (pa_cons (pe_cmpR op_ge (pe_callB call_abs (by rfl) mb_abs (by decide +kernel) (pa_cons (pv 2) pa_nil)) (pe_op op_pow pe_int pe_int) (nomark _)) pa_nil))))
      (pss_one (ps_ret (pe_lst (pa_cons (pv 3) (pa_cons (pe_op op_modN (pe_op op_mul (pe_op op_add (pe_op op_add (pe_op op_modN (pv 2) pe_int) (pe_op op_mul pe_int (pv 1))) pe_int) pe_int) pe_int) (pa_cons pe_int pa_nil)))))))), ?_⟩
  refine ⟨_, rfl, _, rfl, _, _, rfl, .inl hs, _, _, rfl, rfl, _, rfl, ite2 (fun t => ?_) (fun t => ?_)⟩
  · have t' : ((k : Nat) : Int) < (((ns.map V.int).length : Nat) : Int) := of_decide_eq_true t
    obtain ⟨x, hx, hm, _⟩ := atI_in (xs := ns.map V.int) (by omega) t'
    obtain ⟨cell, _, rfl⟩ := List.mem_map.mp hm
    refine ⟨_, rfl, _, rfl, _, _, _, _, rfl, rfl, hs, hx, ?_⟩
    walk_at "go"
    refine ⟨big0, ?_⟩
    walk_at "go"
    refine .inr ⟨_, rfl, _, _, rfl, rfl, .inr (flag _), ?_⟩
    walk_at "go"
    exact fun p hp => q _ _ hp (Kp.new hp) ⟨_, _, _, upd_same, (great _ _).1, (great _ _).2, fm0 (by decide), fm1 (by decide), by decide, by decide⟩
  · walk_at "go"
    refine .inr ⟨_, rfl, _, _, rfl, rfl, .inr (flag _), ?_⟩
    walk_at "go"
    exact fun p hp => q _ _ hp (Kp.new hp) ⟨_, _, _, upd_same, (great _ _).1, (great _ _).2, fm0 (by decide), fm1 (by decide), by decide, by decide⟩
end
end Ah
namespace Ah
open PySem PySem.Spec PyProof.Rows L2
local macro_rules | `(tactic| walk_at "side") => `(tactic| first | omega | decide | (dsimp only; omega) | (unfold CDivN; omega) | (unfold CMul; omega) | (unfold CPow; omega) | (unfold CPow; decide) | (unfold CMulW; decide) | exact szLe rfl | rfl)
local macro_rules | `(tactic| walk_at "here") => `(tactic| first | assumption | exact upd_same)
local macro_rules | `(tactic| walk_at "go") => `(tactic| repeat (first
  | (refine ⟨_, rfl, ?_⟩)
  | (refine ⟨_, _, rfl, rfl, ?_⟩)
  | (refine ⟨_, _, _, _, rfl, rfl, SqL.of (by walk_at "here"), rfl, ?_⟩)
  | (refine ⟨_, _, _, _, rfl, rfl, (by walk_at "here"), rfl, ?_⟩)
  | (refine ⟨_, _, rfl, ?_⟩)
  | (refine And.intro (by walk_at "side") ?_)))

abbrev s__law_words : Stmt := topS 10
abbrev N__law_words : List Str := ["hand", "letters", "lines", "turn", "first", "found", "k", "many", "own"]
theorem sc__law_words : FnScope N__law_words ["hand"] (defScope s__law_words) :=
  ⟨rfl, rfl, rfl, by decide +kernel, rfl, by decide +kernel, by decide +kernel⟩
theorem po__law_words : Posi "_law_words" s__law_words ["hand"] := fun _ _ _ _ _ _ us hl => match us, hl with | [_], _ => rfl

def spWords : Sp := fun vs H Q _ => ∃ (a : Addr) (n : Nat), vs = [.ref a] ∧ Hand n H a ∧ n < 900000 ∧
  ∀ (r : Addr) (H' : Hp), H r = none → Kp [a] H H' → Hand (n + 20) H' a → Names H' r → Q (.ref r) H'
def arit : List V := [.int 0, .int 0, .int 1, .int 2, .int 3]
theorem aritAt {i : Nat} {x : V} (h : arit[i]? = some x) : ∃ m, x = .int m ∧ 0 ≤ m ∧ m ≤ 3 := by
  have m := List.mem_of_getElem? h
  simp only [arit, List.mem_cons, List.not_mem_nil, or_false] at m
  rcases m with rfl | rfl | rfl | rfl | rfl <;> exact ⟨_, rfl, by decide, by decide⟩
section
variable {P : Program} {w : World} {K : PySem.W.Frag} {mg : Str → Option Value} {base : Heap}
theorem h_words (T : At K mg "_law_words" s__law_words) (d__law_take : Has P w K mg base 1 "_law_take" s__law_take ["hand", "many"] spTake)
    (d__law_of : Has P w K mg base 2 "_law_of" s__law_of ["hand", "some"] spOf) (mb_range : mg "range" = none) (mb_enumerate : mg "enumerate" = none) :
    Has P w K mg base 3 "_law_words" s__law_words ["hand"] spWords := by
  refine T.has sc__law_words po__law_words (fun vs H Q E h => ?_) (fun f cdv A outer s H vs Q E hr h => ?_)
  · obtain ⟨a, n, rfl, _⟩ := h; rfl
  obtain ⟨a, n, rfl, hh, hn, q⟩ := h
  have nd := sc__law_words.nd
  refine ⟨_, (pss_cons (ps_set (i := 1) nd rfl (Or.inr rfl) pe_str)
      (pss_cons (ps_setLc (i := 2) (own := [("turn", 3)]) (by rfl) nd rfl rfl (sw_true rfl rfl rfl (by decide +kernel)) (pi_range1 (by rfl) mb_range (pa_cons pe_int pa_nil)) (blkOk_by (own := [("turn", 3)]) (N := N__law_words) (sc := defScope s__law_words) (by decide +kernel)) (fun _ _ _ _ _ => (pg_name (i := 3) nd rfl (.inl rfl))) (fun _ _ _ _ _ => pts_nil) (fun _ _ _ _ _ => (pe_op op_mulStr (pe_callD d__law_of (by omega) hr (pa_cons (pv 0) (pa_cons (pv 1) pa_nil))) (pe_callD d__law_of (by omega) hr (pa_cons (pv 0) (pa_cons (pe_lst (pa_cons pe_int (pa_cons pe_int (pa_cons pe_int (pa_cons pe_int pa_nil))))) pa_nil))))))
      (pss_cons (ps_par (i := 4) (j := 5) (by rfl) nd rfl rfl (by decide) rfl rfl (pa_cons (pe_callD d__law_take (by omega) hr (pa_cons (pv 0) (pa_cons pe_int pa_nil))) (pa_cons (pe_lst pa_nil) pa_nil)) (by rfl))
      (pss_cons (ps_for PassesOwn.never rfl (pi_enum (by rfl) mb_enumerate (pa_cons (pe_lst (pa_cons pe_int (pa_cons pe_int (pa_cons pe_int (pa_cons pe_int (pa_cons pe_int pa_nil)))))) pa_nil)) (pg_tup rfl (pgs_cons (pg_name (i := 6) nd rfl (.inl rfl)) (pgs_cons (pg_name (i := 7) nd rfl (.inl rfl)) pgs_nil))) (pss_cons (ps_set (i := 8) nd rfl (Or.inl rfl) (pe_op op_mulStr (pe_ix ix_str (pv 1) (pe_op op_modN (pe_op op_add (pv 4) (pv 6)) pe_int) (fun _ _ => rfl)) (pe_callD d__law_of (by omega) hr (pa_cons (pv 0) (pa_cons (pe_lst (pa_cons pe_int (pa_cons pe_int (pa_cons pe_int (pa_cons pe_int pa_nil))))) pa_nil)))))
      (pss_one (ps_expr (pe_bm PySem.F.plainAttrs_list PySem.F.slot_list_append PySem.F.type_list_append mt_append (pv 5) (pa_cons (pe_tup (pa_cons (pe_op op_add_str (pe_op op_add_str (pe_callD d__law_of (by omega) hr (pa_cons (pv 0) (pa_cons (pv 2) pa_nil))) pe_str) (pv 8)) (pa_cons (pv 7) pa_nil))) pa_nil))))))
      (pss_one (ps_ret (pv 5))))))), ?_⟩
  walk_at "go"
  refine fun D hD => lc_range (lo := 0) (n := 2) (fun i H1 => Kp [a] H H1 ∧ Hand (n + 2 * i) H1 a ∧ ∃ ls : List Str, H1 D = some (.lst (ls.map V.str)) ∧ ls.length = i ∧ ∀ l ∈ ls, Nm l)
    ⟨Kp.new hD, hh.new hD, [], upd_same, rfl, by simp⟩ ?_ ?_
  · rintro i H1 hi ⟨kp, hd, ls, hD1, hl, hls⟩
    refine ⟨rfl, ?_⟩
    refine ⟨_, rfl, _, rfl, ?_⟩
    refine ⟨a, .str AB, n + 2 * i, rfl, hd, by omega, .inr ⟨AB, rfl, by rw [ab_len]; decide, by rw [ab_len]; decide, fun c H2 hc kp2 hd2 => ?_⟩⟩
    refine ⟨_, rfl, szLe rfl, fun b hb => ?_⟩
    refine ⟨a, .ref b, n + 2 * i + 1, rfl, hd2.new hb, by omega, .inl ⟨b, _, rfl, ((hd2.ne hb)).symm, upd_same, by simp, by decide, fun j x H3 hx kp3 hd3 => ?_⟩⟩
    obtain ⟨m, rfl, hm⟩ := timesV hx
    obtain ⟨c0, c1⟩ := ab_in c hc
    have kAll : Kp [a] H1 H3 := kp2.trans ((Kp.new hb).trans kp3)
    have hDa : D ∉ [a] := by simpa using hd.neL hD1 (strNo (f := id) ls)
    refine ⟨_, _, rfl, rfl, mulOk1 hm, _, kAll _ _ hDa hD1, ?_, (kp.trans kAll).put0 hD, ?_, ls ++ [Txt.mul ⟨#[c]⟩ m], ?_, ?_, ?_⟩
    · exact small1000 (by rw [List.length_map]; omega)
    · exact (hd3.more (by omega)).put (by simpa using hDa)
    · rw [upd_same, List.map_append]; rfl
    · rw [List.length_append, hl]; rfl
    · intro l hm2
      rcases List.mem_append.mp hm2 with h | h
      · exact hls l h
      · rw [List.mem_singleton.mp h]; exact mulNm hm c0 c1
  · rintro H1 ⟨kp, hd, ls, hD1, hl, hls⟩
    have lstr : ∀ ls : List Str, ∀ g d c : Int, ls.map V.str ≠ [V.int g, .int d, .int c] := fun ls => strNo (f := id) ls
    have hDa : D ≠ a := hd.neL hD1 (lstr ls)
    refine ⟨_, rfl, a, 26, n + 2 * 2, rfl, hd, by omega, by decide, by decide, fun r H2 r0 r1 kp2 hd2 => ?_⟩
    refine ⟨szLe rfl, fun F hF => ?_⟩
    refine ⟨_, _, rfl, ?_⟩
    refine ⟨szLe rfl, fun G hG => ?_⟩
    have nFa : F ≠ a := fun e => by have := hd2.ne hF; exact this e.symm
    have hF0 : H F = none := kp.free (kp2.free hF (by simpa using nFa)) (by simpa using nFa)
    have nGa : G ≠ a := fun e => (hd2.new hF (o := .lst [])).ne hG e.symm
    have hG2 : H2 G = none := Kp.free (ms := []) (Kp.new hF) hG (by simp)
    have nGF : G ≠ F := fun e => by rw [e, upd_same] at hG; cases hG
    have nDF : D ≠ F := ne_of_none (kp2 _ _ (by simpa using hDa) hD1) hF
    have nDG : D ≠ G := ne_of_none (kp2 _ _ (by simpa using hDa) hD1) hG2
    refine ⟨_, _, rfl, SqL.of upd_same, ?_⟩
    refine for_it (walk_enum (K := K) (a := G) (xs := arit)) (fun i σ H3 => (∃ x6 x7 x8 : Option V, σ = [some (.ref a), some (.str AB), some (.ref D), none, some (.int r), some (.ref F), x6, x7, x8]) ∧
      Kp [a] H H3 ∧ Hand (n + 5 + 2 * i) H3 a ∧ H3 D = some (.lst (ls.map V.str)) ∧ H3 G = some (.lst arit) ∧
      ∃ ts : List Addr, H3 F = some (.lst (ts.map V.ref)) ∧ ts.length = i ∧ ∀ (j : Nat) (t : Addr), ts[j]? = some t → ∃ f m, arit[j]? = some (.int m) ∧ NameAt H3 t f m) ?_ ?_ ?_ ?_
    · refine ⟨⟨none, none, none, rfl⟩, ((kp.trans kp2).trans (Kp.new hF)).trans (Kp.new hG), (hd2.new hF).new hG, ?_, upd_same, [], ?_, rfl, by simp⟩
      · rw [upd_ne nDG, upd_ne nDF]; exact kp2 _ _ (by simpa using hDa) hD1
      · rw [upd_ne nGF.symm, upd_same]; rfl
    · rintro i σ H3 _ ⟨_, _, _, _, hG3, _⟩; exact SqL.of hG3
    · rintro i x σ H3 H4 hi ⟨⟨x6, x7, x8, rfl⟩, k3, hd3, hD3, hG3, ts, hF3, hts, hall⟩ ⟨T, x', y', rfl, hT, rfl, ex, ey⟩
      cases ex
      have hi5 : i < 5 := hi
      obtain ⟨m, rfl, m0, m1⟩ := aritAt ey
      refine ⟨_, _, rfl, SqT.of upd_same, rfl, ?_⟩
      have hdT := hd3.new hT (o := .tup [.int ((i : Nat) : Int), .int m])
      obtain ⟨c, hc, hm, _⟩ := atI_in (xs := AB.cps.toList) (k := (r + ((i : Nat) : Int)).fmod 26) (fm0 (by decide)) (fm1 (by decide))
      obtain ⟨c0, c1⟩ := ab_in c hm
      walk_at "go"
      refine ⟨_, _, _, rfl, rfl, szLe rfl, hc, _, rfl, szLe rfl, fun b hb => ?_⟩
      refine ⟨a, .ref b, n + 5 + 2 * i, rfl, hdT.new hb, by omega, .inl ⟨b, _, rfl, (hdT.ne hb).symm, upd_same, by simp, by decide, fun j x H5 hx kp5 hd5 => ?_⟩⟩
      obtain ⟨mm, rfl, hmm⟩ := timesV hx
      refine ⟨_, _, rfl, rfl, mulOk1 hmm, ?_⟩
      have k35 : Kp [a] H3 H5 := (Kp.new hT).trans ((Kp.new hb).trans kp5)
      have hD5 : H5 D = some (.lst (ls.map V.str)) := k35 _ _ (by simpa using hDa) hD3
      have hF5 : H5 F = some (.lst (ts.map V.ref)) := k35 _ _ (by simpa using nFa) hF3
      refine ⟨_, rfl, .inl ⟨rfl, _, SqL.of hF5⟩, ?_⟩
      refine ⟨_, rfl, _, rfl, a, .ref D, n + 5 + 2 * i + 1, rfl, hd5, by omega, .inl ⟨D, _, rfl, hDa, hD5, ?_, ?_, fun j2 x H6 hx kp6 hd6 => ?_⟩⟩
      · intro e; rw [List.map_eq_nil_iff.mp e] at hl; cases hl
      · rw [List.length_map, hl]; decide
      rw [List.getElem?_map] at hx
      obtain ⟨l, hl2, rfl⟩ := Option.map_eq_some_iff.mp hx
      have hNl := hls l (List.mem_of_getElem? hl2)
      have hNo := mulNm (c := c) hmm c0 c1
      have dot1 : (("." : Str)).length = 1 := rfl
      refine ⟨_, _, rfl, rfl, ?_, _, rfl, _, _, rfl, rfl, ?_, _, rfl, szLe rfl, fun U hU => ?_⟩
      · exact Nat.le_trans (by have := hNl.2.1; rw [dot1]; omega) (szLe (n := 9) rfl)
      · exact Nat.le_trans (by have := hNl.2.1; have := hNo.2.1; rw [strLen, dot1]; omega) (szLe (n := 17) rfl)
      have k36 : Kp [a] H3 H6 := k35.trans kp6
      have hF6 : H6 F = some (.lst (ts.map V.ref)) := kp6 _ _ (by simpa using nFa) hF5
      have nFU : F ≠ U := ne_of_none hF6 hU
      have nGU : G ≠ U := ne_of_none (k36 _ _ (by simpa using nGa) hG3) hU
      have nDU : D ≠ U := ne_of_none (kp6 _ _ (by simpa using hDa) hD5) hU
      refine ⟨_, _, _, rfl, rfl, by rw [upd_ne nFU]; exact hF6, small1000 (by rw [List.length_map]; omega), ?_⟩
      refine ⟨⟨_, _, _, rfl⟩, (((k3.trans k36).trans (Kp.new hU)).put0 hF0), ((hd6.more (by omega)).new hU).put nFa, ?_, ?_, ts ++ [U], ?_, ?_, ?_⟩
      · rw [upd_ne nDF, upd_ne nDU]; exact kp6 _ _ (by simpa using hDa) hD5
      · rw [upd_ne nGF, upd_ne nGU]; exact k36 _ _ (by simpa using nGa) hG3
      · rw [upd_same, List.map_append]; rfl
      · rw [List.length_append, hts]; rfl
      · intro j t ht
        have nt : ∀ x ∈ [a], ∀ xs, H3 x ≠ some (.tup xs) := fun x hx => by rw [List.mem_singleton.mp hx]; exact hd3.noTup
        rcases getSnoc ht with ⟨hj, e⟩ | ⟨hj, rfl⟩
        · obtain ⟨f, m', e1, e2⟩ := hall j t e
          refine ⟨f, m', e1, ?_⟩
          have e3 : NameAt H6 t f m' := e2.keep k36 nt
          exact ⟨by rw [upd_ne (ne_of e3.1 hF6 (by intro z; cases z)), upd_ne (ne_of_none e3.1 hU)]; exact e3.1, e3.2⟩
        · rw [hj, hts]
          exact ⟨_, m, ey, by rw [upd_ne nFU.symm, upd_same], ⟨l, _, hNl, hNo, rfl⟩, m0, m1⟩
    · rintro σ H3 ⟨⟨x6, x7, x8, rfl⟩, k3, hd3, hD3, hG3, ts, hF3, hts, hall⟩
      refine ⟨_, rfl, q _ _ hF0 k3 (hd3.more ?_) ⟨ts, hF3, by rw [hts]; decide, ?_, ?_⟩⟩
      · show n + 5 + 2 * 5 ≤ n + 20; omega
      · obtain ⟨t0, r0, rfl⟩ : ∃ t0 r0, ts = t0 :: r0 := by
          cases ts with
          | nil => cases hts
          | cons t r => exact ⟨_, _, rfl⟩
        obtain ⟨f, m, e1, e2⟩ := hall 0 t0 rfl
        cases e1
        exact ⟨t0, by simp, f, e2⟩
      · intro t ht
        obtain ⟨j, hj⟩ := List.getElem?_of_mem ht
        obtain ⟨f, m, _, e⟩ := hall j t hj
        exact ⟨f, m, e⟩
end
end Ah
namespace Ah
open PySem PySem.Spec PyProof.Rows L2
local macro_rules | `(tactic| walk_at "side") => `(tactic| first | omega | decide | (dsimp only; omega) | (unfold CDivN; omega) | (unfold CMul; omega) | (unfold CPow; omega) | (unfold CPow; decide) | (unfold CMulW; decide) | exact szLe rfl | rfl)
local macro_rules | `(tactic| walk_at "here") => `(tactic| first | assumption | exact upd_same)
local macro_rules | `(tactic| walk_at "go") => `(tactic| repeat (first
  | (refine ⟨_, rfl, ?_⟩)
  | (refine ⟨_, _, rfl, rfl, ?_⟩)
  | (refine ⟨_, _, _, _, rfl, rfl, SqL.of (by walk_at "here"), rfl, ?_⟩)
  | (refine ⟨_, _, _, _, rfl, rfl, (by walk_at "here"), rfl, ?_⟩)
  | (refine ⟨_, _, rfl, ?_⟩)
  | (refine And.intro (by walk_at "side") ?_)))

abbrev s__law_called : Stmt := topS 12
abbrev N__law_called : List Str := ["hand", "lots"]
theorem sc__law_called : FnScope N__law_called ["hand"] (defScope s__law_called) :=
  ⟨rfl, rfl, rfl, by decide +kernel, rfl, by decide +kernel, by decide +kernel⟩
theorem po__law_called : Posi "_law_called" s__law_called ["hand"] := fun _ _ _ _ _ _ us hl => match us, hl with | [_], _ => rfl

def spCalled : Sp := fun vs H Q _ => ∃ (a : Addr) (n : Nat), vs = [.ref a] ∧ Hand n H a ∧ n < 900000 ∧
  ∀ (r : Addr) (H' : Hp) (zs : List Str), H r = none → Kp [a] H H' → Hand (n + 1) H' a → H' r = some (.lst (zs.map V.str)) → Holes zs → Q (.ref r) H'
section
variable {P : Program} {w : World} {K : PySem.W.Frag} {mg : Str → Option Value} {base : Heap}
def lots : List (List Str) := [["x", "y", "z"], ["a", "b", "c"], ["b", "a"], ["aa", "a", "ab", "b"], ["z", "zzzzzzzz", "y"], ["c"]]
instance (z : Str) : Decidable (Nm z) := by unfold Nm; infer_instance
instance (zs : List Str) : Decidable (Holes zs) := by unfold Holes; infer_instance
theorem lots_ok : ∀ zs ∈ lots, Holes zs := by decide +kernel
theorem h_called (T : At K mg "_law_called" s__law_called) (d__law_of : Has P w K mg base 2 "_law_of" s__law_of ["hand", "some"] spOf) :
    Has P w K mg base 3 "_law_called" s__law_called ["hand"] spCalled := by
  refine T.has sc__law_called po__law_called (fun vs H Q E h => ?_) (fun f cdv A outer s H vs Q E hr h => ?_)
  · obtain ⟨a, n, rfl, _⟩ := h; rfl
  obtain ⟨a, n, rfl, hh, hn, q⟩ := h
  have nd := sc__law_called.nd
  refine ⟨_, (pss_cons (ps_set (i := 1) nd rfl (Or.inl rfl) (pe_lst (pa_cons (pe_lst (pa_cons pe_str (pa_cons pe_str (pa_cons pe_str pa_nil)))) (pa_cons (pe_lst (pa_cons pe_str (pa_cons pe_str (pa_cons pe_str pa_nil)))) (pa_cons (pe_lst (pa_cons pe_str (pa_cons pe_str pa_nil))) (pa_cons (pe_lst (pa_cons pe_str (pa_cons pe_str (pa_cons pe_str (pa_cons pe_str pa_nil))))) (pa_cons (pe_lst (pa_cons pe_str (pa_cons pe_str (pa_cons pe_str pa_nil)))) (pa_cons (pe_lst (pa_cons pe_str pa_nil)) pa_nil))))))))
      (pss_one (ps_ret (pe_callD d__law_of (by omega) hr (pa_cons (pv 0) (pa_cons (pv 1) pa_nil)))))), ?_⟩
  refine ⟨szLe rfl, fun p1 h1 => ⟨szLe rfl, fun p2 h2 => ⟨szLe rfl, fun p3 h3 => ⟨szLe rfl, fun p4 h4 => ⟨szLe rfl, fun p5 h5 => ⟨szLe rfl, fun p6 h6 => ⟨szLe rfl, fun p h0 => ?_⟩⟩⟩⟩⟩⟩⟩
  have s1 := Kp.new (ms := []) (o := .lst ((["x", "y", "z"] : List Str).map V.str)) h1
  have s2 := Kp.new (ms := []) (o := .lst ((["a", "b", "c"] : List Str).map V.str)) h2
  have s3 := Kp.new (ms := []) (o := .lst ((["b", "a"] : List Str).map V.str)) h3
  have s4 := Kp.new (ms := []) (o := .lst ((["aa", "a", "ab", "b"] : List Str).map V.str)) h4
  have s5 := Kp.new (ms := []) (o := .lst ((["z", "zzzzzzzz", "y"] : List Str).map V.str)) h5
  have s6 := Kp.new (ms := []) (o := .lst ((["c"] : List Str).map V.str)) h6
  have s0 := Kp.new (ms := []) (o := .lst ([p1, p2, p3, p4, p5, p6].map V.ref)) h0
  have t5 := s5.trans s6
  have t4 := s4.trans t5
  have t3 := s3.trans t4
  have t2 := s2.trans t3
  have all := s1.trans t2
  have hd6 := hh.keep all (by simp)
  have nn : ∀ b : Addr, b ∉ ([] : List Addr) := fun b z => by cases z
  have e1 := (t2.trans s0) p1 _ (nn _) upd_same
  have e2 := (t3.trans s0) p2 _ (nn _) upd_same
  have e3 := (t4.trans s0) p3 _ (nn _) upd_same
  have e4 := (t5.trans s0) p4 _ (nn _) upd_same
  have e5 := (s6.trans s0) p5 _ (nn _) upd_same
  have e6 := s0 p6 _ (nn _) upd_same
  have g1 := h1
  have g2 := s1.free h2 (nn _)
  have g3 := (s1.trans s2).free h3 (nn _)
  have g4 := ((s1.trans s2).trans s3).free h4 (nn _)
  have g5 := (((s1.trans s2).trans s3).trans s4).free h5 (nn _)
  have g6 := ((((s1.trans s2).trans s3).trans s4).trans s5).free h6 (nn _)
  have fin : ∀ (b : Addr) (zs : List Str) (Hf H' : Hp), Kp [] H Hf → Hf b = some (.lst (zs.map V.str)) → zs ∈ lots → H b = none → Kp [a] Hf H' → Hand (n + 1) H' a → Q (.ref b) H' := by
    intro b zs Hf H' hk hb2 hz hb kp hd'
    have nba : b ≠ a := fun e => hh.ne hb e.symm
    exact q b H' zs hb ((hk.wide (by simp)).trans kp) hd' (kp _ _ (by simpa using nba) hb2) (lots_ok zs hz)
  refine ⟨_, rfl, _, rfl, a, .ref p, n, rfl, hd6.new h0, by omega, .inl ⟨p, _, rfl, (hd6.ne h0).symm, upd_same, by simp, by show 6 < 1000000; decide, fun i x H' hx kp hd' => ?_⟩⟩
  have hm := List.mem_of_getElem? hx
  simp only [List.mem_cons, List.not_mem_nil, or_false] at hm
  rcases hm with rfl | rfl | rfl | rfl | rfl | rfl
  · exact fin _ ["x", "y", "z"] _ _ (all.trans s0) e1 (by decide +kernel) g1 kp hd'
  · exact fin _ ["a", "b", "c"] _ _ (all.trans s0) e2 (by decide +kernel) g2 kp hd'
  · exact fin _ ["b", "a"] _ _ (all.trans s0) e3 (by decide +kernel) g3 kp hd'
  · exact fin _ ["aa", "a", "ab", "b"] _ _ (all.trans s0) e4 (by decide +kernel) g4 kp hd'
  · exact fin _ ["z", "zzzzzzzz", "y"] _ _ (all.trans s0) e5 (by decide +kernel) g5 kp hd'
  · exact fin _ ["c"] _ _ (all.trans s0) e6 (by decide +kernel) g6 kp hd'
end
abbrev s__law_tree : Stmt := topS 11
abbrev N__law_tree : List Str := ["hand", "names", "holes", "deep", "name", "many", "one", "k"]
theorem sc__law_tree : FnScope N__law_tree ["hand", "names", "holes", "deep"] (defScope s__law_tree) :=
  ⟨rfl, rfl, rfl, by decide +kernel, rfl, by decide +kernel, by decide +kernel⟩
theorem po__law_tree : Posi "_law_tree" s__law_tree ["hand", "names", "holes", "deep"] := fun _ _ _ _ _ _ us hl => match us, hl with | [_, _, _, _], _ => rfl

def cost : Nat → Nat
  | 0 => 2
  | d + 1 => 2 + 3 * cost d
def most : Nat → Nat
  | 0 => 1
  | d + 1 => 1 + 3 * most d
def spTree (K : PySem.W.Frag) (d : Nat) : Sp := fun vs H Q _ => ∃ (a nm hl : Addr) (zs : List Str) (n : Nat), vs = [.ref a, .ref nm, .ref hl, .int d] ∧ Hand n H a ∧ Names H nm ∧
  H hl = some (.lst (zs.map V.str)) ∧ zs.length ≤ 4 ∧ (∀ z ∈ zs, Nm z) ∧ n + cost d < 900000 ∧ d ≤ 3 ∧
  ∀ (v : V) (H' : Hp) (t : Tr), Kp [a] H H' → Hand (n + cost d) H' a → Dp K H' v t.data → t.ok zs → t.deep ≤ d + 1 → t.size ≤ most d → Q v H'
section
variable {P : Program} {w : World} {K : PySem.W.Frag} {mg : Str → Option Value} {base : Heap}
theorem h_tree1 (d : Nat) (T : At K mg "_law_tree" s__law_tree) (d__law_take : Has P w K mg base 1 "_law_take" s__law_take ["hand", "many"] spTake)
    (d__law_of : Has P w K mg base 2 "_law_of" s__law_of ["hand", "some"] spOf) (mb_range : mg "range" = none) (mb_tuple : mg "tuple" = none) (sp : Sp)
    (hsp : ∀ d', d = d' + 1 → sp = spTree K d')
    (d__law_tree : Has P w K mg base (2 + d) "_law_tree" s__law_tree ["hand", "names", "holes", "deep"] sp) :
    Has P w K mg base (3 + d) "_law_tree" s__law_tree ["hand", "names", "holes", "deep"] (spTree K d) := by
  have e3 : 3 + d = (2 + d) + 1 := by omega
  rw [e3]
  refine T.has sc__law_tree po__law_tree (fun vs H Q E h => ?_) (fun f cdv A outer s H vs Q E hr h => ?_)
  · obtain ⟨a, nm, hl, zs, n, rfl, _⟩ := h; rfl
  obtain ⟨a, nm, hl, zs, n, rfl, hh, hN, hZ, hz4, hZN, hn, hd3, q⟩ := h
  have nd := sc__law_tree.nd
  refine ⟨_, (pss_cons (ps_if (PW.pt (pw_and (pt_cmpR (op_neD hr.units) (pv 2) (pe_lst pa_nil) (nomark _)) (pw_and1 (pt_cmpR op_eq (pe_callD d__law_take (by omega) hr (pa_cons (pv 0) (pa_cons pe_int pa_nil))) pe_int (nomark _))))) (pss_one (ps_ret (pe_callD d__law_of (by omega) hr (pa_cons (pv 0) (pa_cons (pv 2) pa_nil))))) pss_nil)
      (pss_cons (ps_asg (pe_callD d__law_of (by omega) hr (pa_cons (pv 0) (pa_cons (pe_lc (own := [("one", 6)]) (by rfl) nd (pi_list (pv 1)) (blkOk_by (own := [("one", 6)]) (N := N__law_tree) (sc := defScope s__law_tree) (by decide +kernel)) (fun _ _ _ _ _ => (pg_name (i := 6) nd rfl (.inl rfl))) (fun _ _ _ _ _ => (pts_one (PW.pt (pw_or (pt_cmpR op_eq (pe_ix (ixT K) (pv 6) pe_int (fun _ _ => rfl)) pe_int (nomark _)) (pw_or1 (pt_cmpR op_gt (pv 3) pe_int (nomark _))))))) (fun _ _ _ _ _ => (pv 6))) pa_nil))) (pg_tup rfl (pgs_cons (pg_name (i := 4) nd rfl (.inl rfl)) (pgs_cons (pg_name (i := 5) nd rfl (.inl rfl)) pgs_nil))))
      (pss_one (ps_ret (pe_op op_catT (pe_tup (pa_cons (pv 4) pa_nil)) (pe_callTy call_tuple_of (by rfl) mb_tuple (by decide +kernel) (pa_cons (pe_lc (own := [("k", 7)]) (by rfl) nd (pi_range1 (by rfl) mb_range (pa_cons (pv 5) pa_nil)) (blkOk_by (own := [("k", 7)]) (N := N__law_tree) (sc := defScope s__law_tree) (by decide +kernel)) (fun _ _ _ _ _ => (pg_name (i := 7) nd rfl (.inl rfl))) (fun _ _ _ _ _ => pts_nil) (fun _ _ _ _ _ => (pe_callD d__law_tree (by omega) hr (pa_cons (pv 0) (pa_cons (pv 1) (pa_cons (pv 2) (pa_cons (pe_op op_sub (pv 3) pe_int) pa_nil))))))) pa_nil))))))), ?_⟩
  refine ⟨_, rfl, ?_⟩
  refine ⟨szLe rfl, fun e he => ?_⟩
  have fz : Fine 1 36 (.list (zs.map PyData.str)) := by
    refine (finesStrs (m := 8) (fun z hz => ⟨(hZN z hz).sm, (hZN z hz).2.1⟩) 0).list.up (Nat.le_refl _) ?_
    omega
  refine ⟨_, .list [], .lst (SqL.of (Eq.trans (upd_ne (ne_of_none hZ he)) hZ)) (dpStrs zs), .lst (SqL.of upd_same) .nil, fz.shaped (by decide), by decide, _, rfl, ?_⟩
  refine ite2 (fun t1 => ?_) (fun t1 => ?_)
  · have hne : zs ≠ [] := by
      rintro rfl
      simp [PyData.eqv, PyData.eqvAll] at t1
    have nah : ∀ ys, H a ≠ some (.tup ys) := hh.noTup
    have hla0 : hl ≠ a := hh.neL hZ (strNo (f := id) zs)
    refine ⟨_, rfl, a, 3, n, rfl, hh.new he, by omega, by decide, by decide, fun r H1 r0 r1 k1' hd1 => ?_⟩
    have k1 : Kp [a] H H1 := (Kp.new he).trans k1'
    refine ⟨rfl, _, rfl, ite2 (fun c => ?_) (fun c => ?_)⟩
    · have hZ1 : H1 hl = some (.lst (zs.map V.str)) := k1 _ _ (by simpa using hla0) hZ
      refine ⟨_, rfl, _, rfl, a, .ref hl, n + 1, rfl, hd1, by omega, .inl ⟨hl, _, rfl, hla0, hZ1, by simpa using hne, by rw [List.length_map]; omega, fun i x H2 hx k2 hd2 => ?_⟩⟩
      rw [List.getElem?_map] at hx
      obtain ⟨z, hz, rfl⟩ := Option.map_eq_some_iff.mp hx
      have c2 : 2 ≤ cost d := by cases d <;> simp [cost]
      have m2 : 1 ≤ most d := by cases d <;> simp [most]
      refine q _ _ (.h z) (k1.trans k2) (hd2.more (by omega)) ?_ (List.mem_of_getElem? hz) (Nat.zero_le _) (by rw [size_h]; exact m2)
      rw [Tr.data]; exact .str z
    obtain ⟨n1, hn1, hn1'⟩ : ∃ n1, n1 = n + 1 ∧ n1 ≤ n + 1 := ⟨n + 1, rfl, Nat.le_refl _⟩
    rw [← hn1] at hd1
    obtain ⟨ts, hT, hlen, ⟨t0, ht0, f0, hf0⟩, hall⟩ := hN
    have nat : ∀ x ∈ [a], ∀ xs, H x ≠ some (.tup xs) := fun x hx => by rw [List.mem_singleton.mp hx]; exact hh.noTup
    have nma : nm ≠ a := hh.neL hT (refNo ts)
    have hla : hl ≠ a := hh.neL hZ (strNo (f := id) zs)
    have hT1 : H1 nm = some (.lst (ts.map V.ref)) := k1 _ _ (by simpa using nma) hT
    have all1 : ∀ t ∈ ts, ∃ f m, NameAt H1 t f m := fun t ht => by
      obtain ⟨f, m, h⟩ := hall t ht
      exact ⟨f, m, h.keep k1 nat⟩
    have z1 : NameAt H1 t0 f0 0 := hf0.keep k1 nat
    refine ⟨_, rfl, _, rfl, _, rfl, ⟨_, SqL.of hT1⟩, fun D hD => ?_⟩
    refine lc_list (K := K) (a := nm) (xs := ts.map V.ref) (fun i H2 => Kp [] H1 H2 ∧ ∃ us : List Addr, H2 D = some (.lst (us.map V.ref)) ∧ us.length ≤ i ∧ (∀ u ∈ us, u ∈ ts) ∧
      (∀ u ∈ us, ∀ f m, NameAt H1 u f m → m = 0 ∨ 0 < d) ∧ (∀ j, j < i → ts[j]? = some t0 → t0 ∈ us)) ?_ ?_ ?_ ?_
    · exact ⟨Kp.new hD, [], upd_same, Nat.le_refl _, by simp, by simp, by intro j hj; omega⟩
    · rintro i H2 hi ⟨k2, _⟩; exact SqL.of (k2 _ _ (by simp) hT1)
    · rintro i x H2 hx ⟨k2, us, hD2, hul, hu1, hu2, hu3⟩
      rw [List.getElem?_map] at hx
      obtain ⟨t, ht, rfl⟩ := Option.map_eq_some_iff.mp hx
      have htm := List.mem_of_getElem? ht
      have hi : i < 5 := Nat.lt_of_lt_of_le (List.getElem?_eq_some_iff.mp ht).1 hlen
      obtain ⟨f, m, hnm⟩ := all1 t htm
      have hnm2 : H2 t = some (.tup [.str f, .int m]) := k2 _ _ (by simp) hnm.1
      have keepIt : m = 0 ∨ 0 < d → ∃ acc, H2 D = some (.lst acc) ∧ acc.length < sizeLine ∧ Kp [] H1 (upd H2 D (.lst (acc ++ [V.ref t]))) ∧ ∃ us : List Addr, upd H2 D (.lst (acc ++ [V.ref t])) D = some (.lst (us.map V.ref)) ∧ us.length ≤ i + 1 ∧ (∀ u ∈ us, u ∈ ts) ∧
          (∀ u ∈ us, ∀ f m, NameAt H1 u f m → m = 0 ∨ 0 < d) ∧ (∀ j, j < i + 1 → ts[j]? = some t0 → t0 ∈ us) := by
        intro hm
        refine ⟨_, hD2, small1000 (by rw [List.length_map]; omega), k2.put0 hD, us ++ [t], by rw [upd_same, List.map_append]; rfl, by rw [List.length_append, List.length_singleton]; omega, ?_, ?_, ?_⟩
        · intro u hu
          rcases List.mem_append.mp hu with h | h
          · exact hu1 u h
          · rw [List.mem_singleton.mp h]; exact htm
        · intro u hu f' m' h'
          rcases List.mem_append.mp hu with h | h
          · exact hu2 u h f' m' h'
          · rw [List.mem_singleton.mp h] at h'
            have e := h'.1
            rw [hnm.1] at e
            cases e
            exact hm
        · intro j hj e
          rcases Nat.lt_succ_iff_lt_or_eq.mp hj with h | rfl
          · exact List.mem_append_left _ (hu3 j h e)
          · rw [ht] at e; cases e; simp
      refine ⟨rfl, ?_⟩
      refine ⟨_, rfl, _, _, _, _, rfl, rfl, SqT.of hnm2, rfl, rfl, _, rfl, ite2 (fun c1 => ?_) (fun c1 => ?_)⟩
      · have m0 : m = 0 := by simpa using of_decide_eq_true c1
        exact ⟨_, rfl, keepIt (.inl m0)⟩
      · refine ⟨_, rfl, _, _, rfl, rfl, _, rfl, ?_⟩
        refine ite2 (fun c2 => ?_) (fun c2 => ?_)
        · have d0 : (0 : Int) < ((d : Nat) : Int) := of_decide_eq_true c2
          exact ⟨_, rfl, keepIt (.inr (by omega))⟩
        · have m0 : m ≠ 0 := by
            intro e; subst e; exact c1 (by simp)
          refine ⟨k2, us, hD2, by omega, hu1, hu2, fun j hj e => ?_⟩
          rcases Nat.lt_succ_iff_lt_or_eq.mp hj with h | rfl
          · exact hu3 j h e
          · rw [ht] at e; cases e
            have e := hnm.1
            rw [z1.1] at e
            cases e
            exact (m0 rfl).elim
    rintro H2 ⟨k2, us, hD2, hul, hu1, hu2, hu3⟩
    have hne : us ≠ [] := by
      obtain ⟨j, hj⟩ := List.getElem?_of_mem ht0
      have hjl : j < (ts.map V.ref).length := by rw [List.length_map]; exact (List.getElem?_eq_some_iff.mp hj).1
      have := hu3 j hjl hj
      intro e; rw [e] at this; cases this
    have hd2 := hd1.keep k2 (by simp)
    have hDa : D ≠ a := hd2.neL hD2 (refNo us)
    have hlD : hl ≠ D := ne_of_none (k1 _ _ (by simpa using hla) hZ) hD
    have nmD : nm ≠ D := ne_of_none hT1 hD
    refine ⟨a, .ref D, n1, rfl, hd2, by omega, .inl ⟨D, _, rfl, hDa, hD2, by simpa using hne, by rw [List.length_map] at hul ⊢; omega, fun j x H3 hx k3 hd3 => ?_⟩⟩
    rw [List.getElem?_map] at hx
    obtain ⟨u, hu, rfl⟩ := Option.map_eq_some_iff.mp hx
    have hum := List.mem_of_getElem? hu
    obtain ⟨f, m, hnm⟩ := all1 u (hu1 u hum)
    have hmd := hu2 u hum f m hnm
    have hnm2 : H2 u = some (.tup [.str f, .int m]) := k2 _ _ (by simp) hnm.1
    have hnm3 : H3 u = some (.tup [.str f, .int m]) := k3.tup (fun x hx => by rw [List.mem_singleton.mp hx]; exact hd2.noTup) hnm2
    have m0 := hnm.2.2.1
    have m3 := hnm.2.2.2
    refine ⟨_, _, rfl, SqT.of hnm3, rfl, _, _, rfl, _, _, rfl, rfl, ?_⟩
    refine ⟨_, rfl, szLe rfl, fun p hp => ?_⟩
    refine ⟨_, rfl, _, rfl, by omega, by omega, fun D2 hD2n => ?_⟩
    have k23 : Kp [a] H H3 := k1.trans ((k2.wide (by simp)).trans k3)
    have hN3 : Names H3 nm := Names.keep ⟨ts, hT, hlen, ⟨t0, ht0, f0, hf0⟩, hall⟩ k23 (by simpa using nma) nat
    have hZ3 : H3 hl = some (.lst (zs.map V.str)) := k23 _ _ (by simpa using hla) hZ
    have hdp := hd3.new hp (o := .tup [.str f])
    have pa : p ≠ a := (hd3.ne hp).symm
    have D2p : D2 ≠ p := fun e => by rw [e, upd_same] at hD2n; cases hD2n
    have hD23 : H3 D2 = none := Kp.free (ms := []) (Kp.new hp) hD2n (by simp)
    have D2a : D2 ≠ a := (hd3.ne hD23).symm
    have hlp : hl ≠ p := ne_of_none hZ3 hp
    have hlD2 : hl ≠ D2 := ne_of_none hZ3 hD23
    obtain ⟨ts3, hT3, rest3⟩ := id hN3
    have nmp : nm ≠ p := ne_of_none hT3 hp
    have nmD2 : nm ≠ D2 := ne_of_none hT3 hD23
    refine lc_range (lo := 0) (n := m.toNat) (fun i H4 => Kp [a] (upd H3 p (.tup [.str f])) H4 ∧ Hand (n1 + 1 + i * cost (d - 1)) H4 a ∧ ∃ (vs : List V) (us : List Tr), H4 D2 = some (.lst vs) ∧ us.length = i ∧ DpAll K H4 vs (datas us) ∧ oks zs us ∧ deeps us ≤ d ∧ sizes us ≤ i * most (d - 1)) ?_ ?_ ?_
    · refine ⟨Kp.new hD2n, (hdp.new hD2n).more (by omega), [], [], upd_same, rfl, .nil, trivial, Nat.zero_le _, by show 0 ≤ _; omega⟩
    · rintro i H4 hi ⟨k4, hd4, vs, us4, hv4, hlen4, hdp4, hok4, hdeep4, hsz4⟩
      have hm : i < m.toNat := by simpa using hi
      have dpos : 0 < d := by rcases hmd with h | h <;> omega
      obtain ⟨d', rfl⟩ : ∃ d', d = d' + 1 := ⟨d - 1, by omega⟩
      obtain rfl := hsp d' rfl
      have hN4 : Names H4 nm := Names.keep (ms := [a]) (Names.keep (ms := []) hN3 (Kp.new hp) (by simp) (by simp)) k4 (by simpa using nma) (fun x hx => by rw [List.mem_singleton.mp hx]; exact hdp.noTup)
      have hZ4 : H4 hl = some (.lst (zs.map V.str)) := k4 _ _ (by simpa using hla) (by rw [upd_ne hlp]; exact hZ3)
      have hi3 : i < 3 := by omega
      have cost1 : cost (d' + 1) = 2 + 3 * cost d' := rfl
      have ci : i * cost d' + cost d' ≤ 3 * cost d' := by
        have := Nat.mul_le_mul_right (cost d') (show i + 1 ≤ 3 by omega)
        rw [Nat.add_mul, Nat.one_mul] at this
        exact this
      refine ⟨rfl, ?_⟩
      refine ⟨_, rfl, _, rfl, _, rfl, _, rfl, _, _, rfl, rfl, ?_⟩
      refine ⟨a, nm, hl, zs, n1 + 1 + i * cost d', ?_, hd4, hN4, hZ4, hz4, hZN, by omega, by omega, fun v H5 t k5 hd5 hv hok hdeep hsize => ?_⟩
      · show [V.ref a, V.ref nm, V.ref hl, V.int (((d' + 1 : Nat) : Int) - 1)] = _
        rw [show (((d' + 1 : Nat) : Int) - 1) = ((d' : Nat) : Int) by omega]
      have D2not : D2 ∉ [a] := by simpa using D2a
      have hv5 : H5 D2 = some (.lst vs) := k5 _ _ D2not hv4
      refine ⟨vs, hv5, small1000 (by rw [(DpAll.length hdp4), datas_map, List.length_map]; omega), (k4.trans k5).put0 hD2n, ?_, vs ++ [v], us4 ++ [t], upd_same, by rw [List.length_append, hlen4]; rfl, ?_, oks_append hok4 ⟨hok, trivial⟩, ?_, ?_⟩
      · refine (hd5.more ?_).put D2a
        show n1 + 1 + i * cost d' + cost d' ≤ n1 + 1 + (i + 1) * cost (d' + 1 - 1)
        rw [Nat.add_mul]; simp; omega
      · rw [datas_append]
        have old : DpAll K H5 vs (datas us4) := trsKp (ms := [a]) k5 (fun x hx => by rw [List.mem_singleton.mp hx]; exact hd4.loose) us4 hdp4
        exact DpAll.append (trsPut old hv5) (DpAll.one (Tr.put hv hv5))
      · rw [deeps_append]
        have : deeps [t] = t.deep := by simp [deeps]
        omega
      · rw [sizes_append, sizes_cons, sizes_nil, Nat.add_mul]
        show _ ≤ i * most d' + 1 * most d'
        have : sizes us4 ≤ i * most d' := hsz4
        omega
    · rintro H4 ⟨k4, hd4, vs, us4, hv4, hlen4, hdp4, hok4, hdeep4, hsz4⟩
      have hlenm : us4.length = m.toNat := by simpa using hlen4
      have hp4 : H4 p = some (.tup [.str f]) := k4 _ _ (by simpa using pa) upd_same
      have hvl : vs.length ≤ 3 := by rw [(DpAll.length hdp4), datas_map, List.length_map]; omega
      refine ⟨D2, vs, rfl, .inl ⟨SqL.of hv4, fun l hl4 => ?_⟩⟩
      have hpl : p ≠ l := ne_of_none hp4 hl4
      have cost0 : cost d = 2 + (if d = 0 then 0 else 3 * cost (d - 1)) := by cases d <;> simp [cost]
      have most0 : most d = 1 + (if d = 0 then 0 else 3 * most (d - 1)) := by cases d <;> simp [most]
      have em : m.toNat * cost (d - 1) ≤ (if d = 0 then 0 else 3 * cost (d - 1)) := by
        by_cases e : d = 0
        · rw [if_pos e]
          have : m = 0 := by rcases hmd with h | h <;> omega
          rw [this]; simp
        · rw [if_neg e]; exact Nat.mul_le_mul_right _ (by omega)
      have es : m.toNat * most (d - 1) ≤ (if d = 0 then 0 else 3 * most (d - 1)) := by
        by_cases e : d = 0
        · rw [if_pos e]
          have : m = 0 := by rcases hmd with h | h <;> omega
          rw [this]; simp
        · rw [if_neg e]; exact Nat.mul_le_mul_right _ (by omega)


      have hdl : Hand (n + cost d) (upd H4 l (.tup vs)) a := ((hd4.more (by omega)).new hl4)
      have kl : Kp [a] H (upd H4 l (.tup vs)) := ((k23.trans (Kp.new hp)).trans k4).trans (Kp.new hl4)
      have dpl : DpAll K (upd H4 l (.tup vs)) vs (datas us4) := trsNew hdp4 hl4
      have okT : (Tr.n f us4).ok zs := ⟨hnm.2.1, by omega, hok4⟩
      have deepT : (Tr.n f us4).deep ≤ d + 1 := Nat.succ_le_succ hdeep4
      have sizeT : (Tr.n f us4).size ≤ most d := by rw [size_n]; omega
      refine ⟨p, l, _, _, rfl, rfl, SqT.of (by rw [upd_ne hpl]; exact hp4), SqT.of upd_same, by simp, by show 1 + vs.length ≤ sizeLine; exact Nat.le_trans (by omega) (szLe (n := 4) rfl), fun e => ?_, fun e r hr4 => ?_⟩
      · refine q _ _ (.n f us4) kl hdl ?_ okT deepT sizeT
        rw [Tr.data]
        have hus : us4 = [] := by
          have := (DpAll.length hdp4)
          rw [e, datas_map, List.length_map] at this
          exact List.length_eq_zero_iff.mp this.symm
        subst hus
        exact .tup (SqT.of (by rw [upd_ne hpl]; exact hp4)) (.cons (.str f) .nil)
      · refine q _ _ (.n f us4) (kl.trans (Kp.new hr4)) (hdl.new hr4) ?_ okT deepT sizeT
        rw [Tr.data]
        exact .tup (SqT.of upd_same) (.cons (.str f) (trsNew dpl hr4))
  · have k1 : Kp [a] H (upd H e (.lst [])) := Kp.new he
    have hd1 := hh.new he (o := .lst [])
    generalize upd H e (.lst []) = H1 at k1 hd1 ⊢
    obtain ⟨n1, hn1, hn1'⟩ : ∃ n1, n1 = n ∧ n1 ≤ n + 1 := ⟨n, rfl, by omega⟩
    rw [← hn1] at hd1
    obtain ⟨ts, hT, hlen, ⟨t0, ht0, f0, hf0⟩, hall⟩ := hN
    have nat : ∀ x ∈ [a], ∀ xs, H x ≠ some (.tup xs) := fun x hx => by rw [List.mem_singleton.mp hx]; exact hh.noTup
    have nma : nm ≠ a := hh.neL hT (refNo ts)
    have hla : hl ≠ a := hh.neL hZ (strNo (f := id) zs)
    have hT1 : H1 nm = some (.lst (ts.map V.ref)) := k1 _ _ (by simpa using nma) hT
    have all1 : ∀ t ∈ ts, ∃ f m, NameAt H1 t f m := fun t ht => by
      obtain ⟨f, m, h⟩ := hall t ht
      exact ⟨f, m, h.keep k1 nat⟩
    have z1 : NameAt H1 t0 f0 0 := hf0.keep k1 nat
    refine ⟨_, rfl, _, rfl, _, rfl, ⟨_, SqL.of hT1⟩, fun D hD => ?_⟩
    refine lc_list (K := K) (a := nm) (xs := ts.map V.ref) (fun i H2 => Kp [] H1 H2 ∧ ∃ us : List Addr, H2 D = some (.lst (us.map V.ref)) ∧ us.length ≤ i ∧ (∀ u ∈ us, u ∈ ts) ∧
      (∀ u ∈ us, ∀ f m, NameAt H1 u f m → m = 0 ∨ 0 < d) ∧ (∀ j, j < i → ts[j]? = some t0 → t0 ∈ us)) ?_ ?_ ?_ ?_
    · exact ⟨Kp.new hD, [], upd_same, Nat.le_refl _, by simp, by simp, by intro j hj; omega⟩
    · rintro i H2 hi ⟨k2, _⟩; exact SqL.of (k2 _ _ (by simp) hT1)
    · rintro i x H2 hx ⟨k2, us, hD2, hul, hu1, hu2, hu3⟩
      rw [List.getElem?_map] at hx
      obtain ⟨t, ht, rfl⟩ := Option.map_eq_some_iff.mp hx
      have htm := List.mem_of_getElem? ht
      have hi : i < 5 := Nat.lt_of_lt_of_le (List.getElem?_eq_some_iff.mp ht).1 hlen
      obtain ⟨f, m, hnm⟩ := all1 t htm
      have hnm2 : H2 t = some (.tup [.str f, .int m]) := k2 _ _ (by simp) hnm.1
      have keepIt : m = 0 ∨ 0 < d → ∃ acc, H2 D = some (.lst acc) ∧ acc.length < sizeLine ∧ Kp [] H1 (upd H2 D (.lst (acc ++ [V.ref t]))) ∧ ∃ us : List Addr, upd H2 D (.lst (acc ++ [V.ref t])) D = some (.lst (us.map V.ref)) ∧ us.length ≤ i + 1 ∧ (∀ u ∈ us, u ∈ ts) ∧
          (∀ u ∈ us, ∀ f m, NameAt H1 u f m → m = 0 ∨ 0 < d) ∧ (∀ j, j < i + 1 → ts[j]? = some t0 → t0 ∈ us) := by
        intro hm
        refine ⟨_, hD2, small1000 (by rw [List.length_map]; omega), k2.put0 hD, us ++ [t], by rw [upd_same, List.map_append]; rfl, by rw [List.length_append, List.length_singleton]; omega, ?_, ?_, ?_⟩
        · intro u hu
          rcases List.mem_append.mp hu with h | h
          · exact hu1 u h
          · rw [List.mem_singleton.mp h]; exact htm
        · intro u hu f' m' h'
          rcases List.mem_append.mp hu with h | h
          · exact hu2 u h f' m' h'
          · rw [List.mem_singleton.mp h] at h'
            have e := h'.1
            rw [hnm.1] at e
            cases e
            exact hm
        · intro j hj e
          rcases Nat.lt_succ_iff_lt_or_eq.mp hj with h | rfl
          · exact List.mem_append_left _ (hu3 j h e)
          · rw [ht] at e; cases e; simp
      refine ⟨rfl, ?_⟩
      refine ⟨_, rfl, _, _, _, _, rfl, rfl, SqT.of hnm2, rfl, rfl, _, rfl, ite2 (fun c1 => ?_) (fun c1 => ?_)⟩
      · have m0 : m = 0 := by simpa using of_decide_eq_true c1
        exact ⟨_, rfl, keepIt (.inl m0)⟩
      · refine ⟨_, rfl, _, _, rfl, rfl, _, rfl, ?_⟩
        refine ite2 (fun c2 => ?_) (fun c2 => ?_)
        · have d0 : (0 : Int) < ((d : Nat) : Int) := of_decide_eq_true c2
          exact ⟨_, rfl, keepIt (.inr (by omega))⟩
        · have m0 : m ≠ 0 := by
            intro e; subst e; exact c1 (by simp)
          refine ⟨k2, us, hD2, by omega, hu1, hu2, fun j hj e => ?_⟩
          rcases Nat.lt_succ_iff_lt_or_eq.mp hj with h | rfl
          · exact hu3 j h e
          · rw [ht] at e; cases e
            have e := hnm.1
            rw [z1.1] at e
            cases e
            exact (m0 rfl).elim
    rintro H2 ⟨k2, us, hD2, hul, hu1, hu2, hu3⟩
    have hne : us ≠ [] := by
      obtain ⟨j, hj⟩ := List.getElem?_of_mem ht0
      have hjl : j < (ts.map V.ref).length := by rw [List.length_map]; exact (List.getElem?_eq_some_iff.mp hj).1
      have := hu3 j hjl hj
      intro e; rw [e] at this; cases this
    have hd2 := hd1.keep k2 (by simp)
    have hDa : D ≠ a := hd2.neL hD2 (refNo us)
    have hlD : hl ≠ D := ne_of_none (k1 _ _ (by simpa using hla) hZ) hD
    have nmD : nm ≠ D := ne_of_none hT1 hD
    refine ⟨a, .ref D, n1, rfl, hd2, by omega, .inl ⟨D, _, rfl, hDa, hD2, by simpa using hne, by rw [List.length_map] at hul ⊢; omega, fun j x H3 hx k3 hd3 => ?_⟩⟩
    rw [List.getElem?_map] at hx
    obtain ⟨u, hu, rfl⟩ := Option.map_eq_some_iff.mp hx
    have hum := List.mem_of_getElem? hu
    obtain ⟨f, m, hnm⟩ := all1 u (hu1 u hum)
    have hmd := hu2 u hum f m hnm
    have hnm2 : H2 u = some (.tup [.str f, .int m]) := k2 _ _ (by simp) hnm.1
    have hnm3 : H3 u = some (.tup [.str f, .int m]) := k3.tup (fun x hx => by rw [List.mem_singleton.mp hx]; exact hd2.noTup) hnm2
    have m0 := hnm.2.2.1
    have m3 := hnm.2.2.2
    refine ⟨_, _, rfl, SqT.of hnm3, rfl, _, _, rfl, _, _, rfl, rfl, ?_⟩
    refine ⟨_, rfl, szLe rfl, fun p hp => ?_⟩
    refine ⟨_, rfl, _, rfl, by omega, by omega, fun D2 hD2n => ?_⟩
    have k23 : Kp [a] H H3 := k1.trans ((k2.wide (by simp)).trans k3)
    have hN3 : Names H3 nm := Names.keep ⟨ts, hT, hlen, ⟨t0, ht0, f0, hf0⟩, hall⟩ k23 (by simpa using nma) nat
    have hZ3 : H3 hl = some (.lst (zs.map V.str)) := k23 _ _ (by simpa using hla) hZ
    have hdp := hd3.new hp (o := .tup [.str f])
    have pa : p ≠ a := (hd3.ne hp).symm
    have D2p : D2 ≠ p := fun e => by rw [e, upd_same] at hD2n; cases hD2n
    have hD23 : H3 D2 = none := Kp.free (ms := []) (Kp.new hp) hD2n (by simp)
    have D2a : D2 ≠ a := (hd3.ne hD23).symm
    have hlp : hl ≠ p := ne_of_none hZ3 hp
    have hlD2 : hl ≠ D2 := ne_of_none hZ3 hD23
    obtain ⟨ts3, hT3, rest3⟩ := id hN3
    have nmp : nm ≠ p := ne_of_none hT3 hp
    have nmD2 : nm ≠ D2 := ne_of_none hT3 hD23
    refine lc_range (lo := 0) (n := m.toNat) (fun i H4 => Kp [a] (upd H3 p (.tup [.str f])) H4 ∧ Hand (n1 + 1 + i * cost (d - 1)) H4 a ∧ ∃ (vs : List V) (us : List Tr), H4 D2 = some (.lst vs) ∧ us.length = i ∧ DpAll K H4 vs (datas us) ∧ oks zs us ∧ deeps us ≤ d ∧ sizes us ≤ i * most (d - 1)) ?_ ?_ ?_
    · refine ⟨Kp.new hD2n, (hdp.new hD2n).more (by omega), [], [], upd_same, rfl, .nil, trivial, Nat.zero_le _, by show 0 ≤ _; omega⟩
    · rintro i H4 hi ⟨k4, hd4, vs, us4, hv4, hlen4, hdp4, hok4, hdeep4, hsz4⟩
      have hm : i < m.toNat := by simpa using hi
      have dpos : 0 < d := by rcases hmd with h | h <;> omega
      obtain ⟨d', rfl⟩ : ∃ d', d = d' + 1 := ⟨d - 1, by omega⟩
      obtain rfl := hsp d' rfl
      have hN4 : Names H4 nm := Names.keep (ms := [a]) (Names.keep (ms := []) hN3 (Kp.new hp) (by simp) (by simp)) k4 (by simpa using nma) (fun x hx => by rw [List.mem_singleton.mp hx]; exact hdp.noTup)
      have hZ4 : H4 hl = some (.lst (zs.map V.str)) := k4 _ _ (by simpa using hla) (by rw [upd_ne hlp]; exact hZ3)
      have hi3 : i < 3 := by omega
      have cost1 : cost (d' + 1) = 2 + 3 * cost d' := rfl
      have ci : i * cost d' + cost d' ≤ 3 * cost d' := by
        have := Nat.mul_le_mul_right (cost d') (show i + 1 ≤ 3 by omega)
        rw [Nat.add_mul, Nat.one_mul] at this
        exact this
      refine ⟨rfl, ?_⟩
      refine ⟨_, rfl, _, rfl, _, rfl, _, rfl, _, _, rfl, rfl, ?_⟩
      refine ⟨a, nm, hl, zs, n1 + 1 + i * cost d', ?_, hd4, hN4, hZ4, hz4, hZN, by omega, by omega, fun v H5 t k5 hd5 hv hok hdeep hsize => ?_⟩
      · show [V.ref a, V.ref nm, V.ref hl, V.int (((d' + 1 : Nat) : Int) - 1)] = _
        rw [show (((d' + 1 : Nat) : Int) - 1) = ((d' : Nat) : Int) by omega]
      have D2not : D2 ∉ [a] := by simpa using D2a
      have hv5 : H5 D2 = some (.lst vs) := k5 _ _ D2not hv4
      refine ⟨vs, hv5, small1000 (by rw [(DpAll.length hdp4), datas_map, List.length_map]; omega), (k4.trans k5).put0 hD2n, ?_, vs ++ [v], us4 ++ [t], upd_same, by rw [List.length_append, hlen4]; rfl, ?_, oks_append hok4 ⟨hok, trivial⟩, ?_, ?_⟩
      · refine (hd5.more ?_).put D2a
        show n1 + 1 + i * cost d' + cost d' ≤ n1 + 1 + (i + 1) * cost (d' + 1 - 1)
        rw [Nat.add_mul]; simp; omega
      · rw [datas_append]
        have old : DpAll K H5 vs (datas us4) := trsKp (ms := [a]) k5 (fun x hx => by rw [List.mem_singleton.mp hx]; exact hd4.loose) us4 hdp4
        exact DpAll.append (trsPut old hv5) (DpAll.one (Tr.put hv hv5))
      · rw [deeps_append]
        have : deeps [t] = t.deep := by simp [deeps]
        omega
      · rw [sizes_append, sizes_cons, sizes_nil, Nat.add_mul]
        show _ ≤ i * most d' + 1 * most d'
        have : sizes us4 ≤ i * most d' := hsz4
        omega
    · rintro H4 ⟨k4, hd4, vs, us4, hv4, hlen4, hdp4, hok4, hdeep4, hsz4⟩
      have hlenm : us4.length = m.toNat := by simpa using hlen4
      have hp4 : H4 p = some (.tup [.str f]) := k4 _ _ (by simpa using pa) upd_same
      have hvl : vs.length ≤ 3 := by rw [(DpAll.length hdp4), datas_map, List.length_map]; omega
      refine ⟨D2, vs, rfl, .inl ⟨SqL.of hv4, fun l hl4 => ?_⟩⟩
      have hpl : p ≠ l := ne_of_none hp4 hl4
      have cost0 : cost d = 2 + (if d = 0 then 0 else 3 * cost (d - 1)) := by cases d <;> simp [cost]
      have most0 : most d = 1 + (if d = 0 then 0 else 3 * most (d - 1)) := by cases d <;> simp [most]
      have em : m.toNat * cost (d - 1) ≤ (if d = 0 then 0 else 3 * cost (d - 1)) := by
        by_cases e : d = 0
        · rw [if_pos e]
          have : m = 0 := by rcases hmd with h | h <;> omega
          rw [this]; simp
        · rw [if_neg e]; exact Nat.mul_le_mul_right _ (by omega)
      have es : m.toNat * most (d - 1) ≤ (if d = 0 then 0 else 3 * most (d - 1)) := by
        by_cases e : d = 0
        · rw [if_pos e]
          have : m = 0 := by rcases hmd with h | h <;> omega
          rw [this]; simp
        · rw [if_neg e]; exact Nat.mul_le_mul_right _ (by omega)


      have hdl : Hand (n + cost d) (upd H4 l (.tup vs)) a := ((hd4.more (by omega)).new hl4)
      have kl : Kp [a] H (upd H4 l (.tup vs)) := ((k23.trans (Kp.new hp)).trans k4).trans (Kp.new hl4)
      have dpl : DpAll K (upd H4 l (.tup vs)) vs (datas us4) := trsNew hdp4 hl4
      have okT : (Tr.n f us4).ok zs := ⟨hnm.2.1, by omega, hok4⟩
      have deepT : (Tr.n f us4).deep ≤ d + 1 := Nat.succ_le_succ hdeep4
      have sizeT : (Tr.n f us4).size ≤ most d := by rw [size_n]; omega
      refine ⟨p, l, _, _, rfl, rfl, SqT.of (by rw [upd_ne hpl]; exact hp4), SqT.of upd_same, by simp, by show 1 + vs.length ≤ sizeLine; exact Nat.le_trans (by omega) (szLe (n := 4) rfl), fun e => ?_, fun e r hr4 => ?_⟩
      · refine q _ _ (.n f us4) kl hdl ?_ okT deepT sizeT
        rw [Tr.data]
        have hus : us4 = [] := by
          have := (DpAll.length hdp4)
          rw [e, datas_map, List.length_map] at this
          exact List.length_eq_zero_iff.mp this.symm
        subst hus
        exact .tup (SqT.of (by rw [upd_ne hpl]; exact hp4)) (.cons (.str f) .nil)
      · refine q _ _ (.n f us4) (kl.trans (Kp.new hr4)) (hdl.new hr4) ?_ okT deepT sizeT
        rw [Tr.data]
        exact .tup (SqT.of upd_same) (.cons (.str f) (trsNew dpl hr4))
theorem h_tree (T : At K mg "_law_tree" s__law_tree) (d__law_take : Has P w K mg base 1 "_law_take" s__law_take ["hand", "many"] spTake)
    (d__law_of : Has P w K mg base 2 "_law_of" s__law_of ["hand", "some"] spOf) (mb_range : mg "range" = none) (mb_tuple : mg "tuple" = none) :
    ∀ d : Nat, Has P w K mg base (3 + d) "_law_tree" s__law_tree ["hand", "names", "holes", "deep"] (spTree K d)
  | 0 => h_tree1 0 T d__law_take d__law_of mb_range mb_tuple (fun _ _ _ _ => False) (fun d' e => by omega) (Has.none T po__law_tree fun _ _ _ _ h => h)
  | d + 1 => h_tree1 (d + 1) T d__law_take d__law_of mb_range mb_tuple (spTree K d) (fun d' e => by cases e; rfl)
      ((h_tree T d__law_take d__law_of mb_range mb_tuple d).up (by omega))
end
end Ah
namespace Ah
open PySem PySem.Spec PyProof.Rows L2
local macro_rules | `(tactic| walk_at "side") => `(tactic| first | omega | decide | (dsimp only; omega) | (unfold CDivN; omega) | (unfold CMul; omega) | (unfold CPow; omega) | (unfold CPow; decide) | (unfold CMulW; decide) | exact szLe rfl | rfl)
local macro_rules | `(tactic| walk_at "here") => `(tactic| first | assumption | exact upd_same)
local macro_rules | `(tactic| walk_at "go") => `(tactic| repeat (first
  | (refine ⟨_, rfl, ?_⟩)
  | (refine ⟨_, _, rfl, rfl, ?_⟩)
  | (refine ⟨_, _, _, _, rfl, rfl, SqL.of (by walk_at "here"), rfl, ?_⟩)
  | (refine ⟨_, _, _, _, rfl, rfl, (by walk_at "here"), rfl, ?_⟩)
  | (refine ⟨_, _, rfl, ?_⟩)
  | (refine And.intro (by walk_at "side") ?_)))

abbrev s_is_hole : Stmt := topS 1
abbrev N_is_hole : List Str := ["tree"]
theorem sc_is_hole : FnScope N_is_hole ["tree"] (defScope s_is_hole) :=
  ⟨rfl, rfl, rfl, by decide +kernel, rfl, by decide +kernel, by decide +kernel⟩
theorem po_is_hole : Posi "is_hole" s_is_hole ["tree"] := fun _ _ _ _ _ _ us hl => match us, hl with | [_], _ => rfl

def isH : Tr → Bool
  | .h _ => true
  | .n _ _ => false
def spIsHole (K : PySem.W.Frag) : Sp := fun vs H Q _ => ∃ (v : V) (t : Tr), vs = [v] ∧ Dp K H v t.data ∧ Q (.bl (isH t)) H
section
variable {P : Program} {w : World} {K : PySem.W.Frag} {mg : Str → Option Value} {base : Heap}
theorem h_is_hole (T : At K mg "is_hole" s_is_hole) (mb_type : mg "type" = none) (mb_str : mg "str" = none) :
    Has P w K mg base 1 "is_hole" s_is_hole ["tree"] (spIsHole K) := by
  refine T.has sc_is_hole po_is_hole (fun vs H Q E h => ?_) (fun f cdv A outer s H vs Q E hr h => ?_)
  · obtain ⟨a, n, rfl, _⟩ := h; rfl
  obtain ⟨v, t, rfl, hv, q⟩ := h
  have nd := sc_is_hole.nd
  refine ⟨_, (pss_one (ps_ret (pe_cmpR op_isTyB (pe_callTy call_type1 (by rfl) mb_type (by decide +kernel) (pa_cons (pv 0) pa_nil)) (pe_ty_str mb_str) (nomark _)))), ?_⟩
  cases t with
  | h z =>
    rw [Tr.data] at hv
    cases hv
    exact ⟨_, rfl, _, "str", rfl, .str z, _, _, rfl, rfl, q⟩
  | n f ps =>
    rw [Tr.data] at hv
    cases hv with
    | tup h1 h2 => exact ⟨_, rfl, _, "tuple", rfl, .tup h1, _, _, rfl, rfl, q⟩
abbrev s_trees_in : Stmt := topS 3
abbrev N_trees_in : List Str := ["tree", "found", "left", "part"]
theorem sc_trees_in : FnScope N_trees_in ["tree"] (defScope s_trees_in) :=
  ⟨rfl, rfl, rfl, by decide +kernel, rfl, by decide +kernel, by decide +kernel⟩
theorem po_trees_in : Posi "trees_in" s_trees_in ["tree"] := fun _ _ _ _ _ _ us hl => match us, hl with | [_], _ => rfl

def spTreesIn (K : PySem.W.Frag) : Sp := fun vs H Q _ => ∃ (v : V) (t : Tr), vs = [v] ∧ Dp K H v t.data ∧ t.size ≤ 1000 ∧
  ∀ (r : Addr) (H' : Hp) (us : List V), H r = none → Kp [] H H' → H' r = some (.lst us) → DpAll K H' us (datas t.pre) → Q (.ref r) H'
theorem h_trees_in (T : At K mg "trees_in" s_trees_in) (d_is_hole : Has P w K mg base 1 "is_hole" s_is_hole ["tree"] (spIsHole K)) :
    Has P w K mg base 2 "trees_in" s_trees_in ["tree"] (spTreesIn K) := by
  refine T.has sc_trees_in po_trees_in (fun vs H Q E h => ?_) (fun f cdv A outer s H vs Q E hr h => ?_)
  · obtain ⟨a, n, rfl, _⟩ := h; rfl
  obtain ⟨v, t, rfl, hv, hs, q⟩ := h
  have nd := sc_trees_in.nd
  refine ⟨_, (pss_cons (ps_set (i := 1) nd rfl (Or.inl rfl) (pe_lst pa_nil))
      (pss_cons (ps_set (i := 2) nd rfl (Or.inl rfl) (pe_lst (pa_cons (pv 0) pa_nil)))
      (pss_cons (ps_while PassesOwn.never (pt_truth (pv 2) (by intro _; rfl)) (pss_cons (ps_set (i := 3) nd rfl (Or.inl rfl) (pe_bm0 PySem.F.plainAttrs_list PySem.F.slot_list_pop PySem.F.type_list_pop mt_pop (pv 2)))
      (pss_cons (ps_expr (pe_bm PySem.F.plainAttrs_list PySem.F.slot_list_append PySem.F.type_list_append mt_append (pv 1) (pa_cons (pv 3) pa_nil)))
      (pss_one (ps_if (pt_not (pt_val (pe_callD d_is_hole (by omega) hr (pa_cons (pv 3) pa_nil)))) (pss_one (ps_expr (pe_bm PySem.F.plainAttrs_list PySem.F.slot_list_extend PySem.F.type_list_extend mt_extendT (pv 2) (pa_cons (pe_back0 (pv 3)) pa_nil)))) pss_nil)))))
      (pss_one (ps_ret (pv 1)))))), ?_⟩
  refine ⟨szLe rfl, fun F hF => ?_⟩
  refine ⟨_, rfl, szLe rfl, fun L hL => ?_⟩
  have nFL : F ≠ L := fun e => by rw [← e, upd_same] at hL; cases hL
  have hL0 : H L = none := Kp.free (ms := []) (Kp.new hF) hL (by simp)
  simp only [gName]
  show tSeq (tWhile _ _) _ _ _ _
  refine seqW (while_by (fun σ H1 => (∃ x3 : Option V, σ = [some v, some (.ref F), some (.ref L), x3]) ∧ Kp [] H H1 ∧ ∃ (us vs : List V) (done ts : List Tr), H1 F = some (.lst us) ∧ H1 L = some (.lst vs) ∧
      DpAll K H1 us (datas done) ∧ DpAll K H1 vs (datas ts) ∧ done ++ pres ts.reverse = t.pre)
    (fun _ H1 => match H1 F with | some (.lst us) => t.size - us.length | _ => 0) ?_ ?_ ?_)
  · refine ⟨⟨none, rfl⟩, (Kp.new hF).trans (Kp.new hL), [], [v], [], [t], by rw [upd_ne nFL, upd_same], upd_same, .nil, ?_, ?_⟩
    · exact DpAll.one (Tr.new (Tr.new hv hF) hL)
    · show t.pre ++ [] = t.pre; rw [List.append_nil]
  · rintro σ H1 ⟨⟨x3, rfl⟩, k1, us, vs, done, ts, hF1, hL1, hd1, hv1, htot⟩
    refine ⟨_, rfl, !vs.isEmpty, .inl ⟨vs, SqL.of hL1, rfl⟩, ?_⟩
    refine ite2 (fun c => ?_) (fun c => ?_)
    · have hne : ts ≠ [] := by
        rintro rfl
        rw [datas] at hv1
        cases hv1
        cases c
      obtain ⟨ts', u, rfl⟩ : ∃ ts' u, ts = ts' ++ [u] := ⟨ts.dropLast, ts.getLast hne, (List.dropLast_concat_getLast hne).symm⟩
      rw [datas_append] at hv1
      obtain ⟨vs', y, rfl, hv', hy⟩ := DpAll.snoc hv1
      have hdl : done.length + 1 ≤ t.size := by
        have e := congrArg List.length htot
        rw [List.length_append, List.reverse_append] at e
        have e2 : (pres ([u].reverse ++ ts'.reverse)).length = u.size + sizes ts'.reverse := by
          rw [pres_append, List.length_append]
          show (u.pre ++ []).length + _ = _
          rw [List.append_nil]; rfl
        have pos : 1 ≤ u.size := by cases u <;> (first | (rw [size_h]) | (rw [size_n])) <;> omega
        rw [e2] at e
        show _ ≤ t.pre.length
        omega
      have husl : us.length = done.length := by rw [DpAll.length hd1, datas_map, List.length_map]
      -- part = left.pop(), found.append(part)
      refine ⟨_, rfl, .inl ⟨rfl, _, SqL.of hL1⟩, L, _, y, rfl, rfl, hL1, by simp, ?_⟩
      have hF2 : upd H1 L (.lst (vs' ++ [y]).dropLast) F = some (.lst us) := by rw [upd_ne nFL]; exact hF1
      have hL2 : upd H1 L (.lst (vs' ++ [y]).dropLast) L = some (.lst vs') := by rw [upd_same, List.dropLast_concat]
      have hd2 : DpAll K (upd H1 L (.lst (vs' ++ [y]).dropLast)) us (datas done) := trsPut hd1 hL1
      have hv2 : DpAll K (upd H1 L (.lst (vs' ++ [y]).dropLast)) vs' (datas ts') := trsPut hv' hL1
      have hy2 : Dp K (upd H1 L (.lst (vs' ++ [y]).dropLast)) y u.data := Tr.put hy hL1
      have k2 : Kp [] H (upd H1 L (.lst (vs' ++ [y]).dropLast)) := k1.put0 hL0
      generalize upd H1 L (.lst (vs' ++ [y]).dropLast) = H2 at hF2 hL2 hd2 hv2 hy2 k2 ⊢
      refine ⟨_, rfl, .inl ⟨rfl, _, SqL.of hF2⟩, _, rfl, F, us, y, rfl, rfl, hF2, small1000 (by omega), ?_⟩
      have hF3 : upd H2 F (.lst (us ++ [y])) F = some (.lst (us ++ [y])) := upd_same
      have hL3 : upd H2 F (.lst (us ++ [y])) L = some (.lst vs') := by rw [upd_ne nFL.symm]; exact hL2
      have hd3 : DpAll K (upd H2 F (.lst (us ++ [y]))) (us ++ [y]) (datas (done ++ [u])) := by
        rw [datas_append]; exact DpAll.append (trsPut hd2 hF2) (DpAll.one (Tr.put hy2 hF2))
      have hv3 : DpAll K (upd H2 F (.lst (us ++ [y]))) vs' (datas ts') := trsPut hv2 hF2
      have hy3 : Dp K (upd H2 F (.lst (us ++ [y]))) y u.data := Tr.put hy2 hF2
      have k3 : Kp [] H (upd H2 F (.lst (us ++ [y]))) := k2.put0 hF
      generalize upd H2 F (.lst (us ++ [y])) = H3 at hF3 hL3 hd3 hv3 hy3 k3 ⊢
      have mu : ∀ H4 : Hp, H4 F = some (.lst (us ++ [y])) → (match H4 F with | some (.lst us) => t.size - us.length | _ => 0) < (match H1 F with | some (.lst us) => t.size - us.length | _ => 0) := by
        intro H4 e
        rw [e, hF1]
        show t.size - (us ++ [y]).length < t.size - us.length
        rw [List.length_append, List.length_singleton]
        omega
      refine ⟨_, rfl, y, u, rfl, hy3, _, rfl, ?_⟩
      cases u with
      | h z =>
        refine ⟨⟨⟨_, rfl⟩, k3, us ++ [y], vs', done ++ [.h z], ts', hF3, hL3, hd3, hv3, ?_⟩, mu _ hF3⟩
        rw [List.reverse_append] at htot
        rw [List.append_assoc, ← htot]; rfl
      | n f ps =>
        rw [Tr.data] at hy3
        cases hy3 with
        | @tup b _ _ h1 h2 =>
          cases h2 with
          | @cons _ ws _ _ h3 h4 =>
            refine ⟨_, rfl, .inl ⟨rfl, _, SqL.of hL3⟩, _, rfl, b, _, ws, rfl, h1, fun B hB => ?_⟩
            have hLB : L ≠ B := ne_of_none hL3 hB
            have hFB : F ≠ B := ne_of_none hF3 hB
            refine ⟨L, B, vs', ws.reverse, rfl, rfl, by rw [upd_ne hLB]; exact hL3, SqT.of upd_same, ?_, ?_⟩
            · refine Nat.le_trans ?_ (szLe (n := 1000) rfl)
              have l1 : vs'.length = ts'.length := by rw [DpAll.length hv2, datas_map, List.length_map]
              have l2 : ws.reverse.length = ps.length := by rw [List.length_reverse, DpAll.length h4, datas_map, List.length_map]
              have e := congrArg List.length htot
              rw [List.length_append, List.reverse_append] at e
              have e2 : (pres ([Tr.n f ps].reverse ++ ts'.reverse)).length = (sizes ps + 1) + sizes ts'.reverse := by
                rw [pres_append, List.length_append]
                show ((Tr.n f ps).pre ++ []).length + _ = _
                rw [List.append_nil]; rfl
              have le1 := sizes_ge ts'.reverse
              have le2 := sizes_ge ps
              rw [List.length_reverse] at le1
              have : t.pre.length = t.size := rfl
              omega
            · have hL4 : upd H3 B (.tup ws.reverse) L = some (.lst vs') := by rw [upd_ne hLB]; exact hL3
              refine ⟨⟨⟨_, rfl⟩, (k3.trans (Kp.new hB)).put0 hL0, us ++ [.ref b], vs' ++ ws.reverse, done ++ [.n f ps], ts' ++ ps.reverse, ?_, upd_same, ?_, ?_, ?_⟩, mu _ ?_⟩
              · rw [upd_ne nFL, upd_ne hFB]; exact hF3
              · exact trsPut (trsNew hd3 hB) hL4
              · rw [datas_append, datas_rev]
                exact DpAll.append (trsPut (trsNew hv3 hB) hL4) (by
                  have := DpAll.reverse (trsPut (o := .lst (vs' ++ ws.reverse)) (trsNew (o := .tup ws.reverse) h4 hB) hL4)
                  rw [← datas_rev] at this ⊢
                  exact this)
              · rw [List.reverse_append] at htot
                rw [List.reverse_append, List.reverse_reverse, pres_append, List.append_assoc, ← htot]
                show done ++ ([Tr.n f ps] ++ (pres ps ++ pres ts'.reverse)) = done ++ ((Tr.n f ps :: pres ps) ++ pres ts'.reverse)
                rfl
              · rw [upd_ne nFL, upd_ne hFB]; exact hF3
    · have hne : vs = [] := by simpa using c
      subst hne
      have hts : ts = [] := by
        have := DpAll.length hv1
        rw [datas_map, List.length_map] at this
        exact List.length_eq_zero_iff.mp this.symm
      subst hts
      refine ⟨_, rfl, q F H1 us hF k1 hF1 ?_⟩
      have e : done = t.pre := by rw [← htot]; show done = done ++ []; rw [List.append_nil]
      rw [← e]; exact hd1
  · rintro σ H1 Q1 Q2 hq ⟨v, h, k, ht, q⟩
    exact ⟨v, h, k, ht, hq _ _ q⟩
abbrev s_holes_in : Stmt := topS 4
abbrev N_holes_in : List Str := ["tree", "found", "part"]
theorem sc_holes_in : FnScope N_holes_in ["tree"] (defScope s_holes_in) :=
  ⟨rfl, rfl, rfl, by decide +kernel, rfl, by decide +kernel, by decide +kernel⟩
theorem po_holes_in : Posi "holes_in" s_holes_in ["tree"] := fun _ _ _ _ _ _ us hl => match us, hl with | [_], _ => rfl

def spHolesIn (K : PySem.W.Frag) : Sp := fun vs H Q _ => ∃ (v : V) (t : Tr), vs = [v] ∧ Dp K H v t.data ∧ t.size ≤ 1000 ∧
  ∀ (r : Addr) (H' : Hp), H r = none → Kp [] H H' → H' r = some (.tup ((hols t).map V.str)) → Q (.ref r) H'
theorem h_holes_in (T : At K mg "holes_in" s_holes_in) (d_trees_in : Has P w K mg base 2 "trees_in" s_trees_in ["tree"] (spTreesIn K))
    (d_is_hole : Has P w K mg base 1 "is_hole" s_is_hole ["tree"] (spIsHole K)) (mb_tuple : mg "tuple" = none) :
    Has P w K mg base 3 "holes_in" s_holes_in ["tree"] (spHolesIn K) := by
  refine T.has sc_holes_in po_holes_in (fun vs H Q E h => ?_) (fun f cdv A outer s H vs Q E hr h => ?_)
  · obtain ⟨a, n, rfl, _⟩ := h; rfl
  obtain ⟨v, t, rfl, hv, hs, q⟩ := h
  have nd := sc_holes_in.nd
  have hu := hu_of hr
  refine ⟨_, (pss_cons (ps_set (i := 1) nd rfl (Or.inl rfl) pe_dnewK)
      (pss_cons (ps_for PassesOwn.never rfl (pi_list (pe_callD d_trees_in (by omega) hr (pa_cons (pv 0) pa_nil))) (pg_name (i := 2) nd rfl (.inl rfl)) (pss_one (ps_if (pt_val (pe_callD d_is_hole (by omega) hr (pa_cons (pv 2) pa_nil))) (pss_one (ps_dput hu (pv 1) (pv 2) pe_bl rfl)) pss_nil)))
      (pss_one (ps_ret (pe_callTy (call_tupleD rfl) (by rfl) mb_tuple (by decide +kernel) (pa_cons (pv 1) pa_nil)))))), ?_⟩
  refine fun d hd => ?_
  refine ⟨_, rfl, v, t, rfl, Tr.new hv hd, hs, fun r H1 us hr1 k1 hus hdp => ?_⟩
  have hd1 : H1 d = some (.dK []) := k1 _ _ (by simp) upd_same
  have hrd : r ≠ d := fun e => by rw [e, upd_same] at hr1; cases hr1
  refine ⟨r, rfl, ⟨us, SqL.of hus⟩, ?_⟩
  refine for_list (K := K) (a := r) (xs := us) (fun i σ H2 => (∃ x2 : Option V, σ = [some v, some (.ref d), x2]) ∧ Kp [] H H2 ∧ H2 r = some (.lst us) ∧ DpAll K H2 us (datas t.pre) ∧
    H2 d = some (.dK (seen (uniq ((t.pre.take i).filterMap holeOf))))) ?_ ?_ ?_ ?_
  · exact ⟨⟨none, rfl⟩, (Kp.new hd).trans k1, hus, hdp, hd1⟩
  · rintro i σ H2 _ ⟨_, _, h, _⟩; exact SqL.of h
  · rintro i x σ H2 hx ⟨⟨x2, rfl⟩, k2, hus2, hdp2, hd2⟩
    obtain ⟨dd, hdd, hx2⟩ := DpAll.get hdp2 hx
    rw [datas_map, List.getElem?_map] at hdd
    obtain ⟨u, hu1, rfl⟩ := Option.map_eq_some_iff.mp hdd
    have hi : i < t.pre.length := (List.getElem?_eq_some_iff.mp hu1).1
    have et : t.pre.take (i + 1) = t.pre.take i ++ [u] := by rw [List.take_add_one, hu1]; rfl
    refine ⟨_, rfl, x, u, rfl, hx2, _, rfl, ?_⟩
    cases u with
    | n f ps =>
      refine ⟨⟨_, rfl⟩, k2, hus2, hdp2, ?_⟩
      rw [et, List.filterMap_append]
      show _ = some (HO.dK (seen (uniq (_ ++ []))))
      rw [List.append_nil]; exact hd2
    | h z =>
      rw [Tr.data] at hx2
      cases hx2
      have small : (seen (uniq ((t.pre.take i).filterMap holeOf))).length < sizeLine := by
        have l1 : (seen (uniq ((t.pre.take i).filterMap holeOf))).length ≤ (t.pre.take i).length := by
          unfold seen uniq
          rw [List.length_map]
          refine Nat.le_trans (uniq_len _ _) ?_
          rw [List.length_nil, Nat.zero_add]
          exact List.length_filterMap_le _ _
        rw [List.length_take] at l1
        have : t.pre.length ≤ 1000 := hs
        exact small1000 (by omega)
      refine ⟨_, rfl, _, rfl, d, _, rfl, DPut.k (k := Sum.inr z) hd2 small, ?_⟩
      refine ⟨⟨_, rfl⟩, k2.put0 hd, by rw [upd_ne hrd]; exact hus2, ?_, ?_⟩
      · refine trsKp (ms := [d]) ?_ ?_ t.pre hdp2
        · exact Kp.put (by simp)
        · intro m hm; rw [List.mem_singleton.mp hm]; exact .dK hd2
      · rw [upd_same, seen_put, et, List.filterMap_append]
        show _ = some (HO.dK (seen (uniq (_ ++ [z]))))
        rw [uniq_snoc]
  · rintro σ H2 ⟨⟨x2, rfl⟩, k2, hus2, hdp2, hd2⟩
    have hl : us.length = t.pre.length := by rw [DpAll.length hdp2, datas_map, List.length_map]
    rw [hl, List.take_length] at hd2
    refine ⟨_, rfl, d, _, rfl, hd2, fun p hp => ?_⟩
    refine q p _ (k2.free hp (by simp)) (k2.trans (Kp.new hp)) ?_
    rw [upd_same, seen_keys]; rfl
end
end Ah
namespace Ah
open PySem PySem.Spec PyProof.Rows L2
local macro_rules | `(tactic| walk_at "side") => `(tactic| first | omega | decide | (dsimp only; omega) | (unfold CDivN; omega) | (unfold CMul; omega) | (unfold CPow; omega) | (unfold CPow; decide) | (unfold CMulW; decide) | exact szLe rfl | rfl)
local macro_rules | `(tactic| walk_at "here") => `(tactic| first | assumption | exact upd_same)
local macro_rules | `(tactic| walk_at "go") => `(tactic| repeat (first
  | (refine ⟨_, rfl, ?_⟩)
  | (refine ⟨_, _, rfl, rfl, ?_⟩)
  | (refine ⟨_, _, _, _, rfl, rfl, SqL.of (by walk_at "here"), rfl, ?_⟩)
  | (refine ⟨_, _, _, _, rfl, rfl, (by walk_at "here"), rfl, ?_⟩)
  | (refine ⟨_, _, rfl, ?_⟩)
  | (refine And.intro (by walk_at "side") ?_)))

section
variable {P : Program} {w : World} {K : PySem.W.Frag} {mg : Str → Option Value} {base : Heap}
abbrev s_names_in : Stmt := topS 5
abbrev N_names_in : List Str := ["tree", "part"]
theorem sc_names_in : FnScope N_names_in ["tree"] (defScope s_names_in) :=
  ⟨rfl, rfl, rfl, by decide +kernel, rfl, by decide +kernel, by decide +kernel⟩
theorem po_names_in : Posi "names_in" s_names_in ["tree"] := fun _ _ _ _ _ _ us hl => match us, hl with | [_], _ => rfl

def spNamesIn (K : PySem.W.Frag) : Sp := fun vs H Q _ => ∃ (v : V) (t : Tr), vs = [v] ∧ Dp K H v t.data ∧ t.size ≤ 1000 ∧
  ∀ (r : Addr) (H' : Hp), H r = none → Kp [] H H' → H' r = some (.tup ((nams t).map V.str)) → Q (.ref r) H'
theorem h_names_in (T : At K mg "names_in" s_names_in) (d_trees_in : Has P w K mg base 2 "trees_in" s_trees_in ["tree"] (spTreesIn K))
    (d_is_hole : Has P w K mg base 1 "is_hole" s_is_hole ["tree"] (spIsHole K)) (mb_tuple : mg "tuple" = none) :
    Has P w K mg base 3 "names_in" s_names_in ["tree"] (spNamesIn K) := by
  refine T.has sc_names_in po_names_in (fun vs H Q E h => ?_) (fun f cdv A outer s H vs Q E hr h => ?_)
  · obtain ⟨a, n, rfl, _⟩ := h; rfl
  obtain ⟨v, t, rfl, hv, hs, q⟩ := h
  have nd := sc_names_in.nd
  refine ⟨_, (pss_one (ps_ret (pe_callTy call_tuple_of (by rfl) mb_tuple (by decide +kernel) (pa_cons (pe_lc (own := [("part", 1)]) (by rfl) nd (pi_list (pe_callD d_trees_in (by omega) hr (pa_cons (pv 0) pa_nil))) (blkOk_by (own := [("part", 1)]) (N := N_names_in) (sc := defScope s_names_in) (by decide +kernel)) (fun _ _ _ _ _ => (pg_name (i := 1) nd rfl (.inl rfl))) (fun _ _ _ _ _ => (pts_one (pt_not (pt_val (pe_callD d_is_hole (by omega) hr (pa_cons (pv 1) pa_nil)))))) (fun _ _ _ _ _ => (pe_ix (ixT K) (pv 1) pe_int (fun _ _ => rfl)))) pa_nil)))), ?_⟩
  refine ⟨_, rfl, v, t, rfl, hv, hs, fun r H1 us hr1 k1 hus hdp => ?_⟩
  refine ⟨r, rfl, ⟨us, SqL.of hus⟩, fun D hD => ?_⟩
  refine lc_list (K := K) (a := r) (xs := us) (fun i H2 => Kp [] H1 H2 ∧ H2 D = some (.lst (((t.pre.take i).filterMap nameOf).map V.str))) ?_ ?_ ?_ ?_
  · exact ⟨Kp.new hD, upd_same⟩
  · rintro i H2 _ ⟨k2, _⟩; exact SqL.of (k2 _ _ (by simp) hus)
  · rintro i x H2 hx ⟨k2, hD2⟩
    obtain ⟨dd, hdd, hx1⟩ := DpAll.get hdp hx
    rw [datas_map, List.getElem?_map] at hdd
    obtain ⟨u, hu1, rfl⟩ := Option.map_eq_some_iff.mp hdd
    have hx2 : Dp K H2 x u.data := Tr.kp (ms := []) k2 (fun m z => by cases z) u hx1
    have et : t.pre.take (i + 1) = t.pre.take i ++ [u] := by rw [List.take_add_one, hu1]; rfl
    refine ⟨rfl, ?_⟩
    refine ⟨_, rfl, x, u, rfl, hx2, _, rfl, ?_⟩
    cases u with
    | h z =>
      refine ⟨k2, ?_⟩
      rw [et, List.filterMap_append]
      show _ = some (HO.lst ((_ ++ []).map V.str))
      rw [List.append_nil]; exact hD2
    | n f ps =>
      rw [Tr.data] at hx2
      cases hx2 with
      | @tup b _ _ h1 h2 =>
        cases h2 with
        | @cons _ ws _ _ h3 h4 =>
          cases h3
          refine ⟨_, rfl, b, _, 0, _, rfl, rfl, h1, atI0, _, hD2, ?_, k2.put0 hD, ?_⟩
          · have l1 := List.length_filterMap_le nameOf (t.pre.take i)
            have : t.pre.length ≤ 1000 := hs
            rw [List.length_take] at l1
            exact small1000 (by rw [List.length_map]; omega)
          · rw [upd_same, et, List.filterMap_append, List.map_append]; rfl
  · rintro H2 ⟨k2, hD2⟩
    have hl : us.length = t.pre.length := by rw [DpAll.length hdp, datas_map, List.length_map]
    rw [hl, List.take_length] at hD2
    refine ⟨D, _, rfl, .inl ⟨SqL.of hD2, fun p hp => ?_⟩⟩
    have k12 := k1.trans k2
    exact q p _ (k12.free hp (by simp)) (k12.trans (Kp.new hp)) upd_same
abbrev s_line_of : Stmt := topS 2
abbrev N_line_of : List Str := ["full"]
theorem sc_line_of : FnScope N_line_of ["full"] (defScope s_line_of) :=
  ⟨rfl, rfl, rfl, by decide +kernel, rfl, by decide +kernel, by decide +kernel⟩
theorem po_line_of : Posi "line_of" s_line_of ["full"] := fun _ _ _ _ _ _ us hl => match us, hl with | [_], _ => rfl

def spLineOf : Sp := fun vs H Q _ => ∃ (l o : Str), vs = [.str (l ++ ("." : Str) ++ o)] ∧ Nm l ∧ Nm o ∧
  ∀ (H' : Hp), Kp [] H H' → Q (.str l) H'
theorem dotFree {z : Str} (h : Nm z) : 46 ∉ TL.tl z := fun hm => by
  have := (h.2.2 46 hm).1
  omega
theorem split_name {l o : Str} (hl : Nm l) (ho : Nm o) : Txt.split (l ++ ("." : Str) ++ o) "." = [l, o] := by
  have e : l ++ ("." : Str) ++ o = Txt.join "." [l, o] := by
    rw [TL.join_eq]
    apply TL.ext_tl
    rw [TL.tl_join, TL.tl_append, TL.tl_append]
    simp [TL.joinL]
  rw [e]
  refine TL.split_join (y := ".") (s := 46) (S := []) rfl (by decide +kernel) (by simp) ?_
  intro p hp
  simp only [List.mem_cons, List.not_mem_nil, or_false] at hp
  rcases hp with rfl | rfl
  · exact dotFree hl
  · exact dotFree ho
theorem h_line_of (T : At K mg "line_of" s_line_of) : Has P w K mg base 1 "line_of" s_line_of ["full"] spLineOf := by
  refine T.has sc_line_of po_line_of (fun vs H Q E h => ?_) (fun f cdv A outer s H vs Q E hr h => ?_)
  · obtain ⟨a, n, rfl, _⟩ := h; rfl
  obtain ⟨l, o, rfl, hl, ho, q⟩ := h
  have nd := sc_line_of.nd
  refine ⟨_, (pss_one (ps_ret (pe_ix ix_list (pe_split (pv 0) pe_str) pe_int (fun _ _ => rfl)))), ?_⟩
  have hlen : (l ++ ("." : Str) ++ o).length + 2 ≤ sizeLine := by
    have := Full.length ⟨l, o, hl, ho, rfl⟩
    exact Nat.le_trans (by omega) (szLe (n := 19) rfl)
  refine ⟨_, rfl, ⟨_, rfl⟩, _, _, rfl, rfl, rfl, hlen, fun p hp => ?_⟩
  rw [split_name hl ho]
  exact ⟨p, _, 0, _, rfl, rfl, SqL.of upd_same, rfl, q _ (Kp.new hp)⟩
end
end Ah
namespace Ah
open PySem PySem.Spec PyProof.Rows L2
local macro_rules | `(tactic| walk_at "side") => `(tactic| first | omega | decide | (dsimp only; omega) | (unfold CDivN; omega) | (unfold CMul; omega) | (unfold CPow; omega) | (unfold CPow; decide) | (unfold CMulW; decide) | exact szLe rfl | rfl)
local macro_rules | `(tactic| walk_at "here") => `(tactic| first | assumption | exact upd_same)
local macro_rules | `(tactic| walk_at "go") => `(tactic| repeat (first
  | (refine ⟨_, rfl, ?_⟩)
  | (refine ⟨_, _, rfl, rfl, ?_⟩)
  | (refine ⟨_, _, _, _, rfl, rfl, SqL.of (by walk_at "here"), rfl, ?_⟩)
  | (refine ⟨_, _, _, _, rfl, rfl, (by walk_at "here"), rfl, ?_⟩)
  | (refine ⟨_, _, rfl, ?_⟩)
  | (refine And.intro (by walk_at "side") ?_)))

abbrev s__law_symbols : Stmt := topS 13
abbrev N__law_symbols : List Str := ["shape", "found", "limb"]
theorem sc__law_symbols : FnScope N__law_symbols ["shape"] (defScope s__law_symbols) :=
  ⟨rfl, rfl, rfl, by decide +kernel, rfl, by decide +kernel, by decide +kernel⟩
theorem po__law_symbols : Posi "_law_symbols" s__law_symbols ["shape"] := fun _ _ _ _ _ _ us hl => match us, hl with | [_], _ => rfl

def spSymbols (K : PySem.W.Frag) (d : Nat) : Sp := fun vs H Q _ => ∃ (v : V) (t : Tr), vs = [v] ∧ Dp K H v t.data ∧ t.deep ≤ d ∧ t.size ≤ 1000 ∧
  ∀ (r : Addr) (H' : Hp), H r = none → Kp [] H H' → H' r = some (.lst ((syms t).map V.str)) → Q (.ref r) H'
section
variable {P : Program} {w : World} {K : PySem.W.Frag} {mg : Str → Option Value} {base : Heap}
theorem h_symbols1 (d : Nat) (T : At K mg "_law_symbols" s__law_symbols) (mb_isinstance : mg "isinstance" = none) (mb_str : mg "str" = none) (sp : Sp)
    (hsp : ∀ d', d = d' + 1 → sp = spSymbols K d')
    (d__law_symbols : Has P w K mg base d "_law_symbols" s__law_symbols ["shape"] sp) :
    Has P w K mg base (d + 1) "_law_symbols" s__law_symbols ["shape"] (spSymbols K d) := by
  refine T.has sc__law_symbols po__law_symbols (fun vs H Q E h => ?_) (fun f cdv A outer s H vs Q E hr h => ?_)
  · obtain ⟨v, t, rfl, _⟩ := h; rfl
  obtain ⟨v, t, rfl, hv, hd, hs, q⟩ := h
  have nd := sc__law_symbols.nd
  refine ⟨_, (pss_cons (ps_if (pt_val (pe_callB call_isi (by rfl) mb_isinstance (by decide +kernel) (pa_cons (pv 0) (pa_cons (pe_ty_str mb_str) pa_nil)))) (pss_one (ps_ret (pe_lst (pa_cons (pv 0) pa_nil)))) pss_nil)
      (pss_cons (ps_set (i := 1) nd rfl (Or.inl rfl) (pe_lst (pa_cons (pe_ix (ixT K) (pv 0) pe_int (fun _ _ => rfl)) pa_nil)))
      (pss_cons (ps_for PassesOwn.never rfl (pi_tup (pe_slice sl_tup (pv 0) (po_some pe_int) po_none)) (pg_name (i := 2) nd rfl (.inl rfl)) (pss_one (ps_expr (pe_bm PySem.F.plainAttrs_list PySem.F.slot_list_extend PySem.F.type_list_extend mt_extend (pv 1) (pa_cons (pe_callD d__law_symbols (by omega) hr (pa_cons (pv 2) pa_nil)) pa_nil)))))
      (pss_one (ps_ret (pv 1)))))), ?_⟩
  cases t with
  | h z =>
    rw [Tr.data] at hv
    cases hv
    refine ⟨_, rfl, _, _, _, _, true, rfl, .ty "str", .base (.str z), kStr, _, rfl, ?_⟩
    exact ⟨_, rfl, szLe rfl, fun p hp => q p _ hp (Kp.new hp) upd_same⟩
  | n f ps =>
    obtain ⟨d', rfl⟩ : ∃ d', d = d' + 1 := ⟨d - 1, by have : deeps ps + 1 ≤ d := hd; omega⟩
    obtain rfl := hsp d' rfl
    rw [Tr.data] at hv
    cases hv with
    | @tup b _ _ h1 h2 =>
      cases h2 with
      | @cons _ ws _ _ h3 h4 =>
        cases h3
        refine ⟨_, rfl, _, _, _, _, false, rfl, .ty "str", tyTup h1, kTup, _, rfl, ?_⟩
        refine ⟨_, rfl, b, _, 0, _, rfl, rfl, h1, atI0, szLe rfl, fun F hF => ?_⟩
        have h1' : SqT K (upd H F (.lst [.str f])) b (.str f :: ws) := SqT.kp (ms := []) (Kp.new hF) (fun m z => by cases z) h1
        refine ⟨_, rfl, _, rfl, b, _, rfl, h1', cut1ne _ _, fun B hB => ?_⟩
        rw [cut1]
        have hFB : F ≠ B := fun e => by rw [← e, upd_same] at hB; cases hB
        refine ⟨B, rfl, ⟨ws, SqT.of upd_same⟩, ?_⟩
        refine for_tup (K := K) (a := B) (xs := ws) (fun i σ H2 => (∃ x2 : Option V, σ = [some (.ref b), some (.ref F), x2]) ∧ Kp [] H H2 ∧ H2 B = some (.tup ws) ∧
          H2 F = some (.lst ((f :: (pres (ps.take i)).map symOf).map V.str))) ?_ ?_ ?_ ?_
        · exact ⟨⟨none, rfl⟩, (Kp.new hF).trans (Kp.new hB), upd_same, by rw [upd_ne hFB, upd_same]; rfl⟩
        · rintro i σ H2 _ ⟨_, _, h, _⟩; exact SqT.of h
        · rintro i x σ H2 hx ⟨⟨x2, rfl⟩, k2, hB2, hF2⟩
          obtain ⟨dd, hdd, hx1⟩ := DpAll.get h4 hx
          rw [datas_map, List.getElem?_map] at hdd
          obtain ⟨u, hu1, rfl⟩ := Option.map_eq_some_iff.mp hdd
          have hx2 : Dp K H2 x u.data := Tr.kp (ms := []) k2 (fun m z => by cases z) u hx1
          have um := List.mem_of_getElem? hu1
          have hsz : u.size ≤ sizes ps := size_le um
          have hdp : u.deep ≤ deeps ps := deep_le um
          have e1 : (Tr.n f ps).size = sizes ps + 1 := rfl
          have e2 : (Tr.n f ps).deep = deeps ps + 1 := rfl
          refine ⟨_, rfl, .inl ⟨rfl, _, SqL.of hF2⟩, _, rfl, x, u, rfl, hx2, by omega, by omega, fun r H3 hr3 k3 hr' => ?_⟩
          have hF3 : H3 F = some (.lst ((f :: (pres (ps.take i)).map symOf).map V.str)) := k3 _ _ (by simp) hF2
          have hB3 : H3 B = some (.tup ws) := k3 _ _ (by simp) hB2
          have hFr : F ≠ r := ne_of_none hF2 hr3
          have ht : ps.take (i + 1) = ps.take i ++ [u] := by rw [List.take_add_one, hu1]; rfl
          have tot : (f :: (pres (ps.take (i + 1))).map symOf) = (f :: (pres (ps.take i)).map symOf) ++ syms u := by
            rw [ht, pres_append, List.map_append]
            show f :: (_ ++ (u.pre ++ []).map symOf) = _
            rw [List.append_nil]; rfl
          have le : ((f :: (pres (ps.take (i + 1))).map symOf)).length ≤ 1000 := by
            rw [List.length_cons, List.length_map]
            have := sizes_take ps (i + 1)
            show sizes (ps.take (i + 1)) + 1 ≤ 1000
            omega
          refine ⟨F, r, _, _, rfl, rfl, hF3, hr', ?_, ?_⟩
          · rw [← List.length_append, ← List.map_append, ← tot, List.length_map]
            exact Nat.le_trans le (szLe (n := 1000) rfl)
          · refine ⟨⟨_, rfl⟩, (k2.trans k3).put0 hF, by rw [upd_ne hFB.symm]; exact hB3, ?_⟩
            rw [upd_same, tot, List.map_append]
        · rintro σ H2 ⟨⟨x2, rfl⟩, k2, hB2, hF2⟩
          have hl : ws.length = ps.length := by rw [DpAll.length h4, datas_map, List.length_map]
          rw [hl, List.take_length] at hF2
          exact ⟨_, rfl, q F H2 hF k2 hF2⟩
theorem h_symbols (T : At K mg "_law_symbols" s__law_symbols) (mb_isinstance : mg "isinstance" = none) (mb_str : mg "str" = none) :
    ∀ d : Nat, Has P w K mg base (d + 1) "_law_symbols" s__law_symbols ["shape"] (spSymbols K d)
  | 0 => h_symbols1 0 T mb_isinstance mb_str (fun _ _ _ _ => False) (fun d' e => by omega) (Has.none T po__law_symbols fun _ _ _ _ h => h)
  | d + 1 => h_symbols1 (d + 1) T mb_isinstance mb_str (spSymbols K d) (fun d' e => by cases e; rfl) (h_symbols T mb_isinstance mb_str d)
abbrev s__law_holes : Stmt := topS 14
abbrev N__law_holes : List Str := ["shape", "found", "symbol"]
theorem sc__law_holes : FnScope N__law_holes ["shape"] (defScope s__law_holes) :=
  ⟨rfl, rfl, rfl, by decide +kernel, rfl, by decide +kernel, by decide +kernel⟩
theorem po__law_holes : Posi "_law_holes" s__law_holes ["shape"] := fun _ _ _ _ _ _ us hl => match us, hl with | [_], _ => rfl

def spHoles (K : PySem.W.Frag) : Sp := fun vs H Q _ => ∃ (v : V) (t : Tr) (zs : List Str), vs = [v] ∧ Dp K H v t.data ∧ t.ok zs ∧ (∀ z ∈ zs, Nm z) ∧ t.deep ≤ 40 ∧ t.size ≤ 1000 ∧
  ∀ (r : Addr) (H' : Hp), H r = none → Kp [] H H' → H' r = some (.lst ((hols t).map V.str)) → Q (.ref r) H'
theorem h_holes (T : At K mg "_law_holes" s__law_holes) (d__law_symbols : Has P w K mg base 41 "_law_symbols" s__law_symbols ["shape"] (spSymbols K 40)) :
    Has P w K mg base 42 "_law_holes" s__law_holes ["shape"] (spHoles K) := by
  refine T.has sc__law_holes po__law_holes (fun vs H Q E h => ?_) (fun f cdv A outer s H vs Q E hr h => ?_)
  · obtain ⟨v, t, zs, rfl, _⟩ := h; rfl
  obtain ⟨v, t, zs, rfl, hv, hok, hz, hd, hs, q⟩ := h
  have nd := sc__law_holes.nd
  refine ⟨_, (pss_cons (ps_set (i := 1) nd rfl (Or.inl rfl) (pe_lst pa_nil))
      (pss_cons (ps_for PassesOwn.never rfl (pi_list (pe_callD d__law_symbols (by omega) hr (pa_cons (pv 0) pa_nil))) (pg_name (i := 2) nd rfl (.inl rfl)) (pss_one (ps_if (PW.pt (pw_and (pt_cmpR op_notIn_sign pe_str (pv 2) rfl) (pw_and1 (pt_cmpR op_notIn_seq (pv 2) (pv 1) rfl)))) (pss_one (ps_expr (pe_bm PySem.F.plainAttrs_list PySem.F.slot_list_append PySem.F.type_list_append mt_append (pv 1) (pa_cons (pv 2) pa_nil)))) pss_nil)))
      (pss_one (ps_ret (pv 1))))), ?_⟩
  refine ⟨szLe rfl, fun F hF => ?_⟩
  refine ⟨_, rfl, v, t, rfl, Tr.new hv hF, hd, hs, fun r H1 hr1 k1 hr2 => ?_⟩
  have hF1 : H1 F = some (.lst []) := k1 _ _ (by simp) upd_same
  have hFr : F ≠ r := fun e => by rw [← e, upd_same] at hr1; cases hr1
  refine ⟨r, rfl, ⟨_, SqL.of hr2⟩, ?_⟩
  refine for_list (K := K) (a := r) (xs := (syms t).map V.str) (fun i σ H2 => (∃ x2 : Option V, σ = [some v, some (.ref F), x2]) ∧ Kp [] H H2 ∧ H2 r = some (.lst ((syms t).map V.str)) ∧
    H2 F = some (.lst ((uniq (((syms t).take i).filter fun s => decide (46 ∉ s.cps.toList))).map V.str))) ?_ ?_ ?_ ?_
  · exact ⟨⟨none, rfl⟩, (Kp.new hF).trans k1, hr2, hF1⟩
  · rintro i σ H2 _ ⟨_, _, h, _⟩; exact SqL.of h
  · rintro i x σ H2 hx ⟨⟨x2, rfl⟩, k2, hr3, hF2⟩
    rw [List.getElem?_map] at hx
    obtain ⟨y, hy, rfl⟩ := Option.map_eq_some_iff.mp hx
    have ht : (syms t).take (i + 1) = (syms t).take i ++ [y] := by rw [List.take_add_one, hy]; rfl
    refine ⟨_, rfl, 46, y, by rw [dotCode], rfl, _, rfl, ?_⟩
    by_cases hm : 46 ∈ y.cps.toList
    · rw [decide_eq_true hm]
      refine ⟨⟨_, rfl⟩, k2, hr3, ?_⟩
      rw [ht, List.filter_append]
      have e : [y].filter (fun s => decide (46 ∉ s.cps.toList)) = [] := by rw [List.filter_cons, if_neg (fun z => (of_decide_eq_true z) hm)]; rfl
      rw [e, List.append_nil]; exact hF2
    · rw [decide_eq_false hm]
      have e : [y].filter (fun s => decide (46 ∉ s.cps.toList)) = [y] := by rw [List.filter_cons, if_pos (decide_eq_true hm)]; rfl
      refine ⟨_, rfl, _, rfl, F, _, rfl, .inl (SqL.of hF2), rfl, flatStrs _, _, rfl, ?_⟩
      rw [inStrs]
      by_cases hin : y ∈ uniq (((syms t).take i).filter fun s => decide (46 ∉ s.cps.toList))
      · rw [decide_eq_true hin]
        refine ⟨⟨_, rfl⟩, k2, hr3, ?_⟩
        rw [ht, List.filter_append, e, uniq_snoc, addNew, if_pos hin]; exact hF2
      · rw [decide_eq_false hin]
        refine ⟨_, rfl, .inl ⟨rfl, _, SqL.of hF2⟩, _, rfl, F, _, _, rfl, rfl, hF2, ?_, ⟨_, rfl⟩, k2.put0 hF, by rw [upd_ne hFr.symm]; exact hr3, ?_⟩
        · rw [List.length_map]
          have l1 := uniq_len (((syms t).take i).filter fun s => decide (46 ∉ s.cps.toList)) []
          have l2 := List.length_filter_le (fun s : Str => decide (46 ∉ s.cps.toList)) ((syms t).take i)
          have l3 : (syms t).length = t.size := List.length_map _
          rw [List.length_take] at l2
          rw [List.length_nil] at l1
          exact small1000 (Nat.le_trans l1 (by omega))
        · rw [upd_same, ht, List.filter_append, e, uniq_snoc, addNew, if_neg hin, List.map_append]; rfl
  · rintro σ H2 ⟨⟨x2, rfl⟩, k2, hr3, hF2⟩
    rw [List.length_map, List.take_length] at hF2
    have e := (symHole hz (fun u hu => Tr.sub t hok u hu)).1
    refine ⟨_, rfl, q F H2 hF k2 ?_⟩
    rw [hF2]
    show some (HO.lst ((uniq ((t.pre.map symOf).filter _)).map V.str)) = _
    rw [e]; rfl
end
end Ah
namespace Ah
open PySem PySem.Spec PyProof.Rows L2
local macro_rules | `(tactic| walk_at "side") => `(tactic| first | omega | decide | (dsimp only; omega) | (unfold CDivN; omega) | (unfold CMul; omega) | (unfold CPow; omega) | (unfold CPow; decide) | (unfold CMulW; decide) | exact szLe rfl | rfl)
local macro_rules | `(tactic| walk_at "here") => `(tactic| first | assumption | exact upd_same)
local macro_rules | `(tactic| walk_at "go") => `(tactic| repeat (first
  | (refine ⟨_, rfl, ?_⟩)
  | (refine ⟨_, _, rfl, rfl, ?_⟩)
  | (refine ⟨_, _, _, _, rfl, rfl, SqL.of (by walk_at "here"), rfl, ?_⟩)
  | (refine ⟨_, _, _, _, rfl, rfl, (by walk_at "here"), rfl, ?_⟩)
  | (refine ⟨_, _, rfl, ?_⟩)
  | (refine And.intro (by walk_at "side") ?_)))

theorem kw_holes_in : Keyw "holes_in" s_holes_in ["tree"] ["tree"] id := fun _ _ _ _ _ _ ws hl => match ws, hl with | [_], _ => rfl
theorem kw_names_in : Keyw "names_in" s_names_in ["tree"] ["tree"] id := fun _ _ _ _ _ _ ws hl => match ws, hl with | [_], _ => rfl
theorem kw_line_of : Keyw "line_of" s_line_of ["full"] ["full"] id := fun _ _ _ _ _ _ ws hl => match ws, hl with | [_], _ => rfl

abbrev s__law_right : Stmt := topS 15
abbrev N__law_right : List Str := ["hand", "names", "turn", "shape", "held", "symbols", "fulls", "symbol", "wording", "line"]
theorem sc__law_right : FnScope N__law_right ["hand"] (defScope s__law_right) :=
  ⟨rfl, rfl, rfl, by decide +kernel, rfl, by decide +kernel, by decide +kernel⟩
theorem po__law_right : Posi "_law_right" s__law_right ["hand"] := fun _ _ _ _ _ _ us hl => match us, hl with | [_], _ => rfl

section
variable {P : Program} {w : World} {K : PySem.W.Frag} {mg : Str → Option Value} {base : Heap}
theorem cost_le {d : Nat} (h : d ≤ 3) : cost d ≤ 80 ∧ most d ≤ 40 := by
  have : d = 0 ∨ d = 1 ∨ d = 2 ∨ d = 3 := by omega
  rcases this with rfl | rfl | rfl | rfl <;> decide
theorem h_right (T : At K mg "_law_right" s__law_right) (d__law_take : Has P w K mg base 1 "_law_take" s__law_take ["hand", "many"] spTake)
    (d__law_words : Has P w K mg base 3 "_law_words" s__law_words ["hand"] spWords)
    (d__law_called : Has P w K mg base 3 "_law_called" s__law_called ["hand"] spCalled)
    (d__law_tree : Has P w K mg base 6 "_law_tree" s__law_tree ["hand", "names", "holes", "deep"] (fun vs H Q E => ∃ d, d ≤ 3 ∧ spTree K d vs H Q E))
    (d__law_symbols : Has P w K mg base 41 "_law_symbols" s__law_symbols ["shape"] (spSymbols K 40))
    (d__law_holes : Has P w K mg base 42 "_law_holes" s__law_holes ["shape"] (spHoles K))
    (d_holes_in : Has P w K mg base 3 "holes_in" s_holes_in ["tree"] (spHolesIn K))
    (d_names_in : Has P w K mg base 3 "names_in" s_names_in ["tree"] (spNamesIn K))
    (d_line_of : Has P w K mg base 1 "line_of" s_line_of ["full"] spLineOf)
    (mb_range : mg "range" = none) (mb_tuple : mg "tuple" = none) (mb_repr : mg "repr" = none) :
    HasG P w K mg base 44 "_law_right" s__law_right ["hand"] spRight := by
  refine T.hasG sc__law_right po__law_right (fun vs H Q E h => ?_) (fun f cdv A outer s H vs Q E hG hr h => ?_)
  · obtain ⟨a, rfl, _⟩ := h; rfl
  obtain ⟨a, rfl, hh, q⟩ := h
  have nd := sc__law_right.nd
  refine ⟨_, (pss_cons (ps_set (i := 1) nd rfl (Or.inl rfl) (pe_callD d__law_words (by omega) hr (pa_cons (pv 0) pa_nil)))
      (pss_cons (ps_for PassesOwn.never rfl (pi_range1 (by rfl) mb_range (pa_cons pe_int pa_nil)) (pg_name (i := 2) nd rfl (.inl rfl)) (pss_cons (ps_set (i := 3) nd rfl (Or.inl rfl) (pe_callD d__law_tree (by omega) hr (pa_cons (pv 0) (pa_cons (pv 1) (pa_cons (pe_ix ix_list (pe_lst (pa_cons (pe_callD d__law_called (by omega) hr (pa_cons (pv 0) pa_nil)) (pa_cons (pe_lst pa_nil) pa_nil))) (pe_op op_fdivN (pe_callD d__law_take (by omega) hr (pa_cons (pv 0) (pa_cons pe_int pa_nil))) pe_int) (fun _ _ => rfl)) (pa_cons (pe_callD d__law_take (by omega) hr (pa_cons (pv 0) (pa_cons pe_int pa_nil))) pa_nil))))))
      (pss_cons (ps_par (i := 4) (j := 5) (by rfl) nd rfl rfl (by decide) rfl rfl (pa_cons (pe_callB (call_reprD hG hr.units) (by rfl) mb_repr (by decide +kernel) (pa_cons (pv 3) pa_nil)) (pa_cons (pe_callD d__law_symbols (by omega) hr (pa_cons (pv 3) pa_nil)) pa_nil)) (by rfl))
      (pss_cons (ps_setLc (i := 6) (own := [("symbol", 7)]) (by rfl) nd rfl rfl (sw_true rfl rfl rfl (by decide +kernel)) (pi_list (pv 5)) (blkOk_by (own := [("symbol", 7)]) (N := N__law_right) (sc := defScope s__law_right) (by decide +kernel)) (fun _ _ _ _ _ => (pg_name (i := 7) nd rfl (.inl rfl))) (fun _ _ _ _ _ => (pts_one (pt_cmpR op_in_sign pe_str (pv 7) rfl))) (fun _ _ _ _ _ => (pv 7)))
      (pss_cons (ps_if (pt_cmpR op_ne (pe_callB (call_reprD hG hr.units) (by rfl) mb_repr (by decide +kernel) (pa_cons (pe_lst (pa_cons (pe_callD d_holes_in (by omega) hr (pa_cons (pv 3) pa_nil)) (pa_cons (pe_callD0 id d_holes_in kw_holes_in rel1 (by omega) hr (pk_cons (pv 3) pk_nil)) pa_nil))) pa_nil)) (pe_callB (call_reprD hG hr.units) (by rfl) mb_repr (by decide +kernel) (pa_cons (pe_op op_rep (pe_lst (pa_cons (pe_callTy call_tuple_of (by rfl) mb_tuple (by decide +kernel) (pa_cons (pe_callD d__law_holes (by omega) hr (pa_cons (pv 3) pa_nil)) pa_nil)) pa_nil)) pe_int) pa_nil)) (nomark _)) (pss_one (ps_ret pe_bl)) pss_nil)
      (pss_cons (ps_if (PW.pt (pw_or (pt_cmpR op_ne (pe_callB (call_reprD hG hr.units) (by rfl) mb_repr (by decide +kernel) (pa_cons (pe_lst (pa_cons (pe_callD d_names_in (by omega) hr (pa_cons (pv 3) pa_nil)) (pa_cons (pe_callD0 id d_names_in kw_names_in rel1 (by omega) hr (pk_cons (pv 3) pk_nil)) pa_nil))) pa_nil)) (pe_callB (call_reprD hG hr.units) (by rfl) mb_repr (by decide +kernel) (pa_cons (pe_op op_rep (pe_lst (pa_cons (pe_callTy call_tuple_of (by rfl) mb_tuple (by decide +kernel) (pa_cons (pv 6) pa_nil)) pa_nil)) pe_int) pa_nil)) (nomark _)) (pw_or1 (pt_cmpR op_ne (pe_callB (call_reprD hG hr.units) (by rfl) mb_repr (by decide +kernel) (pa_cons (pv 3) pa_nil)) (pv 4) (nomark _))))) (pss_one (ps_ret pe_bl)) pss_nil)
      (pss_one (ps_for PassesOwn.never rfl (pi_list (pv 6)) (pg_name (i := 8) nd rfl (.inl rfl)) (pss_cons (ps_set (i := 9) nd rfl (Or.inl rfl) (pe_slice sl_str (pv 8) po_none (po_some (pe_m1 PySem.F.slot_str_find PySem.F.type_str_find mt_find (pv 8) pe_str))))
      (pss_one (ps_if (pt_cmpR op_ne (pe_callB (call_reprD hG hr.units) (by rfl) mb_repr (by decide +kernel) (pa_cons (pe_lst (pa_cons (pe_callD d_line_of (by omega) hr (pa_cons (pv 8) pa_nil)) (pa_cons (pe_callD0 id d_line_of kw_line_of rel1 (by omega) hr (pk_cons (pv 8) pk_nil)) pa_nil))) pa_nil)) (pe_callB (call_reprD hG hr.units) (by rfl) mb_repr (by decide +kernel) (pa_cons (pe_lst (pa_cons (pv 9) (pa_cons (pv 9) pa_nil))) pa_nil)) (nomark _)) (pss_one (ps_ret pe_bl)) pss_nil)))))))))))
      (pss_one (ps_ret pe_bl)))), ?_⟩
  refine ⟨_, rfl, a, 0, rfl, hh, by decide, fun nm H1 hr1 k1 hd1 hN1 => ?_⟩
  refine ⟨4, rfl, by decide, by decide, ?_⟩
  refine for_range (lo := 0) (n := 4) (fun i σ H2 => (∃ x2 x3 x4 x5 x6 x7 x8 x9 : Option V, σ = [some (.ref a), some (.ref nm), x2, x3, x4, x5, x6, x7, x8, x9]) ∧
    Kp [a] H H2 ∧ Hand (20 + 90 * i) H2 a ∧ Names H2 nm) ?_ ?_ ?_
  · exact ⟨⟨none, none, none, none, none, none, none, none, rfl⟩, k1, hd1, hN1⟩
  · rintro i σ H2 hi ⟨⟨x2, x3, x4, x5, x6, x7, x8, x9, rfl⟩, kH2, hd2, hN2⟩
    have nma : nm ≠ a := by obtain ⟨ts, h, _⟩ := hN2; exact hd2.neL h (refNo ts)
    have nt : ∀ (n : Nat) (G : Hp), Hand n G a → ∀ x ∈ [a], ∀ xs, G x ≠ some (.tup xs) := fun n G h x hx => by rw [List.mem_singleton.mp hx]; exact h.noTup
    -- the holes' names
    refine ⟨_, rfl, _, rfl, _, rfl, a, 20 + 90 * i, rfl, hd2, by omega, fun r H3 zs hr3 k3 hd3 hz hHz => ?_⟩
    have hN3 := hN2.keep k3 (by simpa using nma) (nt _ _ hd2)
    have ra : r ≠ a := (hd2.ne hr3).symm
    refine ⟨szLe rfl, fun e he => ⟨szLe rfl, fun p hp => ?_⟩⟩
    have hd3p := (hd3.new he (o := .lst [])).new hp (o := .lst [.ref r, .ref e])
    have ne0 : ∀ b : Addr, b ∉ ([] : List Addr) := fun b z => by cases z
    have kep : Kp [] H3 (upd (upd H3 e (.lst [])) p (.lst [.ref r, .ref e])) := (Kp.new he).trans (Kp.new hp)
    have ea : e ≠ a := (hd3.ne he).symm
    have pa : p ≠ a := ((hd3.new he).ne hp).symm
    have hN3p := hN3.keep kep (by simp) (by simp)
    have hzp := kep r _ (ne0 r) hz
    have hep : upd (upd H3 e (.lst [])) p (.lst [.ref r, .ref e]) e = some (.lst []) := by
      have : e ≠ p := fun z => by rw [← z, upd_same] at hp; cases hp
      rw [upd_ne this, upd_same]
    have hpp : upd (upd H3 e (.lst [])) p (.lst [.ref r, .ref e]) p = some (.lst [.ref r, .ref e]) := upd_same
    generalize upd (upd H3 e (.lst [])) p (.lst [.ref r, .ref e]) = H3p at hd3p kep hN3p hzp hep hpp ⊢
    refine ⟨_, rfl, a, 5, _, rfl, hd3p, by omega, by decide, by decide, fun r5 H4 r50 r51 k4 hd4 => ?_⟩
    have hN4 := hN3p.keep k4 (by simpa using nma) (nt _ _ hd3p)
    have hz4 := k4 r _ (by simpa using ra) hzp
    have he4 := k4 e _ (by simpa using ea) hep
    have hp4 := k4 p _ (by simpa using pa) hpp
    have two : r5.fdiv 4 = 0 ∨ r5.fdiv 4 = 1 := by
      rw [Int.fdiv_eq_ediv_of_nonneg _ (by decide)]; omega
    obtain ⟨hl, ys, hat, hys, hyl, hyN⟩ : ∃ (hl : Addr) (ys : List Str), atI ([.ref r, .ref e] : List V) (r5.fdiv 4) = some (.ref hl) ∧ H4 hl = some (.lst (ys.map V.str)) ∧ ys.length ≤ 4 ∧ ∀ y ∈ ys, Nm y := by
      rcases two with z | z <;> rw [z]
      · exact ⟨r, zs, rfl, hz4, hHz.2.1, hHz.2.2.2⟩
      · exact ⟨e, [], rfl, he4, by decide, by simp⟩
    refine ⟨_, _, rfl, rfl, ⟨by decide, by decide⟩, _, _, _, _, rfl, rfl, SqL.of hp4, hat, ?_⟩
    refine ⟨_, rfl, a, 4, _, rfl, hd4, by omega, by decide, by decide, fun r4 H5 r40 r41 k5 hd5 => ?_⟩
    have hla : hl ≠ a := hd4.neL hys (strNo (f := id) ys)
    have hN5 := hN4.keep k5 (by simpa using nma) (nt _ _ hd4)
    have hys5 := k5 hl _ (by simpa using hla) hys
    have cst := cost_le (d := r4.toNat) (by omega)
    refine ⟨r4.toNat, by omega, a, nm, hl, ys, _, ?_, hd5, hN5, hys5, hyl, hyN, by omega, by omega, fun v H6 t k6 hd6 hv hok hdeep hsize => ?_⟩
    · show [V.ref a, V.ref nm, V.ref hl, V.int r4] = [V.ref a, V.ref nm, V.ref hl, V.int ((r4.toNat : Nat) : Int)]
      rw [Int.toNat_of_nonneg r40]
    have hN6 := hN5.keep k6 (by simpa using nma) (nt _ _ hd5)
    have hd6' : Hand (20 + 90 * (i + 1)) H6 a := hd6.more (by omega)
    have dp4 : t.deep ≤ 4 := by omega
    have sz40 : t.size ≤ 40 := by omega
    have fin := Tr.fine hyN t hok
    have finT : Fine 4 1000 t.data := fin.up dp4 (by omega)
    -- held, symbols
    obtain ⟨s1, s2, s3⟩ := showAll finT (by decide) (by decide)
    refine ⟨_, rfl, _, _, rfl, hv, s1, s2, s3, ?_⟩
    refine ⟨_, rfl, v, t, rfl, hv, by omega, by omega, fun sy H7 hsy7 k7 hsy => ?_⟩
    refine ⟨_, _, rfl, ?_⟩
    have no : ∀ m ∈ ([] : List Addr), ∀ G : Hp, Loose G m := fun m z => by cases z
    have nol : ∀ {G : Hp}, ∀ m ∈ ([] : List Addr), Loose G m := fun m z => by cases z
    -- fulls
    refine ⟨_, rfl, _, rfl, ⟨_, SqL.of hsy⟩, fun D hD => ?_⟩
    refine lc_list (K := K) (a := sy) (xs := (syms t).map V.str) (fun j G => Kp [] H7 G ∧ G D = some (.lst ((((syms t).take j).filter fun s => decide (46 ∈ s.cps.toList)).map V.str))) ?_ ?_ ?_ ?_
    · exact ⟨Kp.new hD, upd_same⟩
    · rintro j G _ ⟨k, _⟩; exact SqL.of (k _ _ (ne0 _) hsy)
    · rintro j x G hx ⟨k, hDG⟩
      rw [List.getElem?_map] at hx
      obtain ⟨y, hy, rfl⟩ := Option.map_eq_some_iff.mp hx
      have ht : (syms t).take (j + 1) = (syms t).take j ++ [y] := by rw [List.take_add_one, hy]; rfl
      refine ⟨rfl, _, rfl, 46, y, by rw [dotCode], rfl, _, rfl, ?_⟩
      by_cases hm : 46 ∈ y.cps.toList
      · rw [decide_eq_true hm]
        have e : [y].filter (fun s => decide (46 ∈ s.cps.toList)) = [y] := by rw [List.filter_cons, if_pos (decide_eq_true hm)]; rfl
        refine ⟨_, rfl, _, hDG, ?_, k.put0 hD, ?_⟩
        · rw [List.length_map]
          have l2 := List.length_filter_le (fun s : Str => decide (46 ∈ s.cps.toList)) ((syms t).take j)
          have l3 : (syms t).length = t.size := List.length_map _
          rw [List.length_take] at l2
          exact small1000 (by omega)
        · rw [upd_same, ht, List.filter_append, e, List.map_append]; rfl
      · rw [decide_eq_false hm]
        have e : [y].filter (fun s => decide (46 ∈ s.cps.toList)) = [] := by rw [List.filter_cons, if_neg (fun z => hm (of_decide_eq_true z))]; rfl
        refine ⟨k, ?_⟩
        rw [ht, List.filter_append, e, List.append_nil]; exact hDG
    rintro H8 ⟨k78, hD8⟩
    rw [List.length_map, List.take_length] at hD8
    have enam : (syms t).filter (fun s => decide (46 ∈ s.cps.toList)) = nams t := (symHole hyN (fun u hu => Tr.sub t hok u hu)).2
    rw [enam] at hD8
    have k8 : Kp [] H6 H8 := k7.trans k78
    have hv8 : Dp K H8 v t.data := Tr.kp (ms := []) k8 (fun m z => by cases z) t hv
    have hd8 := hd6'.keep k8 (by simp)
    have hN8 := hN6.keep k8 (by simp) (by simp)
    have lt17 := symSm hyN hok
    have hols17 : ∀ z ∈ hols t, Sm z ∧ z.length ≤ 17 := by
      intro z hz
      have hz' : z ∈ t.pre.filterMap holeOf := uniq_mem.mp hz
      obtain ⟨u, hu, e⟩ := List.mem_filterMap.mp hz'
      have e2 : symOf u = z := by cases u <;> first | (cases e; rfl) | cases e
      exact lt17 z (List.mem_map.mpr ⟨u, hu, e2⟩)
    have nams17 : ∀ z ∈ nams t, Sm z ∧ z.length ≤ 17 := by
      intro z hz
      obtain ⟨u, hu, e⟩ := List.mem_filterMap.mp hz
      have e2 : symOf u = z := by cases u <;> first | (cases e; rfl) | cases e
      exact lt17 z (List.mem_map.mpr ⟨u, hu, e2⟩)
    have holsL : (hols t).length ≤ 1000 := by
      have l1 := uniq_len (t.pre.filterMap holeOf) []
      have l2 := List.length_filterMap_le holeOf t.pre
      have l3 : t.pre.length = t.size := rfl
      rw [List.length_nil] at l1
      show (uniq _).length ≤ 1000
      unfold uniq; omega
    have namsL : (nams t).length ≤ 1000 := by
      have l2 := List.length_filterMap_le nameOf t.pre
      have l3 : t.pre.length = t.size := rfl
      show (t.pre.filterMap nameOf).length ≤ 1000
      omega
    have fH := fineTwo (fineTexts hols17 holsL) (fineTexts hols17 holsL)
    have fN := fineTwo (fineTexts nams17 namsL) (fineTexts nams17 namsL)
    obtain ⟨a1, a2, a3⟩ := showAll fH (by decide) (by decide)
    obtain ⟨b1, b2, b3⟩ := showAll fN (by decide) (by decide)
    -- the holes
    refine ⟨_, rfl, v, t, rfl, hv8, by omega, fun r1 H9 hr1 k9 h9 => ?_⟩
    have hv9 : Dp K H9 v t.data := Tr.kp (ms := []) k9 (fun m z => by cases z) t hv8
    refine ⟨_, rfl, rfl, rfl, v, t, rfl, hv9, by omega, fun r2 H10 hr2 k10 h10 => ?_⟩
    have h9' := k10 r1 _ (ne0 _) h9
    refine ⟨szLe rfl, fun p1 hp1 => ?_⟩
    have kp1 := Kp.new (ms := []) (o := .lst [.ref r1, .ref r2]) hp1
    refine ⟨_, _, rfl, .lst (SqL.of upd_same) (.cons (dpTup (SqT.of (kp1 _ _ (ne0 _) h9'))) (.cons (dpTup (SqT.of (kp1 _ _ (ne0 _) h10))) .nil)), a1, a2, a3, ?_⟩
    have hv11 : Dp K (upd H10 p1 (.lst [.ref r1, .ref r2])) v t.data := Tr.kp (ms := []) (k10.trans kp1) (fun m z => by cases z) t hv9
    have k11 := (k9.trans k10).trans kp1
    generalize upd H10 p1 (.lst [.ref r1, .ref r2]) = H11 at hv11 k11 ⊢
    refine ⟨_, rfl, v, t, ys, rfl, hv11, hok, hyN, by omega, by omega, fun r3 H12 hr3 k12 h12 => ?_⟩
    refine ⟨r3, _, rfl, .inl ⟨SqL.of h12, fun tp htp => ?_⟩⟩
    refine ⟨szLe rfl, fun p2 hp2 => ?_⟩
    refine ⟨p2, 2, _, rfl, rfl, upd_same, by decide, by decide, szLe rfl, fun p3 hp3 => ?_⟩
    have ktp := Kp.new (ms := []) (o := .tup ((hols t).map V.str)) htp
    have kp2 := Kp.new (ms := []) (o := .lst [.ref tp]) hp2
    have kp3 := Kp.new (ms := []) (o := .lst (List.replicate (Int.toNat 2) [V.ref tp]).flatten) hp3
    have htp3 := (kp2.trans kp3) tp _ (ne0 _) upd_same
    refine ⟨_, _, rfl, .lst (SqL.of upd_same) (.cons (dpTup (SqT.of htp3)) (.cons (dpTup (SqT.of htp3)) .nil)), a1, a2, a3, rfl, _, rfl, ?_⟩
    have k13 := k11.trans (((k12.trans ktp).trans kp2).trans kp3)
    refine ite2 (fun c => by simp at c) (fun _ => ?_)
    -- the names
    have hv13 := Tr.kp (ms := []) k13 (fun m z => by cases z) t hv8
    generalize upd (upd (upd H12 tp (.tup ((hols t).map V.str))) p2 (.lst [.ref tp])) p3 (.lst (List.replicate (Int.toNat 2) [V.ref tp]).flatten) = H13 at k13 hv13 ⊢
    refine ⟨_, rfl, v, t, rfl, hv13, by omega, fun r1 H14 hr1' k14 h14 => ?_⟩
    have hv14 : Dp K H14 v t.data := Tr.kp (ms := []) k14 (fun m z => by cases z) t hv13
    refine ⟨_, rfl, rfl, rfl, v, t, rfl, hv14, by omega, fun r2 H15 hr2' k15 h15 => ?_⟩
    have h14' := k15 r1 _ (ne0 _) h14
    refine ⟨szLe rfl, fun p1' hp1' => ?_⟩
    have kq1 := Kp.new (ms := []) (o := .lst [.ref r1, .ref r2]) hp1'
    refine ⟨_, _, rfl, .lst (SqL.of upd_same) (.cons (dpTup (SqT.of (kq1 _ _ (ne0 _) h14'))) (.cons (dpTup (SqT.of (kq1 _ _ (ne0 _) h15))) .nil)), b1, b2, b3, ?_⟩
    have k16 := ((k13.trans k14).trans k15).trans kq1
    generalize upd H15 p1' (.lst [.ref r1, .ref r2]) = H16 at k16 ⊢
    have hD16 := k16 D _ (ne0 _) hD8
    refine ⟨_, rfl, D, _, rfl, .inl ⟨SqL.of hD16, fun tq htq => ?_⟩⟩
    refine ⟨szLe rfl, fun q2 hq2 => ?_⟩
    refine ⟨q2, 2, _, rfl, rfl, upd_same, by decide, by decide, szLe rfl, fun q3 hq3 => ?_⟩
    have ktq := Kp.new (ms := []) (o := .tup ((nams t).map V.str)) htq
    have kq2 := Kp.new (ms := []) (o := .lst [.ref tq]) hq2
    have kq3 := Kp.new (ms := []) (o := .lst (List.replicate (Int.toNat 2) [V.ref tq]).flatten) hq3
    have htq3 := (kq2.trans kq3) tq _ (ne0 _) upd_same
    refine ⟨_, _, rfl, .lst (SqL.of upd_same) (.cons (dpTup (SqT.of htq3)) (.cons (dpTup (SqT.of htq3)) .nil)), b1, b2, b3, rfl, _, rfl, ?_⟩
    have k17 := k16.trans ((ktq.trans kq2).trans kq3)
    have hv17 := Tr.kp (ms := []) k17 (fun m z => by cases z) t hv8
    generalize upd (upd (upd H16 tq (.tup ((nams t).map V.str))) q2 (.lst [.ref tq])) q3 (.lst (List.replicate (Int.toNat 2) [V.ref tq]).flatten) = H17 at k17 hv17 ⊢
    refine ite2 (fun c => by simp at c) (fun _ => ?_)
    refine ⟨_, rfl, _, _, rfl, hv17, s1, s2, s3, _, rfl, rfl, _, rfl, ?_⟩
    refine ite2 (fun c => by simp at c) (fun _ => ?_)
    -- each line
    have hD17 := k17 D _ (ne0 _) hD8
    refine ⟨_, rfl, D, rfl, ⟨_, SqL.of hD17⟩, ?_⟩
    refine for_list (K := K) (a := D) (xs := (nams t).map V.str) (fun j σ G => (∃ y7 y8 y9 : Option V, σ = [some (.ref a), some (.ref nm), some (.int (0 + (i : Int))), some v, some (.str t.data.shown), some (.ref sy), some (.ref D), y7, y8, y9]) ∧ Kp [] H17 G) ?_ ?_ ?_ ?_
    · exact ⟨⟨_, _, _, rfl⟩, Kp.refl _ _⟩
    · rintro j σ G _ ⟨_, k⟩; exact SqL.of (k _ _ (ne0 _) hD17)
    · rintro j x σ G hx ⟨⟨y7, y8, y9, rfl⟩, kG⟩
      rw [List.getElem?_map] at hx
      obtain ⟨z, hz, rfl⟩ := Option.map_eq_some_iff.mp hx
      have hzm := List.mem_of_getElem? hz
      obtain ⟨u, hu, eu⟩ := List.mem_filterMap.mp hzm
      have hfz : Full z := by
        rcases Tr.sub t hok u hu with ⟨s, rfl, _⟩ | ⟨f, ps, rfl, hf⟩
        · cases eu
        · cases eu; exact hf
      obtain ⟨l, o, hl', ho', rfl⟩ := hfz
      have hlen : (l ++ ("." : Str) ++ o).length ≤ sizeLine := by
        have := Full.length ⟨l, o, hl', ho', rfl⟩
        exact Nat.le_trans this (szLe (n := 17) rfl)
      refine ⟨_, rfl, _, rfl, ⟨_, rfl⟩, _, _, rfl, rfl, (l.length : Int), by rw [find_name hl'], _, rfl, hlen, ?_⟩
      rw [cut_name]
      have fl := fineTwo (Fine.str hl'.sm 0) (Fine.str hl'.sm 0)
      obtain ⟨c1, c2, c3⟩ := showAll fl (by decide) (by have := hl'.2.1; omega)
      refine ⟨_, rfl, l, o, rfl, hl', ho', fun G1 kg1 => ?_⟩
      refine ⟨_, rfl, rfl, rfl, l, o, rfl, hl', ho', fun G2 kg2 => ?_⟩
      refine ⟨szLe rfl, fun p5 hp5 => ?_⟩
      refine ⟨_, _, rfl, .lst (SqL.of upd_same) (.cons (.str l) (.cons (.str l) .nil)), c1, c2, c3, ?_⟩
      refine ⟨_, rfl, _, rfl, szLe rfl, fun p6 hp6 => ?_⟩
      refine ⟨_, _, rfl, .lst (SqL.of upd_same) (.cons (.str l) (.cons (.str l) .nil)), c1, c2, c3, rfl, _, rfl, ?_⟩
      refine ite2 (fun c => by simp at c) (fun _ => ?_)
      exact ⟨⟨_, _, _, rfl⟩, (((kG.trans kg1).trans kg2).trans (Kp.new hp5)).trans (Kp.new hp6)⟩
    · rintro σ G ⟨⟨y7, y8, y9, rfl⟩, kG⟩
      have kk := k17.trans kG
      exact ⟨⟨_, _, _, _, _, _, _, _, rfl⟩, (((((kH2.trans k3).trans (kep.wide (by simp))).trans k4).trans k5).trans k6).trans ((k8.trans kk).wide (by simp)), hd8.keep kk (by simp), hN8.keep kk (by simp) (by simp)⟩
  · rintro σ H2 ⟨⟨x2, x3, x4, x5, x6, x7, x8, x9, rfl⟩, kH2, hd2, hN2⟩
    exact q H2 kH2
end
end Ah
namespace Ah
open PySem PySem.Spec PyProof.Rows L2
local macro_rules | `(tactic| walk_at "side") => `(tactic| first | omega | decide | (dsimp only; omega) | (unfold CDivN; omega) | (unfold CMul; omega) | (unfold CPow; omega) | (unfold CPow; decide) | (unfold CMulW; decide) | exact szLe rfl | rfl)
local macro_rules | `(tactic| walk_at "here") => `(tactic| first | assumption | exact upd_same)
local macro_rules | `(tactic| walk_at "go") => `(tactic| repeat (first
  | (refine ⟨_, rfl, ?_⟩)
  | (refine ⟨_, _, rfl, rfl, ?_⟩)
  | (refine ⟨_, _, _, _, rfl, rfl, SqL.of (by walk_at "here"), rfl, ?_⟩)
  | (refine ⟨_, _, _, _, rfl, rfl, (by walk_at "here"), rfl, ?_⟩)
  | (refine ⟨_, _, rfl, ?_⟩)
  | (refine And.intro (by walk_at "side") ?_)))

abbrev s_law : Stmt := topS 16
abbrev N_law : List Str := ["script", "k"]
theorem sc_law : FnScope N_law ["script"] (defScope s_law) :=
  ⟨rfl, rfl, rfl, by decide +kernel, rfl, by decide +kernel, by decide +kernel⟩
theorem po_law : Posi "law" s_law ["script"] := fun _ _ _ _ _ _ us hl => match us, hl with | [_], _ => rfl

section
variable {P : Program} {w : World} {K : PySem.W.Frag} {mg : Str → Option Value} {base : Heap}
theorem h_law {j : Nat} (hj : j ≤ 100) (T : At K mg "law" s_law) (d__law_hand : Has P w K mg base 1 "_law_hand" s__law_hand ["script", "k"] (spHand K))
    (d__law_right : HasG P w K mg base j "_law_right" s__law_right ["hand"] spRight)
    (mb_range : mg "range" = none) (mb_max : mg "max" = none) (mb_min : mg "min" = none) (mb_len : mg "len" = none) :
    HasG P w K mg base 101 "law" s_law ["script"] (spLaw K) := by
  refine T.hasG sc_law po_law (fun vs H Q E h => ?_) (fun f cdv A outer s H vs Q E hG hr h => ?_)
  · obtain ⟨a, ns, rfl, _⟩ := h; rfl
  obtain ⟨a, ns, rfl, hS, h63, q⟩ := h
  have nd := sc_law.nd
  refine ⟨_, (pss_cons (ps_for PassesOwn.never rfl (pi_range1 (by rfl) mb_range (pa_cons (pe_callB (call_max2 rfl) (by rfl) mb_max (by decide +kernel) (pa_cons pe_int (pa_cons (pe_callB (call_min2 rfl) (by rfl) mb_min (by decide +kernel) (pa_cons pe_int (pa_cons (pe_callB call_len_seq (by rfl) mb_len (by decide +kernel) (pa_cons (pv 0) pa_nil)) pa_nil))) pa_nil))) pa_nil)) (pg_name (i := 1) nd rfl (.inl rfl)) (pss_one (ps_if (pt_not (pt_val (pe_callDG d__law_right hG (by omega) hr (pa_cons (pe_callD d__law_hand (by omega) hr (pa_cons (pv 0) (pa_cons (pv 1) pa_nil))) pa_nil)))) (pss_one (ps_ret pe_bl)) pss_nil)))
      (pss_one (ps_ret pe_bl))), ?_⟩
  refine ⟨_, rfl, _, _, rfl, .inl hS, 3, _, rfl, 1, _, rfl, ?_⟩
  rw [List.length_map]
  have small : ∀ n : Nat, n ≤ 63 → 1 ≤ (if (if ((n : Nat) : Int) < 3 then ((n : Nat) : Int) else 3) > 1 then (if ((n : Nat) : Int) < 3 then ((n : Nat) : Int) else 3) else 1) ∧
      (if (if ((n : Nat) : Int) < 3 then ((n : Nat) : Int) else 3) > 1 then (if ((n : Nat) : Int) < 3 then ((n : Nat) : Int) else 3) else 1) ≤ 3 := by
    intro n _
    constructor <;> (split <;> (try split) <;> omega)
  obtain ⟨s1, s3⟩ := small ns.length h63
  refine ⟨_, rfl, by omega, by omega, ?_⟩
  generalize (if (if ((ns.length : Nat) : Int) < 3 then ((ns.length : Nat) : Int) else 3) > 1 then (if ((ns.length : Nat) : Int) < 3 then ((ns.length : Nat) : Int) else 3) else 1) = n at s1 s3 ⊢
  refine for_range (lo := 0) (n := n.toNat) (fun i σ H2 => (∃ x1 : Option V, σ = [some (.ref a), x1]) ∧ SqL K H2 a (ns.map V.int)) ?_ ?_ ?_
  · exact ⟨⟨none, rfl⟩, hS⟩
  · rintro i σ H2 hi ⟨⟨x1, rfl⟩, hS2⟩
    refine ⟨_, rfl, _, rfl, a, ns, i, by simp, hS2, by omega, fun r H3 hr3 k3 hd3 => ?_⟩
    refine ⟨r, rfl, hd3, fun H4 k4 => ?_⟩
    refine ⟨_, rfl, ⟨_, rfl⟩, ?_⟩
    exact SqL.kp (ms := [r]) ((k3.wide (by simp)).trans k4) (fun m hm => by rw [List.mem_singleton.mp hm]; exact hr3) hS2
  · rintro σ H2 ⟨⟨x1, rfl⟩, hS2⟩
    exact q H2
end
end Ah
namespace Ah
open PySem PySem.Spec PyProof.Rows L2
section
variable {P : Program} {w : World} {K : PySem.W.Frag} {mg : Str → Option Value} {fa : Addr}
theorem all_mk (hfa : mg "law" = some (.ref fa)) (T_is_hole : At K mg "is_hole" s_is_hole) (T_line_of : At K mg "line_of" s_line_of) (T_trees_in : At K mg "trees_in" s_trees_in) (T_holes_in : At K mg "holes_in" s_holes_in) (T_names_in : At K mg "names_in" s_names_in) (T__law_hand : At K mg "_law_hand" s__law_hand) (T__law_take : At K mg "_law_take" s__law_take) (T__law_of : At K mg "_law_of" s__law_of) (T__law_words : At K mg "_law_words" s__law_words) (T__law_tree : At K mg "_law_tree" s__law_tree) (T__law_called : At K mg "_law_called" s__law_called) (T__law_symbols : At K mg "_law_symbols" s__law_symbols) (T__law_holes : At K mg "_law_holes" s__law_holes) (T__law_right : At K mg "_law_right" s__law_right) (T_law : At K mg "law" s_law) (mb_type : mg "type" = none) (mb_str : mg "str" = none) (mb_tuple : mg "tuple" = none) (mb_len : mg "len" = none) (mb_abs : mg "abs" = none) (mb_int : mg "int" = none) (mb_range : mg "range" = none) (mb_enumerate : mg "enumerate" = none) (mb_isinstance : mg "isinstance" = none) (mb_repr : mg "repr" = none) (mb_max : mg "max" = none) (mb_min : mg "min" = none) :
    ∃ fd : FuncData, (∀ (s : Shared) (v : Value), BindsTo s fd ⟨[v], []⟩ [("script", v)]) ∧ ∀ base : Heap, K.In base → base.Ns mainGlobals mg → FnG P w K mg base CX0 101 fa fd ["script"] (spLaw K) :=
  lawFn hfa T_law po_law fun base => by
    have take := h_take (P := P) (w := w) (base := base) T__law_take
    have of_ := h_of T__law_of take mb_len
    have hand := h_hand (P := P) (w := w) (base := base) T__law_hand mb_len mb_abs mb_int
    have words := h_words T__law_words take of_ mb_range mb_enumerate
    have called := h_called T__law_called of_
    have tree := Has.any 3 fun d hd => (h_tree T__law_tree take of_ mb_range mb_tuple d).up (k := 6) (by omega)
    have isHole := h_is_hole (P := P) (w := w) (base := base) T_is_hole mb_type mb_str
    have treesIn := h_trees_in T_trees_in isHole
    have holesIn := h_holes_in T_holes_in treesIn isHole mb_tuple
    have namesIn := h_names_in T_names_in treesIn isHole mb_tuple
    have lineOf := h_line_of (P := P) (w := w) (base := base) T_line_of
    have symbols := h_symbols (P := P) (w := w) (base := base) T__law_symbols mb_isinstance mb_str 40
    have holes := h_holes T__law_holes symbols
    have right := h_right T__law_right take words called tree symbols holes holesIn namesIn lineOf mb_range mb_tuple mb_repr
    exact h_law (by decide) T_law hand right mb_range mb_max mb_min mb_len
end
end Ah
open PySem PySem.W PyProof.Rows
set_option maxRecDepth 100000 in
set_option maxHeartbeats 0 in
theorem PySem.Challenge.cw_aheadofholes_k02_holes_and_names_of_tree_holds : PySem.Challenge.rw_aheadofholes_k02_holes_and_names_of_tree.Holds := by
  w_on; o_law; k_head; (case hw => w_witness2)
  k_fill
  refine Ah.walkG (l := PySem.Challenge.rw_aheadofholes_k02_holes_and_names_of_tree) (n := 63) (k := 101) (x := "script") (sp := fun w => Ah.spLaw _) rfl (by decide) rfl ⟨rfl, by decide, by decide⟩ (fun w h Y => PySem.W.kIn_of Y) ?F (fun w H a ns hl _ hS => ⟨a, ns, rfl, hS, hl, fun _ => rfl⟩)
  case F =>
    intro w mg fa h KX G hmg
    refine' Ah.all_mk hmg (Ah.mkAt KX G ?a0 ?l0 ?c0 ?k0) (Ah.mkAt KX G ?a1 ?l1 ?c1 ?k1) (Ah.mkAt KX G ?a2 ?l2 ?c2 ?k2) (Ah.mkAt KX G ?a3 ?l3 ?c3 ?k3) (Ah.mkAt KX G ?a4 ?l4 ?c4 ?k4) (Ah.mkAt KX G ?a5 ?l5 ?c5 ?k5) (Ah.mkAt KX G ?a6 ?l6 ?c6 ?k6) (Ah.mkAt KX G ?a7 ?l7 ?c7 ?k7) (Ah.mkAt KX G ?a8 ?l8 ?c8 ?k8) (Ah.mkAt KX G ?a9 ?l9 ?c9 ?k9) (Ah.mkAt KX G ?a10 ?l10 ?c10 ?k10) (Ah.mkAt KX G ?a11 ?l11 ?c11 ?k11) (Ah.mkAt KX G ?a12 ?l12 ?c12 ?k12) (Ah.mkAt KX G ?a13 ?l13 ?c13 ?k13) (Ah.mkAt KX G ?a14 ?l14 ?c14 ?k14) (Ah.mkNo KX G ?z0) (Ah.mkNo KX G ?z1) (Ah.mkNo KX G ?z2) (Ah.mkNo KX G ?z3) (Ah.mkNo KX G ?z4) (Ah.mkNo KX G ?z5) (Ah.mkNo KX G ?z6) (Ah.mkNo KX G ?z7) (Ah.mkNo KX G ?z8) (Ah.mkNo KX G ?z9) (Ah.mkNo KX G ?z10) (Ah.mkNo KX G ?z11)
    (case a0 => k_is); (case l0 => k_is); (case c0 => k_is); (case k0 => k_is)
    (case a1 => k_is); (case l1 => k_is); (case c1 => k_is); (case k1 => k_is)
    (case a2 => k_is); (case l2 => k_is); (case c2 => k_is); (case k2 => k_is)
    (case a3 => k_is); (case l3 => k_is); (case c3 => k_is); (case k3 => k_is)
    (case a4 => k_is); (case l4 => k_is); (case c4 => k_is); (case k4 => k_is)
    (case a5 => k_is); (case l5 => k_is); (case c5 => k_is); (case k5 => k_is)
    (case a6 => k_is); (case l6 => k_is); (case c6 => k_is); (case k6 => k_is)
    (case a7 => k_is); (case l7 => k_is); (case c7 => k_is); (case k7 => k_is)
    (case a8 => k_is); (case l8 => k_is); (case c8 => k_is); (case k8 => k_is)
    (case a9 => k_is); (case l9 => k_is); (case c9 => k_is); (case k9 => k_is)
    (case a10 => k_is); (case l10 => k_is); (case c10 => k_is); (case k10 => k_is)
    (case a11 => k_is); (case l11 => k_is); (case c11 => k_is); (case k11 => k_is)
    (case a12 => k_is); (case l12 => k_is); (case c12 => k_is); (case k12 => k_is)
    (case a13 => k_is); (case l13 => k_is); (case c13 => k_is); (case k13 => k_is)
    (case a14 => k_is); (case l14 => k_is); (case c14 => k_is); (case k14 => k_is)
    (case z0 => k_is)
    (case z1 => k_is)
    (case z2 => k_is)
    (case z3 => k_is)
    (case z4 => k_is)
    (case z5 => k_is)
    (case z6 => k_is)
    (case z7 => k_is)
    (case z8 => k_is)
    (case z9 => k_is)
    (case z10 => k_is)
    (case z11 => k_is)
#print axioms PySem.Challenge.cw_aheadofholes_k02_holes_and_names_of_tree_holds

