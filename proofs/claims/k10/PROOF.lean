import PyProof.Rows.All
import Wide.All
import OpenK.AllK
import Wide.FinOn
import HandS.ForMost
import HandS.Conv
import HandS.More
import HandS.TupAny
import HandS.IsInst
import HandS.Wide
import HandS.Flow
import HandS.Style
import HandS.Zip
import HandS.Defaults
import PyProof.ReprRoads
import KE.KDictSum
import HandS.Walk
import HandS.TupMul
import HandS.Codes
import HandS.AnyAll
import HandS.Lambda
import HandS.HeadWalk
import HandS.HeadHook4
import HandS.HeadEnd
import KE.KStateDown
import HandS.Head0
import HandS.Head1
import HandS.Head2
import HandS.NestedK
import HandS.SetKeys
import HandS.Deep
import KE.KDictZip
import KE.KItemsList
import HandS.ListItems
import PyProof.ZipIter
import HandS.TupLe
import KE.SortData
import HandS.DictComp
import HandS.Star
import HandS.TupSets
import PySem.Challenge.RW_aheadofholes_k10_whole_what_comes_of_a_h
set_option Elab.async false
set_option linter.all false
set_option maxRecDepth 100000
namespace Ah
open PySem PySem.Spec PyProof.Rows L2

/-! ## data: no dicts in what Dp reads -/
mutual
theorem dpNoDict {K : PySem.W.Frag} {H : Hp} : ∀ (d : PyData) (v : V), Dp K H v d → d.hasDict = false
  | .none, _, _ => by simp only [PyData.hasDict]
  | .bool _, _, _ => by simp only [PyData.hasDict]
  | .int _, _, _ => by simp only [PyData.hasDict]
  | .str _, _, _ => by simp only [PyData.hasDict]
  | .list ds, _, h => by
    cases h with
    | lst _ ha => simp only [PyData.hasDict]; exact dpNoDictAll ds _ ha
  | .tuple ds, _, h => by
    cases h with
    | tup _ ha => simp only [PyData.hasDict]; exact dpNoDictAll ds _ ha
  | .dict _, _, h => by cases h
theorem dpNoDictAll {K : PySem.W.Frag} {H : Hp} : ∀ (ds : List PyData) (vs : List V), DpAll K H vs ds → PyData.hasDictAll ds = false
  | [], _, _ => by simp only [PyData.hasDictAll]
  | d :: ds, _, h => by
    cases h with
    | cons a b => simp only [PyData.hasDictAll, dpNoDict d _ a, dpNoDictAll ds _ b, Bool.or_false]
end

/-! ## repr of data -/
def rRepr (K : PySem.W.Frag) : List V → Hp → VK → Prop := fun xs H Q => ∃ x d, xs = [x] ∧ Dp K H x d ∧
  d.showable = true ∧ d.depth ≤ 60 ∧ d.shown.length ≤ sizeLine ∧ Q (.str d.shown) H
theorem call_reprD {X : Cx} (hg : X.A.guards = some []) (hu : X.A.units + 64 < cLine) : CallR X (.builtin "repr") (rRepr X.K) := by
  intro pins s σ H xs us Q I r h
  obtain ⟨x, d, rfl, hd, hs, hdep, hsz, q⟩ := h
  obtain ⟨u, rfl, rx⟩ := vals1 r
  cases hd with
  | non =>
    obtain rfl : u = Value.none := rx
    refine PySem.P.repr_of_none ⟨.str _, H, I.tok _, ⟨_, rfl⟩, ?_⟩
    simpa only [PyData.shown] using q
  | bl b =>
    obtain rfl : u = Value.bool b := rx
    refine PySem.P.repr_of_bool ⟨.str _, H, I.tok _, ⟨_, rfl⟩, ?_⟩
    simpa only [PyData.shown] using q
  | int i =>
    obtain ⟨t, rfl⟩ := rx
    refine PySem.P.repr_of_int (by simpa [PyData.showable] using hs) ⟨.str _, H, I.tok _, ⟨_, rfl⟩, ?_⟩
    simpa only [PyData.shown] using q
  | str z =>
    obtain ⟨t, rfl⟩ := rx
    refine PySem.P.repr_of_str ⟨.str _, H, I.tok _, ⟨_, rfl⟩, ?_⟩ (by simpa only [PyData.shown] using hsz)
    simpa only [PyData.shown] using q
  | @lst a xs ds h1 h2 =>
    obtain rfl : u = Value.ref a := rx
    have hd : Dp X.K H (.ref a) (.list ds) := .lst h1 h2
    obtain ⟨as, rd⟩ := Dp.reads I (.list ds) (.ref a) (.ref a) hd rfl
    have nd := dpNoDict _ _ hd
    exact repr_of_reads' rd hs (fun z => by rw [nd] at z; cases z) hg (by omega) (fun _ _ e => e)
      (fun h' u tk hk => ⟨.str _, H, I.kept (t' := tk) hk, ⟨_, rfl⟩, q⟩) hsz
  | @tup a xs ds h1 h2 =>
    obtain rfl : u = Value.ref a := rx
    have hd : Dp X.K H (.ref a) (.tuple ds) := .tup h1 h2
    obtain ⟨as, rd⟩ := Dp.reads I (.tuple ds) (.ref a) (.ref a) hd rfl
    have nd := dpNoDict _ _ hd
    exact repr_of_reads' rd hs (fun z => by rw [nd] at z; cases z) hg (by omega) (fun _ _ e => e)
      (fun h' u tk hk => ⟨.str _, H, I.kept (t' := tk) hk, ⟨_, rfl⟩, q⟩) hsz

/-! ## defs that ask what runs around them (repr does): promises under "no repr is running" -/
section
variable {P : Program} {w : World} {K : PySem.W.Frag} {mg : Str → Option Value} {base : Heap} {CX : CXT} {k : Nat} {f : Addr} {fd : FuncData} {ps : List Str} {sp : Sp}
structure FnG (P : Program) (w : World) (K : PySem.W.Frag) (mg : Str → Option Value) (base : Heap) (CX : CXT) (k : Nat)
    (f : Addr) (fd : FuncData) (ps : List Str) (sp : Sp) : Prop where
  many : ∀ vs H Q E, sp vs H Q E → vs.length = ps.length
  runs : ∀ (A : Around) (outer : List Env) (s : Shared) (H : Hp) (args : Args) (us : List Value) (vs : List V) (Q : VK) (E : XK),
    A.guards = some [] → Room k A → Env0 P w K mg base A outer s H → BindsTo s fd args (ps.zip us) → Vals vs us → sp vs H Q E →
    codeAny (model P w) A (.call (.ref f) args) (CR CX outer P w H s Q E) s
theorem FnG.of (F : FnOk P w K mg base CX k f fd ps sp) : FnG P w K mg base CX k f fd ps sp :=
  ⟨F.len, fun A outer s H args us vs Q E _ => F.run A outer s H args us vs Q E⟩
theorem FnG.higher {j : Nat} (F : FnG P w K mg base CX j f fd ps sp) (h : j ≤ k) : FnG P w K mg base CX k f fd ps sp :=
  ⟨F.many, fun A outer s H args us vs Q E hg hr => F.runs A outer s H args us vs Q E hg (hr.mono h)⟩
end

section
variable {X : Cx} {CX : CXT} {k n : Nat} {f : Addr} {fd : FuncData} {ps ks : List Str} {sp : Sp} {E : XK} {x : Str} {p pos : Pos}
variable {e : Expr} {es : List Expr} {kws : List Keyword} {t tk : TA} {g : List Value → List Value → List Value} {gV : List V → List V → List V}
variable {dvs : List V} {ds : List Value}
/-- what lies behind a call, once it has run -/
theorem endOfCall {pins : List (Addr × Obj)} {σ : L2.St} {H : Hp} {s s' : Shared} {Q : VK} {r : Result} (hx : Passes CX X E) (I : Inv X pins σ H s)
    (hq : CR CX X.stack X.prog X.w H s Q E r s') :
    match r with
    | .ok (.ret u) => EP X pins σ Q u s'
    | .ok _ => False
    | .error e => X.xe e s' := by
  cases r with
  | error e => exact hx pins σ H s e s' I hq
  | ok fl => cases fl <;> first | exact I.after hq | exact False.elim hq
theorem runFnG {pins : List (Addr × Obj)} {σ : L2.St} {H : Hp} {s : Shared} {Q : VK} {us : List Value} {vs : List V} (F : FnG X.prog X.w X.K X.mg X.base CX k f fd ps sp)
    (hG : X.A.guards = some []) (hr : Room k X.A) (hb : Binds X.K fd ps ds) (hd : Vals dvs ds) (hx : Passes CX X E)
    (I : Inv X pins σ H s) (r : Vals vs us) (h : sp (vs ++ dvs) H Q E) :
    wpAny (model X.prog X.w) X.A (call (.ref f) us) (EP X pins σ Q) X.xe s := by
  have both : Vals (vs ++ dvs) (us ++ ds) := r.append hd
  have hl : (us ++ ds).length = ps.length := both.length.symm.trans (F.many _ _ _ _ h)
  refine wpAny_call (codeAny_mono
    (F.runs X.A X.stack s H ⟨us, []⟩ (us ++ ds) (vs ++ dvs) Q E hG hr I.env0 (hb s us I.kIn hl) both h) fun r s' hq => ?_)
  have z := endOfCall hx I hq
  cases r with
  | error e => exact z
  | ok fl => cases fl <;> first | exact z | exact False.elim z
theorem pe_callG (F : FnG X.prog X.w X.K X.mg X.base CX k f fd ps sp) (hG : X.A.guards = some []) (hr : Room k X.A) (hg : Gl X x) (hm : X.mg x = some (.ref f))
    (hk : PySem.W.keepIn X.K (.ref f) = true) (hb : Binds X.K fd ps ds) (hd : Vals dvs ds) (hx : Passes CX X E) (ha : PA X (e :: es) t)
    (hdb : (x == ("__debug__" : Str)) = false := by decide)
    (he : starEach (e :: es) X.env = (false, eval e X.env) :: starEach es X.env := by rfl)
    (hpl : (backTo pos (starEach es X.env)).any (·.1) = false := by rfl) :
    PE X (.Call (.Name x p) (e :: es) [] pos) (tCall sp dvs E t) := by
  constructor
  intro pins s σ H Q I h
  refine wpAny_Call_Name_kw (ld_glob I hg hm ?_ hdb)
  have inner := thn (ha.run pos pins s σ H _ I h) fun us s1 (z : AP X pins σ (fun vs H1 => sp (vs ++ dvs) H1 Q E) us s1) => z
  refine PySem.W.callWith_K (h₀ := X.base) I.ok.mod.kin hk (thn inner fun us s1 z => ?_) he hpl
  obtain ⟨vs, H1, I1, r, q⟩ := z
  exact ⟨I1.kIn, runFnG F hG hr hb hd hx I1 r q⟩
/-- f(k = v, ..): keywords alone -/
theorem pe_callKw (F : FnOk X.prog X.w X.K X.mg X.base CX k f fd ps sp) (hr : Room k X.A) (hg : Gl X x) (hm : X.mg x = some (.ref f))
    (hk : PySem.W.keepIn X.K (.ref f) = true) (hb : KBn X.K fd ps 0 ks g gV) (hx : Passes CX X E) (hkw : PK X kws tk)
    (hall : (backToKw pos (keywordEach kws X.env)).all (·.1.isSome) = true := by rfl)
    (hks : (backToKw pos (keywordEach kws X.env)).filterMap (·.1) = ks := by rfl)
    (hdb : (x == ("__debug__" : Str)) = false := by decide)
    (hpl : ((backTo pos (starEach [] X.env)).any (·.1) || (backToKw pos (keywordEach kws X.env)).any (·.1.isNone)) = false := by rfl) :
    PE X (.Call (.Name x p) [] kws pos) (tCallN 0 ks.length sp gV E tNil tk) := by
  constructor
  intro pins s σ H Q I h
  refine wpAny_Call_Name_kw (ld_glob I hg hm ?_ hdb)
  refine PySem.W.callWith_KW0 (h₀ := X.base) I.ok.mod.kin hk hall ?_ hpl
  refine thn (hkw.run pos pins s σ H _ I h) fun ws s2 z => ?_
  obtain ⟨zs, H2, I2, rz, l1, l2, q2⟩ := z
  refine ⟨I2.kIn, ?_⟩
  rw [hks]
  exact run_fnN (us := []) (vs := []) F hr hb hx I2 .nil rz l1 l2 q2
end
end Ah

namespace Ah
open PySem PySem.Spec PyProof.Rows L2

section
variable {P : Program} {w : World} {K : PySem.W.Frag} {mg : Str → Option Value} {base : Heap}
/-- a body's last flow is the call's end -/
theorem endOfBody {CX : CXT} {N : List Str} {qual : Str} {scope : Scope} {f : Addr} {cdv : Value} {A : Around} {outer : List Env} {s s' : Shared} {H : Hp} {E : XK} {Q : VK} {fl : Flow}
    (h : SP (cxOf CX P w K mg base N qual scope f cdv A outer s H E) [] { nx := fun _ H' => Q .non H', rt := Q } fl s') :
    match fl with
    | .ret u => CE outer P w H s Q u s'
    | .next => CE outer P w H s Q .none s'
    | _ => False := by
  cases fl with
  | ret u => obtain ⟨v, σ', H', J, rv, q⟩ := h; exact ⟨v, H', J.os, J.bare, J.base, J.hok, rv, q⟩
  | next => obtain ⟨σ', H', J, q⟩ := h; exact ⟨.non, H', J.os, J.bare, J.base, J.hok, rfl, q⟩
  | brk => obtain ⟨_, _, _, q⟩ := h; exact q
  | cont => obtain ⟨_, _, _, q⟩ := h; exact q
theorem Fun.okG {x qual : Str} {st : Stmt} {f : Addr} {fd : FuncData} {N ps : List Str} {k : Nat} {sp : Sp} (F : Fun K x qual st f fd) (S : FnScope N ps (defScope st))
    (len : ∀ vs H Q E, sp vs H Q E → vs.length = ps.length)
    (hbody : ∀ (cdv : Value) (A : Around) (outer : List Env) (s : Shared) (H : Hp) (vs : List V) (Q : VK) (E : XK), A.guards = some [] →
      Room k (A.deeper (envOfC qual (defScope st) s.heap.objs.size f cdv)) → sp vs H Q E →
      ∃ t, PSs (cxOf CX0 P w K mg base N qual (defScope st) f cdv A outer s H E).nox (defBody st) t ∧
        t { nx := fun _ H' => Q .non H', rt := Q } (start N vs) H) : FnG P w K mg base CX0 (k + 1) f fd ps sp := by
  obtain ⟨oc, od, kV, doc, pm, an, cdv, ct, osl, rfl, lk, hcd⟩ := F.ex
  constructor
  · exact len
  · intro A outer s H args us vs Q E hG hr e0 hb rv hsp
    have hl := len _ _ _ _ hsp
    have kept : ∀ b o, base.get? b = some o → s.heap.get? b = some o := fun b o e => (e0.bs b o e).1
    have KX : K.In s.heap := e0.mod.kin.keeps kept
    have lim := e0.mod.nolimit.keeps kept
    have kinds : ∀ y ∈ ps.zip us, (defScope st).names.lookup y.1 = some .local ∨
        ((defScope st).names.lookup y.1 = some .cell ∧ ((cellsFrom (s.heap.objs.size + 1) (defScope st).names []).lookup y.1).isSome = true) := by
      rintro ⟨n, v⟩ hy
      rcases S.par n (List.of_mem_zip hy).1 with q | q
      · left; exact q
      · right; exact ⟨q, PySem.W.cellsFrom_some _ _ _ (.inl q)⟩
    refine codeAny_call_function hr.depth (KX _ _ lk) rfl S.co S.gen rfl (PySem.W.codeRec_of KX hcd) (hb _ _ _ _ (wpAny_newFunctionEnv_cells S.kind kinds ?_))
    rintro env rfl s1 x
    refine ⟨lim.keeps x.toInCall.keep, codeAny_func ?_⟩
    obtain ⟨t, ht, hq⟩ := hbody cdv A outer s H vs Q E hG (hr.deeper _) hsp
    have I := inv_start (CX := CX0) (E := E) S hr.hd e0 hl rv x
    refine wpAny_mono (ht.nox.run [] s1 (start N vs) H _ I hq) (fun fl s' hs => ?_) (fun e s' hs => hs)
    have z := endOfBody hs
    cases fl <;> first | exact z | exact False.elim z
end

/-! ## the law's own call, nothing of repr running -/
theorem lawCallG {P : Program} {w : World} {K : PySem.W.Frag} {mg mb : Str → Option Value} {k : Nat} {fa a : Addr} {fd : FuncData} {x : Str} {sp : Sp} {s₁ : Shared} {vs : List Value} {ns : List Int}
    (KX : K.In s₁.heap) (hns : s₁.heap.Ns mainGlobals mg) (hb : s₁.heap.Ns builtinsNs mb) (hbb : ∀ x : Str, x ≠ "__name__" → mb x = bootBuiltins x)
    (hlim : s₁.heap.NoLimit) (hg : s₁.gens = #[]) (ha : s₁.heap.get? a = some { cls := .type "list", data := .seq vs.toArray })
    (hi : IntsAre vs ns) (hl : ns.length ≤ sizeLine) (hr : Room k callerA)
    (F : ∀ base : Heap, K.In base → base.Ns mainGlobals mg → FnG P w K mg base CX0 k fa fd [x] sp)
    (hbind : ∀ (s : Shared) (u : Value), BindsTo s fd ⟨[u], []⟩ [(x, u)])
    (hsp : ∀ H : Hp, Only H → SqL K H a (ns.map V.int) → sp [.ref a] H (fun v _ => v = .bl true) E0) :
    codeAny (model P w) callerA (.call (.ref fa) ⟨[.ref a], []⟩)
      (fun r s' => r = .ok (.ret (.bool true)) ∧ OldK s₁.heap s'.heap ∧ s'.os = s₁.os ∧ AllBare s'.gens) s₁ := by
  -- whatever is tracked at the entry: nothing, or the script alone, frozen
  suffices core : ∀ H : Hp, Only H → SqL K H a (ns.map V.int) → HOk P w H s₁.heap → (∀ b, H b ≠ none → b = a) → (H a ≠ none → K.lookup a = none) →
      codeAny (model P w) callerA (.call (.ref fa) ⟨[.ref a], []⟩)
        (fun r s' => r = .ok (.ret (.bool true)) ∧ OldK s₁.heap s'.heap ∧ s'.os = s₁.os ∧ AllBare s'.gens) s₁ by
    cases hk : K.lookup a with
    | some o =>
      have e := KX a o hk
      have eo : o = { cls := .type "list", data := .seq vs.toArray } := Option.some.inj (e.symm.trans ha)
      subst eo
      refine core (fun _ => none) (fun _ => .inl rfl) (.inr ⟨_, vs.toArray, _, hk, rfl, rfl, rfl, ?_, ?_⟩) (fun b u z => by cases (show (none : Option HO) = some u from z)) (fun b z => (z rfl).elim) (fun z => (z rfl).elim)
      · rw [List.size_toArray, hi.length]; exact hl
      · simpa using vals_ints hi
    | none =>
      let it : HO := .frz { cls := .type "list", data := .seq vs.toArray } (.lst (ns.map V.int))
      let H₀ : Hp := fun b => if b = a then some it else none
      have ha0 : H₀ a = some it := if_pos rfl
      have no : ∀ {b}, b ≠ a → H₀ b = none := fun h => if_neg h
      refine core H₀ (fun b => ?_) (.inl (.inr ⟨_, ha0⟩)) (fun b u z => ?_) (fun b z => ?_) (fun _ => hk)
      · exact (Decidable.em (b = a)).elim (fun e => .inr ⟨_, _, e ▸ ha0⟩) (fun e => .inl (no e))
      · refine (Decidable.em (b = a)).elim (fun e => ?_) (fun e => by rw [no e] at z; cases z)
        subst e
        rw [ha0] at z
        cases z
        exact ⟨ha, by rw [List.length_map]; exact hl, vs, _, vals_ints hi, ha⟩
      · exact (Decidable.em (b = a)).elim id (fun e => (z (no e)).elim)
  intro H hO hS hok hA hK
  have own : ∀ {b : Addr} {u : HO}, H b = some u → b = a := fun {b u} q => hA b (by rw [q]; exact Option.some_ne_none u)
  have bring : ∀ {b : Addr} {o : Obj}, s₁.heap.get? b = some o → H b = none → (hidT s₁.heap H).get? b = some o := hidT_get
  have noDict : ∀ {b : Addr} {o : Obj} {es : Array DictEntry} {ep : Nat}, s₁.heap.get? b = some o → o.data = .dict es ep → H b = none := by
    intro b o es ep e d
    cases q : H b with
    | none => rfl
    | some u =>
      obtain rfl := own q
      obtain rfl := Option.some.inj (ha.symm.trans e)
      cases d
  have ns' : ∀ {b : Addr} {m : Str → Option Value}, s₁.heap.Ns b m → (hidT s₁.heap H).Ns b m := by
    rintro b m ⟨o, es, ep, e, d, r⟩
    exact ⟨o, es, ep, bring e (noDict e d), d, r⟩
  have hKb : K.In (hidT s₁.heap H) := by
    intro b o e
    refine bring (KX b o e) ?_
    cases q : H b with
    | none => rfl
    | some u =>
      obtain rfl := own q
      rw [hK (by rw [q]; exact Option.some_ne_none u)] at e
      cases e
  obtain ⟨mc, l1, l2⟩ := hlim
  have hM : Mod K mg (hidT s₁.heap H) := ⟨hKb, ns' hns, ⟨mb, ns' hb, hbb⟩, ⟨mc, ns' l1, l2⟩⟩
  have nofr : ∀ b, b ∉ frs ([] : List Env) := fun b h => by cases h
  have e0 : Env0 P w K mg (hidT s₁.heap H) callerA [] s₁ H :=
    ⟨rfl, hM, fun b o e => of_hidT e, Nat.le_of_eq (hidT_size _ _), trivial, fun b hb => (nofr b hb).elim, hok, .of_eq hg⟩
  have run := (F _ hKb (ns' hns)).runs callerA [] s₁ H ⟨[.ref a], []⟩ [.ref a] [.ref a] _ _ rfl hr e0 (hbind s₁ (.ref a)) (.cons rfl .nil) (hsp H hO hS)
  refine codeAny_mono run fun r s' h => ?_
  match r, h with
  | .error e, h => exact False.elim h
  | .ok .next, h => exact False.elim h
  | .ok .brk, h => exact False.elim h
  | .ok .cont, h => exact False.elim h
  | .ok (.ret u), h =>
    obtain ⟨v, H', os, bare, un, hok', rv, q⟩ := h
    have q' : v = .bl true := q
    subst q'
    obtain rfl : u = Value.bool true := rv
    refine ⟨rfl, OldK.of_keep fun b o e => ?_, os, bare⟩
    cases q : H b with
    | none => exact un.keep b o e q (nofr b) (fun z => by cases z)
    | some u =>
      rcases hO b with z | ⟨ob, xs, z⟩
      · rw [q] at z; cases z
      · have old := (hok b _ z).1
        have new := (hok' b _ (un.frzs b ob _ z)).1
        have eo := Option.some.inj (e.symm.trans old)
        subst eo
        exact new

theorem walkG {l : PySem.W.OpenLaw} {n k : Nat} {q : Program} {loose : List Str} {XP : (Str → Option Value) → Heap → Prop} {YP : World → Heap → Prop} {d : DefRec} {K : Params → PySem.W.Frag} {sp : World → Sp} {x : Str}
    (hn : l.most = some n) (hn2 : n ≤ sizeLine) (hdf : d.params.defaults = []) (hr : Room k callerA)
    (hY : ∀ (w : World) (h : Heap), YP w h → (K w.params).In h)
    (F : ∀ (w : World) (mg : Str → Option Value) (fa : Addr) (h : Heap), (K w.params).In h → h.Ns mainGlobals mg → mg d.name = some (.ref fa) →
      ∃ fd : FuncData, (∀ (s : Shared) (u : Value), BindsTo s fd ⟨[u], []⟩ [(x, u)]) ∧
        ∀ base : Heap, (K w.params).In base → base.Ns mainGlobals mg → FnG l.prog w (K w.params) mg base CX0 k fa fd [x] (sp w))
    (hsp : ∀ (w : World) (H : Hp) (a : Addr) (ns : List Int), ns.length ≤ n → Only H → SqL (K w.params) H a (ns.map V.int) →
      sp w [.ref a] H (fun v _ => v = .bl true) E0) :
    PySem.W.WalkO q loose XP YP l.row.toRowW d [] (fun f vs => PySem.call f vs) := by
  apply Att.attach_call hn hdf
  intro w s₀ s₁ mg mb fa o pm cd doc a vs ns G Y ho hd hcd hmg hobj hints hlen hg
  obtain ⟨fd, hb, hF⟩ := F w mg fa _ (hY w _ Y) G.T.g hmg
  exact lawCallG (hY w _ Y) G.T.g G.T.b G.T.builtins G.T.nolimit hg hobj hints (Nat.le_trans hlen hn2) hr hF hb (fun H hO hS => hsp w H a ns hlen hO hS)
end Ah

namespace Ah
open PySem PySem.Spec PyProof.Rows L2
open Sem (wp)

/-! ## text * number -/
def rMulS : R2 := fun x y H Q => ∃ z n, x = .str z ∧ y = .int n ∧ MulOk z n ∧ Q (.str (Txt.mul z n)) H
theorem op_mulStr {X : Cx} : OpR X (binaryOp .Mult) rMulS := by
  intro pins s σ H x y v u Q I rx ry h
  obtain ⟨z, n, rfl, rfl, ok, q⟩ := h
  obtain ⟨t, rfl⟩ := rx
  obtain ⟨t', rfl⟩ := ry
  exact SB.mul ok fun t'' k => ⟨.str _, H, I.tok _, ⟨_, rfl⟩, q⟩

/-! ## tuple(a dict) -/
section
variable {prog : Program} {w : World} {A : Around} {E : Value → Shared → Prop} {s : Shared}
theorem newTupD {T : String} {r d : Addr} {n : Nat} {PP : Nat → Value → Prop} {OK : Heap → Prop} {Q₁ : Value → Shared → Prop} (KS : PySem.W.KdlSrc prog w T r d n PP OK)
    (hh : A.handled = none) (hok : OK s.heap) (hn : n ≤ sizeLine) (hT : s.TypeIs (.ref r) T)
    (hnt : (Value.type T == Value.type "tuple") = false)
    (h : ∀ (h' : Heap) (tk : Nat) (acc : Array Value), (∀ b o, s.heap.get? b = some o → h'.get? b = some o) → ItemsOf PP acc n →
      Q₁ (.ref h'.objs.size) { s with heap := h'.push { cls := .type "tuple", data := .seq acc }, toks := tk }) :
    codeAny (model prog w) A (.call (.builtin "tuple.__new__") ⟨[.type "tuple", .ref r], []⟩) (wants Q₁ E) s := by
  refine codeAny_of_tree ?_
  show wpAny _ A.in1 (do checkBuiltinCall "tuple.__new__" ⟨[.type "tuple", .ref r], []⟩; again (.builtin "tuple.__new__" ⟨[.type "tuple", .ref r], []⟩)) _ _ s
  refine wpAny_bind (wpAny_of_eq (F.newCall_tuple_1 _) (wpAny_pure ⟨plainId_quiet F.plain_tuple_new _, codeAny_builtin F.entry_tuple_new ?_⟩))
  rw [Around.under_plainId F.plain_tuple_new _]
  have q1 := sub_tuple_self
  have q2 := init_tuple_lookup
  have q3 := madeHere_tuple
  have hh1 : A.in1.handled = none := hh
  wp_walk using wpAny_typeOf hT, PySem.W.kdu_collect (A := A.in1) KS hh1 hok hn
  intro h' tk acc hk hacc
  show wpAny _ _ (Builtin.Tuple.tupleExact acc.toList.toArray >>= fun v => ret v) _ _ _
  unfold Builtin.Tuple.tupleExact
  refine wpAny_bind (wpAny_newObj_type (wpAny_pure ?_) ?_)
  · rw [Array.toArray_toList]; exact h h' tk acc hk hacc
  · show acc.toList.toArray.size ≤ sizeLine
    rw [Array.toArray_toList, hacc.1]; exact hn
theorem callTupD {T : String} {r d : Addr} {n : Nat} {PP : Nat → Value → Prop} {OK : Heap → Prop} {Q : Value → Shared → Prop} (KS : PySem.W.KdlSrc prog w T r d n PP OK)
    (hh : A.handled = none) (hok : OK s.heap) (hn : n ≤ sizeLine) (hT : s.TypeIs (.ref r) T) (hnt : (Value.type T == Value.type "tuple") = false)
    (hQ : ∀ (h' : Heap) (tk : Nat) (acc : Array Value), (∀ b o, s.heap.get? b = some o → h'.get? b = some o) → ItemsOf PP acc n →
      Q (.ref h'.objs.size) { s with heap := h'.push { cls := .type "tuple", data := .seq acc }, toks := tk }) :
    wpAny (model prog w) A (call (.type "tuple") [.ref r]) Q E s := by
  have made := newTupD (Q₁ := fun obj s₁ => s₁.TypeIs obj "tuple" ∧ Q obj s₁) (E := E) (A := A.in1) KS hh hok hn hT hnt
    fun h' tk acc hk hacc => ⟨⟨_, Heap.get?_push_size _ rfl, rfl⟩, hQ h' tk acc hk hacc⟩
  refine callType_codes F.called_tuple (F.typeCall_tuple_1 _) F.entry_object_init made fun obj s₁ h₁ => ⟨h₁.1, F.args_object_init_2 obj _, ?_⟩
  exact object_init_meets F.called_tuple.init.lookup F.called_tuple.made (by decide) prog w A.in1 _ s₁ ⟨h₁.1, rfl, h₁.2⟩
end
def rTupD : List V → Hp → VK → Prop := fun xs H Q => ∃ p kvs, xs = [.ref p] ∧ H p = some (.dK kvs) ∧
  ∀ q, H q = none → Q (.ref q) (upd H q (.tup (kvs.map fun kv => kV kv.1)))
theorem call_tupleD {X : Cx} (hc : X.calm = true) : CallR X (.type "tuple") rTupD := by
  intro pins s σ H xs us Q I r h
  obtain ⟨p, kvs, rfl, hk, q⟩ := h
  obtain ⟨u, rfl, rx⟩ := vals1 r
  obtain rfl : u = Value.ref p := rx
  obtain ⟨z, lo, vs, rk, hd⟩ := (show ObjOk X.prog X.w H s.heap p (.dK kvs) from I.hok p _ hk)
  obtain ⟨ep, hat⟩ := hd.dictAt
  have hl : kvs.length = vs.length := Paired.length rk
  refine callTupD (PySem.W.kdl_dict (knd := mixKind X.prog X.w) (kvs := vs) (ep := ep) lo) (I.ok.hd hc) hat (by rw [← hl]; exact z) hd.typeIs (by decide) fun h' tk acc hkeep hacc => ?_
  have I1 : Inv X pins σ H { s with heap := h', toks := tk } := I.kept (t' := tk) hkeep
  refine ⟨.ref h'.objs.size, upd H h'.objs.size (.tup (kvs.map fun kv => kV kv.1)), I1.laid (t' := tk) (fun b o e => Heap.get?_push_of_some _ e) (Nat.le_refl _)
    (show ObjOk X.prog X.w _ _ _ (.tup (kvs.map fun kv => kV kv.1)) from ⟨?_, acc.toList, ?_, ?_⟩), rfl, q _ (I1.hok.fresh (Nat.le_refl _))⟩
  · rw [List.length_map]; exact z
  · have el : acc.toList.length = acc.size := Array.length_toList
    refine vals_of_at (by rw [List.length_map, el, hacc.1, hl]) fun j x w h1 h2 => ?_
    obtain ⟨k, y, hky, hi⟩ := hacc.2 j w (by rw [← Array.getElem?_toList]; exact h2)
    have e1 : (kvs.map (·.1))[j]? = some k := by
      rw [KV.keys rk, List.getElem?_map, hky]; rfl
    have e3 : (kvs.map fun kv => kV kv.1) = (kvs.map (·.1)).map kV := by rw [List.map_map]; rfl
    rw [e3, List.getElem?_map, e1] at h1
    cases h1
    exact keyIs_rel hi
  · rw [Array.toArray_toList]; exact IsTup.new _ _

/-! ## list.extend(a tuple) -/
theorem ext_tup (l : Addr) (items : Array Value) (n : Nat) (b : Addr) (dd : Option Addr) (sl : Array (Option Value)) (items2 : Array Value) (n2 : Nat)
    (a0 : ¬(!items.isEmpty && Builtin.List.listTooLong (items.size + items2.size)) = true) (a1 : items.size ≤ sizeLine) (a2 : items.size + items2.size ≤ sizeLine + 1) :
    Meets (Builtin.«list.extend» ⟨[.ref l, .ref b], []⟩) (fun _ R s => s.heap.get? l = some { cls := .type "list", dict := none, data := .seq items n, slots := #[] } ∧
      s.heap.get? b = some { cls := .type "tuple", dict := dd, data := .seq items2 n2, slots := sl } ∧
      R (.ok (.ret Value.none)) { s with heap := s.heap.update l (Obj.mapSeq fun x => x ++ items2), toks := s.toks }) :=
  .of_wp fun prog w A R s h => by
    obtain ⟨hp, g, d, tk, os⟩ := s
    obtain ⟨hl, hb, h⟩ := h
    have f1 := AutoSeq1.idx_int
    have f2 := AutoSeq1.sub_tuple_tuple
    have f3 := AutoSeq1.sub_list_list
    have f4 := AutoSeq1.sub_tuple_list
    have f5 := AutoSeq1.sub_list_tuple
    have big : (items ++ items2).size ≤ sizeLine + 1 := by rw [Array.size_append]; exact a2
    wp_walk using (wpAny_updateSeq hl rfl (hz := a1) (_hz' := big)), wpAny_loadPart' hl, wpAny_loadPart' hb
    exact ⟨_, rfl, h⟩
def rExtT (K : PySem.W.Frag) : V → List V → Hp → VK → Prop := fun x vs H Q => ∃ l b xs zs, x = .ref l ∧ vs = [.ref b] ∧
  H l = some (.lst xs) ∧ SqT K H b zs ∧ xs.length + zs.length ≤ sizeLine ∧ Q .non (upd H l (.lst (xs ++ zs)))
theorem mt_extendT {X : Cx} : MtM X "list.extend" (rExtT X.K) := by
  intro pins s σ H x vs v us Q I rx rv h
  obtain ⟨l, b, xs, zs, rfl, rfl, hH, hB, hz, q⟩ := h
  cases rx
  obtain ⟨u, rfl, ru⟩ := rv.one
  cases ru
  obtain ⟨z, its, n, r, hl, e⟩ := I.lstM hH
  obtain ⟨its2, r2, ⟨⟨cl, dd, dt, sl⟩, e2, hc, n2, hd⟩, z2⟩ := I.tuple hB
  simp only at hc hd
  subst hc hd
  have l2 : zs.length = its2.length := r2.length
  have size2 : its.toArray.size + its2.toArray.size ≤ sizeLine := by rw [List.size_toArray, List.size_toArray]; omega
  have short : ¬ (!its.toArray.isEmpty && Builtin.List.listTooLong (its.toArray.size + its2.toArray.size)) = true := by
    rw [notLongL size2, Bool.and_false]; exact Bool.false_ne_true
  refine call_meets F.slot_list_extend ⟨_, e, rfl⟩ F.entry_list_extend (F.args_list_extend_2 _ _)
    (ext_tup l its.toArray n b dd sl its2.toArray n2 short (by rw [List.size_toArray]; omega) (by omega)) ⟨e, e2, ?_⟩
  refine ⟨.non, _, I.lset (its' := its ++ its2) hH e (by simp) (r.append r2) ?_, rfl, q⟩
  rw [List.length_append]
  exact hz

/-! ## t[:0:-1], t[::-1] of a tuple -/
theorem backPick (xs : Array Value) : ∀ k : Nat, k ≤ xs.size →
    ((List.range k).filterMap fun (m : Nat) => xs[(((xs.size : Int) - 1) + (m : Int) * (-1)).toNat]?) = (xs.toList.drop (xs.size - k)).reverse
  | 0, _ => by simp
  | k + 1, h => by
    have ih := backPick xs k (by omega)
    have hi : xs.size - (k + 1) < xs.toList.length := by rw [Array.length_toList]; omega
    have e1 : (((xs.size : Int) - 1) + (k : Int) * (-1)).toNat = xs.size - (k + 1) := by omega
    have e2 : xs.toList.drop (xs.size - (k + 1)) = xs.toList[xs.size - (k + 1)] :: xs.toList.drop (xs.size - k) := by
      have e3 : xs.size - (k + 1) + 1 = xs.size - k := by omega
      rw [← e3]; exact List.drop_eq_getElem_cons hi
    have e4 : xs[xs.size - (k + 1)]? = some xs.toList[xs.size - (k + 1)] := by
      rw [← Array.getElem?_toList]; exact List.getElem?_eq_getElem hi
    rw [List.range_succ, List.filterMap_append, ih, e2, List.reverse_cons]
    congr 1
    simp only [List.filterMap_cons, List.filterMap_nil, e1, e4]
section
variable {prog : Program} {w : World} {A : Around} {E : Value → Shared → Prop} {s : Shared}
theorem sliceBack {sl : Addr} {vl vu vs : Value} {lo hi st : Option Int} {n : Nat} {Q : Int × Int × Nat → Shared → Prop} (hs : s.heap.IsSliceOf sl vl vu vs)
    (pl : IsPart vl lo) (pu : IsPart vu hi) (ps : IsPart vs (some (-1))) (L : Int) (k : Nat)
    (ha : ∃ b, Builtin.Slice.sliceAdjust lo hi (-1) (n : Int) = (L, b) ∧ Builtin.Slice.slicePlaces L b (-1) = k)
    (h : Q (L, -1, k) s) : wpAny (model prog w) A (Builtin.Slice.sliceApplied (.ref sl) (pure (n : Int))) Q E s := by
  obtain ⟨os, hos, hcs, hds⟩ := id hs
  obtain ⟨b, e1, e2⟩ := ha
  unfold Builtin.Slice.sliceApplied Builtin.Slice.sliceFields
  refine wpAny_bind (wpAny_bind (wpAny_field hos hds (x := vl) rfl (wpAny_bind (wpAny_field hos hds (x := vu) rfl (wpAny_bind (wpAny_field hos hds (x := vs) rfl (wpAny_pure ?_)))))))
  refine wpAny_bind (HT.slicePart_ ps ?_)
  show wpAny _ _ (if ((-1 : Int) == 0) = true then _ else _) _ _ s
  rw [if_neg (by decide)]
  refine wpAny_bind (HT.slicePart_ pl (wpAny_bind (HT.slicePart_ pu (wpAny_bind (wpAny_pure ?_)))))
  show wpAny _ _ (match Builtin.Slice.sliceAdjust lo hi (-1) (n : Int) with | (lo, hi) => pure (lo, (-1 : Int), Builtin.Slice.slicePlaces lo hi (-1))) _ _ s
  rw [e1]
  show wpAny _ _ (pure (L, (-1 : Int), Builtin.Slice.slicePlaces L b (-1))) _ _ s
  rw [e2]
  exact wpAny_pure h
theorem itemsBack {t sl : Addr} {items : Array Value} {vl vu vs : Value} {lo hi : Option Int} {Q : Value → Shared → Prop} (ht : IsTup s.heap t items)
    (hs : s.heap.IsSliceOf sl vl vu vs) (pl : IsPart vl lo) (pu : IsPart vu hi) (ps : IsPart vs (some (-1))) (k : Nat) (hk : k ≤ items.size)
    (ha : ∃ b, Builtin.Slice.sliceAdjust lo hi (-1) (items.size : Int) = ((items.size : Int) - 1, b) ∧ Builtin.Slice.slicePlaces ((items.size : Int) - 1) b (-1) = k)
    (h : Q (.ref s.heap.objs.size) { s with heap := s.heap.push { cls := .type "tuple", data := .seq ((items.toList.drop (items.size - k)).reverse).toArray } })
    (hsz : items.size ≤ sizeLine) : wpAny (model prog w) A (getItem (.ref t) (.ref sl)) Q E s := by
  have fits : sizeOk (.seq ((items.toList.drop (items.size - k)).reverse).toArray) := by
    show ((items.toList.drop (items.size - k)).reverse).toArray.size ≤ sizeLine
    rw [List.size_toArray, List.length_reverse, List.length_drop, Array.length_toList]; omega
  obtain ⟨os, hos, hcs, hds⟩ := id hs
  have tySl : s.TypeIs (.ref sl) "slice" := ⟨os, hos, hcs⟩
  unfold getItem
  try with_reducible refine wpAny_holding ?_
  first | refine wpAny_bind (wpAny_pure ?_) | skip
  refine wpAny_bind (wpAny_sequenceKey ht.typeIs (by decide) ?_)
  refine wpAny_bind (wpAny_callSpecial?_slot (name := Str.ofString "__getitem__") ht.typeIs PyProof.Rows.slot_tuple_getitem
    (wpAny_call_entry PyProof.Rows.slot_tuple_getitem ht.typeIs entry_tuple_getitem ?_ (args_tuple_getitem _ _)))
  show wpAny _ _ (Builtin.Tuple.tupleItemsOf (.ref t) >>= _) _ _ s
  refine wpAny_bind (tupleItemsOf_ ht (wpAny_bind (wpAny_typeOf tySl ?_)))
  rw [if_pos (by decide)]
  refine wpAny_bind (sliceBack (st := some (-1)) hs pl pu ps _ k ha ?_)
  have notAll : ¬ ((((items.size : Int) - 1 == 0) && (-1 : Int) == 1 && k == items.size) = true) := by simp
  show wpAny _ _ (if (((items.size : Int) - 1 == 0) && (-1 : Int) == 1 && k == items.size) = true then _ else _) _ _ s
  rw [if_neg notAll, backPick items k hk]
  first
    | exact wpAny_bind (m := Builtin.Tuple.tupleExact _) (wpAny_newObj_type (wpAny_pure ⟨_, rfl, wpAny_pure h⟩) fits)
    | exact wpAny_bind (wpAny_bind (m := Builtin.Tuple.tupleExact _) (wpAny_newObj_type (wpAny_pure ⟨_, rfl, wpAny_pure h⟩) fits))
end
section
variable {X : Cx} {e : Expr} {te : TE} {k k0 : Nat} {p0 p1 p2 p3 pos : Pos}
/-- t[:0:-1], t a tuple that has an item: all but the first, from behind -/
def tBack0 (K : PySem.W.Frag) (te : TE) : TE := fun σ H Q => te σ H fun x H1 => ∃ a y xs, x = .ref a ∧ SqT K H1 a (y :: xs) ∧
  ∀ p, H1 p = none → Q (.ref p) (upd H1 p (.tup xs.reverse))
theorem adj0 (n : Nat) : ∃ b, Builtin.Slice.sliceAdjust none (some 0) (-1) (((n + 1 : Nat) : Int)) = (((n + 1 : Nat) : Int) - 1, b) ∧ Builtin.Slice.slicePlaces ((((n + 1 : Nat) : Int)) - 1) b (-1) = n := by
  refine ⟨0, ?_, ?_⟩
  · unfold Builtin.Slice.sliceAdjust
    simp only [show ¬ ((-1 : Int) > 0) by decide, if_false]
    simp
    omega
  · unfold Builtin.Slice.slicePlaces
    simp only [show ¬ ((-1 : Int) > 0) by decide, if_false, show -(-1 : Int) = 1 from rfl, Int.ediv_one]
    split <;> omega
theorem pe_back0 (he : PE X e te) : PE X (.Subscript e (.Slice none (some (.Constant (.int 0) k0 p0)) (some (.UnaryOp .USub (.Constant (.int 1) k p1) p2)) p3) pos) (tBack0 X.K te) := by
  constructor
  intro pins s σ H Q I h
  refine Subscript_ (thn (he.run pins s σ H _ I h) fun v s1 z => ?_)
  obtain ⟨x, H1, I1, r1, a, y, xs, ex, hx, q⟩ := z
  subst ex
  cases r1
  have hst : PO X (some (.UnaryOp .USub (.Constant (.int 1) k p1) p2)) (tPart (tUn (rU fun i => .int (-i)) (tC (.int 1)))) := po_some (pe_un un_neg pe_int)
  have h0 : PO X (some (.Constant (.int 0) k0 p0)) (tPart (tC (.int 0))) := po_some pe_int
  refine wpAny_Slice (thn (po_none.run pins s1 σ H1 (fun o H2 => o = none ∧ H2 = H1) I1 ⟨rfl, rfl⟩) ?_)
  rintro vl s2 ⟨l, H2, I2, pl, rfl, rfl⟩
  refine thn (h0.run pins s2 σ H2 (fun o H3 => o = some 0 ∧ H3 = H2) I2 ⟨0, rfl, rfl, rfl⟩) ?_
  rintro vu s3 ⟨u, H3, I3, pu, rfl, rfl⟩
  refine thn (hst.run pins s3 σ H3 (fun o H4 => o = some (-1) ∧ H4 = H3) I3 ⟨1, rfl, -1, rfl, rfl, rfl⟩) ?_
  rintro vs s4 ⟨o, H4, I4, ps, rfl, rfl⟩
  have I5 : Inv X pins σ H4 { s4 with heap := s4.heap.push { cls := .type "slice", data := .fields #[vl, vu, vs] } } :=
    I4.kept (t' := s4.toks) fun b ob z => Heap.get?_push_of_some _ z
  obtain ⟨its, r, ht, hz⟩ := I5.tuple hx
  obtain ⟨w0, ws, rfl⟩ : ∃ w0 ws, its = w0 :: ws := by cases r; exact ⟨_, _, rfl⟩
  have hlen := r.length
  simp only [List.length_cons] at hlen hz
  refine tail_any (ops := [.ref a, .ref s4.heap.objs.size]) ht.typeIs (PyProof.Rows.slot_tuple_getitem.lookup) ?_ (by with_unfolding_all rfl)
  refine itemsBack ht (Heap.IsSliceOf.new _ vl vu vs) pl pu ps ws.length (by simp) (by simpa using adj0 ws.length) ?_ (by rw [List.size_toArray, List.length_cons]; omega)
  have e1 : ((w0 :: ws).toArray.toList.drop ((w0 :: ws).toArray.size - ws.length)).reverse = ws.reverse := by simp
  rw [e1]
  refine ⟨.ref _, _, I5.laid (t' := s4.toks) (o := .tup xs.reverse) (fun b ob z => Heap.get?_push_of_some _ z) (Nat.le_refl _) ?_, rfl, q _ (I5.hok.fresh (Nat.le_refl _))⟩
  cases r with
  | cons _ rr => exact ⟨by rw [List.length_reverse]; omega, _, (show Vals xs ws from rr).reverse, IsTup.new _ _⟩
end
end Ah

namespace Ah
open PySem PySem.Spec PyProof.Rows L2

/-! ## defs of the text, by their names -/
/-- the def st stands under its name behind the top -/
def At (K : PySem.W.Frag) (mg : Str → Option Value) (x : Str) (st : Stmt) : Prop := ∃ f fd, Fun K x x st f fd ∧ mg x = some (.ref f)
section
variable (P : Program) (w : World) (K : PySem.W.Frag) (mg : Str → Option Value) (base : Heap)
/-- .. and keeps a promise -/
def Has (k : Nat) (x : Str) (st : Stmt) (ps : List Str) (sp : Sp) : Prop :=
  ∃ f fd, Fun K x x st f fd ∧ FnOk P w K mg base CX0 k f fd ps sp ∧ Binds K fd ps [] ∧ mg x = some (.ref f)
/-- .. where no repr is running -/
def HasG (k : Nat) (x : Str) (st : Stmt) (ps : List Str) (sp : Sp) : Prop :=
  ∃ f fd, Fun K x x st f fd ∧ FnG P w K mg base CX0 k f fd ps sp ∧ Binds K fd ps [] ∧ mg x = some (.ref f)
end
/-- how many positional arguments bind -/
def Posi (x : Str) (st : Stmt) (ps : List Str) : Prop := ∀ (kV doc pm : Value) (an : Option Addr) (cdv ct : Value) (us : List Value), us.length = ps.length →
  bindArgs (PySem.W.fnOf x x (defArgs st) (defBody st) (defScope st) .none kV doc pm an cdv ct) ⟨us, []⟩ = pure (ps.zip us)
/-- how keywords alone bind: g puts their values in the parameters' order -/
def Keyw (x : Str) (st : Stmt) (ps ks : List Str) (g : {α : Type} → List α → List α) : Prop := ∀ (kV doc pm : Value) (an : Option Addr) (cdv ct : Value) (ws : List Value), ws.length = ks.length →
  bindArgs (PySem.W.fnOf x x (defArgs st) (defBody st) (defScope st) .none kV doc pm an cdv ct) ⟨[], ks.zip ws⟩ = pure (ps.zip (g ws))
section
variable {P : Program} {w : World} {K : PySem.W.Frag} {mg : Str → Option Value} {base : Heap} {x : Str} {st : Stmt} {N ps : List Str} {k : Nat} {sp : Sp}
theorem At.has (T : At K mg x st) (S : FnScope N ps (defScope st)) (b : Posi x st ps) (len : ∀ vs H Q E, sp vs H Q E → vs.length = ps.length)
    (body : ∀ (f : Addr) (cdv : Value) (A : Around) (outer : List Env) (s : Shared) (H : Hp) (vs : List V) (Q : VK) (E : XK), Room k (A.deeper (envOfC x (defScope st) s.heap.objs.size f cdv)) → sp vs H Q E →
      ∃ t, PSs (cxOf CX0 P w K mg base N x (defScope st) f cdv A outer s H E).nox (defBody st) t ∧ t { nx := fun _ H' => Q .non H', rt := Q } (start N vs) H) :
    Has P w K mg base (k + 1) x st ps sp := by
  obtain ⟨f, fd, F, m⟩ := T
  exact ⟨f, fd, F, F.ok S len (body f), F.binds b, m⟩
theorem At.hasG (T : At K mg x st) (S : FnScope N ps (defScope st)) (b : Posi x st ps) (len : ∀ vs H Q E, sp vs H Q E → vs.length = ps.length)
    (body : ∀ (f : Addr) (cdv : Value) (A : Around) (outer : List Env) (s : Shared) (H : Hp) (vs : List V) (Q : VK) (E : XK), A.guards = some [] → Room k (A.deeper (envOfC x (defScope st) s.heap.objs.size f cdv)) → sp vs H Q E →
      ∃ t, PSs (cxOf CX0 P w K mg base N x (defScope st) f cdv A outer s H E).nox (defBody st) t ∧ t { nx := fun _ H' => Q .non H', rt := Q } (start N vs) H) :
    HasG P w K mg base (k + 1) x st ps sp := by
  obtain ⟨f, fd, F, m⟩ := T
  exact ⟨f, fd, F, Fun.okG F S len (body f), F.binds b, m⟩
theorem Has.up {j : Nat} (D : Has P w K mg base j x st ps sp) (h : j ≤ k) : Has P w K mg base k x st ps sp := by
  obtain ⟨f, fd, F, G, b, m⟩ := D
  exact ⟨f, fd, F, G.mono h, b, m⟩
theorem Has.none (T : At K mg x st) (b : Posi x st ps) (no : ∀ vs H Q E, ¬ sp vs H Q E) : Has P w K mg base k x st ps sp := by
  obtain ⟨f, fd, F, m⟩ := T
  exact ⟨f, fd, F, ⟨fun vs H Q E h => (no vs H Q E h).elim, fun A outer s H args us vs Q E _ _ _ _ h => (no vs H Q E h).elim⟩, F.binds b, m⟩
theorem Has.imp {sp' : Sp} (D : Has P w K mg base k x st ps sp) (h : ∀ vs H Q E, sp' vs H Q E → sp vs H Q E) : Has P w K mg base k x st ps sp' := by
  obtain ⟨f, fd, F, G, b, m⟩ := D
  exact ⟨f, fd, F, G.imp h, b, m⟩
end
section
variable {X : Cx} {j k : Nat} {x : Str} {st : Stmt} {ps ks : List Str} {sp : Sp} {p pos : Pos} {e : Expr} {es : List Expr} {kws : List Keyword} {t tk : TA}
theorem pe_callD (D : Has X.prog X.w X.K X.mg X.base j x st ps sp) (hj : j ≤ k) (hr : Room k X.A) (ha : PA X (e :: es) t) (hg : Gl X x := by rfl)
    (hdb : (x == ("__debug__" : Str)) = false := by decide)
    (he : starEach (e :: es) X.env = (false, eval e X.env) :: starEach es X.env := by rfl) (hpl : (backTo pos (starEach es X.env)).any (·.1) = false := by rfl) :
    PE X (.Call (.Name x p) (e :: es) [] pos) (tCall sp [] E0 t) := by
  obtain ⟨f, fd, F, G, b, m⟩ := D
  exact pe_call G (hr.mono hj) hg m F.kp b .nil pass0 ha hdb he hpl
theorem pe_callDG (D : HasG X.prog X.w X.K X.mg X.base j x st ps sp) (hG : X.A.guards = some []) (hj : j ≤ k) (hr : Room k X.A) (ha : PA X (e :: es) t) (hg : Gl X x := by rfl)
    (hdb : (x == ("__debug__" : Str)) = false := by decide)
    (he : starEach (e :: es) X.env = (false, eval e X.env) :: starEach es X.env := by rfl) (hpl : (backTo pos (starEach es X.env)).any (·.1) = false := by rfl) :
    PE X (.Call (.Name x p) (e :: es) [] pos) (tCall sp [] E0 t) := by
  obtain ⟨f, fd, F, G, b, m⟩ := D
  exact pe_callG G hG (hr.mono hj) hg m F.kp b .nil pass0 ha hdb he hpl
theorem zipNil {α β : Type} : ∀ (l : List α), l.zip ([] : List β) = []
  | [] => rfl
  | _ :: _ => rfl
/-- f(k = v, ..) of a def of the text -/
theorem pe_callD0 (g : {α : Type} → List α → List α) (D : Has X.prog X.w X.K X.mg X.base j x st ps sp) (kb : Keyw x st ps ks g)
    (rel : ∀ (zs : List V) (ws : List Value), Vals zs ws → Vals (g zs) (g ws)) (hj : j ≤ k) (hr : Room k X.A) (hkw : PK X kws tk) (hg : Gl X x := by rfl)
    (hall : (backToKw pos (keywordEach kws X.env)).all (·.1.isSome) = true := by rfl)
    (hks : (backToKw pos (keywordEach kws X.env)).filterMap (·.1) = ks := by rfl)
    (hdb : (x == ("__debug__" : Str)) = false := by decide)
    (hpl : ((backTo pos (starEach [] X.env)).any (·.1) || (backToKw pos (keywordEach kws X.env)).any (·.1.isNone)) = false := by rfl) :
    PE X (.Call (.Name x p) [] kws pos) (tCallN 0 ks.length sp (fun _ zs => g zs) E0 tNil tk) := by
  obtain ⟨f, fd, F, G, b, m⟩ := D
  have kb' : KBn X.K fd ps 0 ks (fun _ ws => g ws) (fun _ zs => g zs) := by
    constructor
    · intro s us ws _ l1 l2
      obtain rfl : us = [] := List.length_eq_zero_iff.mp l1
      obtain ⟨oc, od, kV, doc, pm, an, cdv, ct, osl, rfl, lk, hcd⟩ := F.ex
      exact .of_eq (kb kV doc pm an cdv ct ws l2)
    · intro vs us zs ws _ rz
      exact rel zs ws rz
  exact pe_callKw G (hr.mono hj) hg m F.kp kb' pass0 hkw hall hks hdb hpl
end
theorem rel1 (zs : List V) (ws : List Value) (r : Vals zs ws) : Vals (id zs) (id ws) := r

/-! ## built-in classes as values -/
section
variable {X : Cx} {pos : Pos}
theorem pe_ty_str (m : X.mg "str" = none) (hg : Gl X "str" := by rfl) : PE X (.Name "str" pos) (tC (.ty "str")) := pe_bltn hg m (by decide +kernel) rfl
theorem pe_ty_int (m : X.mg "int" = none) (hg : Gl X "int" := by rfl) : PE X (.Name "int" pos) (tC (.ty "int")) := pe_bltn hg m (by decide +kernel) rfl
theorem pe_ty_tuple (m : X.mg "tuple" = none) (hg : Gl X "tuple" := by rfl) : PE X (.Name "tuple" pos) (tC (.ty "tuple")) := pe_bltn hg m (by decide +kernel) rfl
theorem pe_ty_list (m : X.mg "list" = none) (hg : Gl X "list" := by rfl) : PE X (.Name "list" pos) (tC (.ty "list")) := pe_bltn hg m (by decide +kernel) rfl
theorem pe_ty_bool (m : X.mg "bool" = none) (hg : Gl X "bool" := by rfl) : PE X (.Name "bool" pos) (tC (.ty "bool")) := pe_bltn hg m (by decide +kernel) rfl
end

/-! ## heaps: what is kept -/
/-- all that was tracked, but at ms, is as it was -/
def Kp (ms : List Addr) (H H' : Hp) : Prop := ∀ b o, b ∉ ms → H b = some o → H' b = some o
theorem Kp.refl (ms : List Addr) (H : Hp) : Kp ms H H := fun _ _ _ h => h
theorem Kp.trans {ms : List Addr} {H H1 H2 : Hp} (a : Kp ms H H1) (b : Kp ms H1 H2) : Kp ms H H2 := fun c o n h => b c o n (a c o n h)
theorem Kp.wide {ms ns : List Addr} {H H' : Hp} (a : Kp ms H H') (h : ∀ b, b ∈ ms → b ∈ ns) : Kp ns H H' := fun c o n q => a c o (fun z => n (h c z)) q
theorem Kp.of_same {ms : List Addr} {H H' : Hp} (a : Same H H') : Kp ms H H' := fun c o _ q => a c o q
theorem Kp.same {H H' : Hp} (a : Kp [] H H') : Same H H' := fun c o q => a c o (fun z => by cases z) q
theorem Kp.new {ms : List Addr} {H : Hp} {p : Addr} {o : HO} (h : H p = none) : Kp ms H (upd H p o) := fun b u _ q => by rw [upd_ne (ne_of_none q h)]; exact q
theorem Kp.put {ms : List Addr} {H : Hp} {p : Addr} {o : HO} (h : p ∈ ms) : Kp ms H (upd H p o) := fun b u n q => by
  have hne : b ≠ p := fun e => n (e ▸ h)
  rw [upd_ne hne]; exact q
/-- a write to what was not there in H₀ -/
theorem Kp.put0 {ms : List Addr} {H₀ H : Hp} {p : Addr} {o : HO} (k : Kp ms H₀ H) (h : H₀ p = none) : Kp ms H₀ (upd H p o) := fun b u n q => by
  rw [upd_ne (ne_of_none q h)]; exact k b u n q
theorem Kp.free {ms : List Addr} {H H' : Hp} (k : Kp ms H H') {p : Addr} (hp : H' p = none) (hm : p ∉ ms) : H p = none := by
  cases q : H p with
  | none => rfl
  | some u => rw [k p u hm q] at hp; cases hp
theorem Kp.tup {ms : List Addr} {H H' : Hp} (k : Kp ms H H') (hm : ∀ m ∈ ms, ∀ ys, H m ≠ some (.tup ys)) {b : Addr} {xs : List V} (q : H b = some (.tup xs)) : H' b = some (.tup xs) :=
  k b _ (fun z => hm b z xs q) q

/-! ## the hand: a list of three numbers, of which draws are taken -/
def Hand (n : Nat) (H : Hp) (a : Addr) : Prop := ∃ g d c : Int, H a = some (.lst [.int g, .int d, .int c]) ∧ 0 ≤ g ∧ g < 10 ^ 180 ∧ 0 ≤ d ∧ d < 2147483647 ∧ 0 ≤ c ∧ c ≤ (n : Int)
theorem Hand.more {n m : Nat} {H : Hp} {a : Addr} (h : Hand n H a) (l : n ≤ m) : Hand m H a := by
  obtain ⟨g, d, c, h0, h1, h2, h3, h4, h5, h6⟩ := h
  exact ⟨g, d, c, h0, h1, h2, h3, h4, h5, by omega⟩
theorem Hand.keep {n : Nat} {ms : List Addr} {H H' : Hp} {a : Addr} (h : Hand n H a) (k : Kp ms H H') (hn : a ∉ ms) : Hand n H' a := by
  obtain ⟨g, d, c, h0, h1⟩ := h
  exact ⟨g, d, c, k _ _ hn h0, h1⟩
theorem Hand.new {n : Nat} {H : Hp} {a p : Addr} {o : HO} (h : Hand n H a) (hp : H p = none) : Hand n (upd H p o) a := h.keep (ms := []) (Kp.new hp) (fun z => by cases z)
theorem Hand.there {n : Nat} {H : Hp} {a : Addr} (h : Hand n H a) : ∃ xs, H a = some (.lst xs) := by
  obtain ⟨g, d, c, h0, _⟩ := h
  exact ⟨_, h0⟩
theorem Hand.ne {n : Nat} {H : Hp} {a p : Addr} (h : Hand n H a) (hp : H p = none) : a ≠ p := by
  obtain ⟨xs, q⟩ := h.there
  exact ne_of_none q hp
end Ah

namespace Ah
open PySem PySem.Spec PyProof.Rows L2
/-! ## // and % by positive numbers -/
theorem fm0 {g m : Int} (h : 1 ≤ m) : 0 ≤ g.fmod m := by rw [Int.fmod_eq_emod_of_nonneg g (by omega)]; exact Int.emod_nonneg _ (by omega)
theorem fm1 {g m : Int} (h : 1 ≤ m) : g.fmod m < m := by rw [Int.fmod_eq_emod_of_nonneg g (by omega)]; exact Int.emod_lt_of_pos _ (by omega)
theorem fd0 {g m : Int} (hg : 0 ≤ g) (h : 1 ≤ m) : 0 ≤ g.fdiv m := by rw [Int.fdiv_eq_ediv_of_nonneg _ (by omega)]; exact Int.ediv_nonneg hg (by omega)
theorem fd1 {g m : Int} (hg : 0 ≤ g) (h : 1 ≤ m) : g.fdiv m ≤ g := by rw [Int.fdiv_eq_ediv_of_nonneg _ (by omega)]; exact Int.ediv_le_self _ hg
theorem fd2 {g m k : Int} (h : 1 ≤ m) (hg : g < m * k) : g.fdiv m < k := by
  rw [Int.fdiv_eq_ediv_of_nonneg _ (by omega)]
  exact Int.ediv_lt_of_lt_mul (by omega) (by rw [Int.mul_comm]; exact hg)
theorem five {c : Int} : c.fmod 5 = 0 ∨ c.fmod 5 = 1 ∨ c.fmod 5 = 2 ∨ c.fmod 5 = 3 ∨ c.fmod 5 = 4 := by
  have h0 : 0 ≤ c.fmod 5 := fm0 (by decide)
  have h1 : c.fmod 5 < 5 := fm1 (by decide)
  omega
/-! ## an item of a list at a number within it -/
theorem atI_in {α : Type} {xs : List α} {k : Int} (h0 : 0 ≤ k) (h1 : k < (xs.length : Int)) : ∃ x, atI xs k = some x ∧ x ∈ xs ∧ xs[k.toNat]? = some x := by
  have hk : k.toNat < xs.length := by omega
  have ek : k = ((k.toNat : Nat) : Int) := by omega
  refine ⟨xs[k.toNat], ?_, List.getElem_mem _, List.getElem?_eq_getElem hk⟩
  have q : atI xs ((k.toNat : Nat) : Int) = some xs[k.toNat] := atI_nat (List.getElem?_eq_getElem hk)
  rw [← ek] at q
  exact q
theorem szLe {n : Nat} (h : Nat.ble n 1000 = true) : n ≤ sizeLine := Nat.le_of_lt (small1000 (Nat.le_of_ble_eq_true h))
theorem seqW {c : TT} {tb b : TS} {D : Ends} {σ : L2.St} {H : Hp} (h : tWhile c tb { D with nx := b D } σ H) : tSeq (tWhile c tb) b D σ H := h
theorem atI0 {α : Type} {x : α} {xs : List α} : atI (x :: xs) 0 = some x := atI_nat (j := 0) rfl
end Ah

namespace Ah
open PySem PySem.Spec PyProof.Rows L2

/-! ## names -/
def Nm (z : Str) : Prop := 1 ≤ z.length ∧ z.length ≤ 8 ∧ ∀ c ∈ z.cps.toList, 97 ≤ c ∧ c ≤ 122
def Full (f : Str) : Prop := ∃ l o : Str, Nm l ∧ Nm o ∧ f = l ++ ("." : Str) ++ o
theorem Full.length {f : Str} (h : Full f) : f.length ≤ 17 := by
  obtain ⟨l, o, hl, ho, rfl⟩ := h
  have e : (l ++ ("." : Str) ++ o).length = l.length + 1 + o.length := by
    show ((l.cps ++ _) ++ o.cps).size = l.cps.size + 1 + o.cps.size
    rw [Array.size_append, Array.size_append]; rfl
  have := hl.2.1
  have := ho.2.1
  omega
theorem Nm.append {a b : Str} (ha : ∀ c ∈ a.cps.toList, 97 ≤ c ∧ c ≤ 122) (hb : ∀ c ∈ b.cps.toList, 97 ≤ c ∧ c ≤ 122) : ∀ c ∈ (a ++ b).cps.toList, 97 ≤ c ∧ c ≤ 122 := by
  intro c hc
  have e : (a ++ b).cps.toList = a.cps.toList ++ b.cps.toList := Array.toList_append
  rw [e] at hc
  rcases List.mem_append.mp hc with h | h
  · exact ha c h
  · exact hb c h
def AB : Str := "abcdefghijklmnopqrstuvwxyz"
theorem ab_in : ∀ c ∈ AB.cps.toList, 97 ≤ c ∧ c ≤ 122 := by decide +kernel
theorem ab_len : AB.length = 26 := by decide +kernel
/-- a letter so many times -/
def times : List Int := [1, 1, 2, 8]
theorem mulOk1 {c : Nat} {n : Int} (h : n ∈ times) : MulOk ⟨#[c]⟩ n := by
  simp only [times, List.mem_cons, List.not_mem_nil, or_false] at h
  rcases h with rfl | rfl | rfl | rfl <;> refine ⟨by decide, fun _ _ => ?_, fun _ _ => ?_⟩ <;> first | (show ¬ ((1 : Int) > _); decide) | rfl
theorem mulNm {c : Nat} {n : Int} (h : n ∈ times) (h0 : 97 ≤ c) (h1 : c ≤ 122) : Nm (Txt.mul ⟨#[c]⟩ n) := by
  simp only [times, List.mem_cons, List.not_mem_nil, or_false] at h
  rcases h with rfl | rfl | rfl | rfl
  · exact ⟨by show 1 ≤ 1; decide, by show 1 ≤ 8; decide, fun d hd => by have : d ∈ [c] := hd; simp at this; omega⟩
  · exact ⟨by show 1 ≤ 1; decide, by show 1 ≤ 8; decide, fun d hd => by have : d ∈ [c] := hd; simp at this; omega⟩
  · exact ⟨by show 1 ≤ 2; decide, by show 2 ≤ 8; decide, fun d hd => by have : d ∈ [c, c] := hd; simp at this; omega⟩
  · exact ⟨by show 1 ≤ 8; decide, by show 8 ≤ 8; decide, fun d hd => by have : d ∈ [c, c, c, c, c, c, c, c] := hd; simp at this; omega⟩
theorem timesV {i : Nat} {x : V} (h : ([V.int 1, .int 1, .int 2, .int 8] : List V)[i]? = some x) : ∃ n, x = .int n ∧ n ∈ times := by
  have m := List.mem_of_getElem? h
  simp only [List.mem_cons, List.not_mem_nil, or_false] at m
  rcases m with rfl | rfl | rfl | rfl <;> exact ⟨_, rfl, by decide⟩

theorem strLen (a b : Str) : (a ++ b).length = a.length + b.length := Array.size_append
theorem getSnoc {α : Type} {xs : List α} {y z : α} {j : Nat} (h : (xs ++ [y])[j]? = some z) : (j < xs.length ∧ xs[j]? = some z) ∨ (j = xs.length ∧ z = y) := by
  by_cases hj : j < xs.length
  · left; rw [List.getElem?_append_left hj] at h; exact ⟨hj, h⟩
  · right
    rw [List.getElem?_append_right (by omega)] at h
    have : j - xs.length = 0 := by
      have := (List.getElem?_eq_some_iff.mp h).1
      simp at this; omega
    rw [this] at h
    cases h
    exact ⟨by omega, rfl⟩
/-! ## the drawn names, with how many parts each has -/
def NameAt (H : Hp) (t : Addr) (f : Str) (m : Int) : Prop := H t = some (.tup [.str f, .int m]) ∧ Full f ∧ 0 ≤ m ∧ m ≤ 3
def Names (H : Hp) (r : Addr) : Prop := ∃ ts : List Addr, H r = some (.lst (ts.map V.ref)) ∧ ts.length ≤ 5 ∧ (∃ t ∈ ts, ∃ f, NameAt H t f 0) ∧ ∀ t ∈ ts, ∃ f m, NameAt H t f m
theorem NameAt.keep {ms : List Addr} {H H' : Hp} {t : Addr} {f : Str} {m : Int} (h : NameAt H t f m) (k : Kp ms H H') (n : ∀ x ∈ ms, ∀ xs, H x ≠ some (.tup xs)) : NameAt H' t f m :=
  ⟨k.tup n h.1, h.2⟩
theorem Names.keep {ms : List Addr} {H H' : Hp} {r : Addr} (h : Names H r) (k : Kp ms H H') (hr : r ∉ ms) (n : ∀ x ∈ ms, ∀ xs, H x ≠ some (.tup xs)) : Names H' r := by
  obtain ⟨ts, h0, h1, ⟨t, ht, f, h2⟩, h3⟩ := h
  refine ⟨ts, k _ _ hr h0, h1, ⟨t, ht, f, h2.keep k n⟩, fun t ht => ?_⟩
  obtain ⟨f, m, h⟩ := h3 t ht
  exact ⟨f, m, h.keep k n⟩
theorem lstNo {H : Hp} {a : Addr} {xs : List V} (h : H a = some (.lst xs)) : ∀ ys, H a ≠ some (.tup ys) := fun ys q => by rw [h] at q; cases q
theorem Hand.noTup {n : Nat} {H : Hp} {a : Addr} (h : Hand n H a) : ∀ ys, H a ≠ some (.tup ys) := by
  obtain ⟨xs, q⟩ := h.there
  exact lstNo q
theorem Hand.put {n : Nat} {H : Hp} {a p : Addr} {o : HO} (h : Hand n H a) (hp : p ≠ a) : Hand n (upd H p o) a := h.keep (ms := [p]) (Kp.put (by simp)) (by simpa using fun e => hp e.symm)
theorem strNo {α : Type} {f : α → Str} (xs : List α) (g d c : Int) : (xs.map fun x => V.str (f x)) ≠ [V.int g, .int d, .int c] := by
  intro h
  cases xs with
  | nil => cases h
  | cons x r => cases h
theorem refNo (xs : List Addr) (g d c : Int) : (xs.map V.ref) ≠ [V.int g, .int d, .int c] := by
  intro h
  cases xs with
  | nil => cases h
  | cons x r => cases h
/-- the hand is none of the lists that hold other things -/
theorem Hand.neL {n : Nat} {H : Hp} {a b : Addr} {xs : List V} (h : Hand n H a) (hb : H b = some (.lst xs)) (hx : ∀ g d c : Int, xs ≠ [V.int g, .int d, .int c]) : b ≠ a := by
  rintro rfl
  obtain ⟨g, d, c, h0, _⟩ := h
  rw [h0] at hb
  cases hb
  exact hx g d c rfl
end Ah

namespace Ah
open PySem PySem.Spec PyProof.Rows L2

/-! ## trees -/
inductive Tr where
  | h (s : Str)
  | n (f : Str) (ps : List Tr)
mutual
def Tr.data : Tr → PyData
  | .h s => .str s
  | .n f ps => .tuple (.str f :: datas ps)
def datas : List Tr → List PyData
  | [] => []
  | t :: r => t.data :: datas r
end
mutual
/-- the trees that stand in it, itself first, as they come -/
def Tr.pre : Tr → List Tr
  | .h s => [.h s]
  | .n f ps => .n f ps :: pres ps
def pres : List Tr → List Tr
  | [] => []
  | t :: r => t.pre ++ pres r
end
mutual
def Tr.deep : Tr → Nat
  | .h _ => 0
  | .n _ ps => deeps ps + 1
def deeps : List Tr → Nat
  | [] => 0
  | t :: r => max t.deep (deeps r)
end
mutual
def Tr.ok (zs : List Str) : Tr → Prop
  | .h s => s ∈ zs
  | .n f ps => Full f ∧ ps.length ≤ 3 ∧ oks zs ps
def oks (zs : List Str) : List Tr → Prop
  | [] => True
  | t :: r => t.ok zs ∧ oks zs r
end
theorem datas_map : ∀ ps : List Tr, datas ps = ps.map Tr.data
  | [] => rfl
  | t :: r => by rw [datas, datas_map r]; rfl
theorem datas_append (a b : List Tr) : datas (a ++ b) = datas a ++ datas b := by rw [datas_map, datas_map, datas_map, List.map_append]
theorem pres_append : ∀ a b : List Tr, pres (a ++ b) = pres a ++ pres b
  | [], b => rfl
  | t :: r, b => by
    show t.pre ++ pres (r ++ b) = (t.pre ++ pres r) ++ pres b
    rw [pres_append r b, List.append_assoc]
theorem oks_mem {zs : List Str} : ∀ {ps : List Tr}, oks zs ps → ∀ t ∈ ps, t.ok zs
  | t :: r, h, u, hu => by
    cases hu with
    | head => exact h.1
    | tail _ hm => exact oks_mem h.2 u hm
theorem oks_append {zs : List Str} : ∀ {a b : List Tr}, oks zs a → oks zs b → oks zs (a ++ b)
  | [], _, _, h => h
  | _ :: _, _, h, h' => ⟨h.1, oks_append h.2 h'⟩
theorem deeps_append : ∀ (a b : List Tr), deeps (a ++ b) = max (deeps a) (deeps b)
  | [], b => by rw [List.nil_append, deeps, Nat.zero_max]
  | t :: r, b => by
    show max t.deep (deeps (r ++ b)) = max (max t.deep (deeps r)) (deeps b)
    rw [deeps_append r b, Nat.max_assoc]
/-- how many trees stand in one -/
def Tr.size (t : Tr) : Nat := t.pre.length
def sizes (ps : List Tr) : Nat := (pres ps).length
theorem size_h (s : Str) : (Tr.h s).size = 1 := rfl
theorem size_n (f : Str) (ps : List Tr) : (Tr.n f ps).size = sizes ps + 1 := rfl
theorem sizes_nil : sizes [] = 0 := rfl
theorem sizes_cons (t : Tr) (r : List Tr) : sizes (t :: r) = t.size + sizes r := by
  show (t.pre ++ pres r).length = _
  rw [List.length_append]; rfl
theorem sizes_append (a b : List Tr) : sizes (a ++ b) = sizes a + sizes b := by
  unfold sizes; rw [pres_append, List.length_append]

theorem sizes_ge : ∀ ps : List Tr, ps.length ≤ sizes ps
  | [] => Nat.le_refl _
  | t :: r => by
    rw [sizes_cons, List.length_cons]
    have pos : 1 ≤ t.size := by cases t <;> (first | (rw [size_h]) | (rw [size_n])) <;> omega
    have := sizes_ge r
    omega
theorem datas_rev (ps : List Tr) : datas ps.reverse = (datas ps).reverse := by rw [datas_map, datas_map, List.map_reverse]

theorem size_le {t : Tr} : ∀ {ps : List Tr}, t ∈ ps → t.size ≤ sizes ps
  | u :: r, h => by
    rw [sizes_cons]
    cases h with
    | head => omega
    | tail _ hm => have := size_le hm; omega
theorem deep_le {t : Tr} : ∀ {ps : List Tr}, t ∈ ps → t.deep ≤ deeps ps
  | u :: r, h => by
    show _ ≤ max u.deep (deeps r)
    cases h with
    | head => omega
    | tail _ hm => have := deep_le hm; omega
theorem sizes_take : ∀ (ps : List Tr) (i : Nat), sizes (ps.take i) ≤ sizes ps
  | [], i => by simp
  | t :: r, 0 => by simp [sizes_nil]
  | t :: r, i + 1 => by
    rw [List.take_succ_cons, sizes_cons, sizes_cons]
    have := sizes_take r i
    omega

/-! ## what stands at a value: data that lies in tuples alone stays for ever -/
theorem DpAll.length {K : PySem.W.Frag} {H : Hp} : ∀ {vs : List V} {ds : List PyData}, DpAll K H vs ds → vs.length = ds.length
  | _, _, .nil => rfl
  | _, _, .cons _ r => by rw [List.length_cons, List.length_cons, DpAll.length r]
theorem DpAll.append {K : PySem.W.Frag} {H : Hp} : ∀ {vs us : List V} {ds es : List PyData}, DpAll K H vs ds → DpAll K H us es → DpAll K H (vs ++ us) (ds ++ es)
  | _, _, _, _, .nil, s => s
  | _, _, _, _, .cons a r, s => .cons a (DpAll.append r s)
theorem DpAll.one {K : PySem.W.Frag} {H : Hp} {v : V} {d : PyData} (h : Dp K H v d) : DpAll K H [v] [d] := .cons h .nil
theorem DpAll.snoc {K : PySem.W.Frag} {H : Hp} : ∀ {vs : List V} {ds : List PyData} {d : PyData}, DpAll K H vs (ds ++ [d]) → ∃ us v, vs = us ++ [v] ∧ DpAll K H us ds ∧ Dp K H v d
  | vs, [], d, h => by
    cases h with
    | cons a r => cases r; exact ⟨[], _, rfl, .nil, a⟩
  | vs, e :: ds, d, h => by
    cases h with
    | cons a r =>
      obtain ⟨us, v, rfl, h1, h2⟩ := DpAll.snoc r
      exact ⟨_ :: us, v, rfl, .cons a h1, h2⟩
theorem DpAll.reverse {K : PySem.W.Frag} {H : Hp} : ∀ {vs : List V} {ds : List PyData}, DpAll K H vs ds → DpAll K H vs.reverse ds.reverse
  | _, _, .nil => .nil
  | _, _, .cons a r => by
    rw [List.reverse_cons, List.reverse_cons]
    exact DpAll.append (DpAll.reverse r) (DpAll.one a)
theorem DpAll.get {K : PySem.W.Frag} {H : Hp} : ∀ {vs : List V} {ds : List PyData} {i : Nat} {v : V}, DpAll K H vs ds → vs[i]? = some v → ∃ d, ds[i]? = some d ∧ Dp K H v d
  | _, _, 0, _, .cons a r, e => by cases e; exact ⟨_, rfl, a⟩
  | _, _, i + 1, _, .cons a r, e => DpAll.get (i := i) r e
/-- what may be changed: neither a tuple nor frozen -/
def Loose (H : Hp) (m : Addr) : Prop := (∀ xs, H m ≠ some (.tup xs)) ∧ ∀ o u, H m ≠ some (.frz o u)
theorem Loose.lst {H : Hp} {m : Addr} {l : List V} (h : H m = some (.lst l)) : Loose H m := ⟨fun xs e => (by rw [h] at e; cases e), fun o u e => (by rw [h] at e; cases e)⟩
theorem Loose.dK {H : Hp} {m : Addr} {l : List (Key × V)} (h : H m = some (.dK l)) : Loose H m := ⟨fun xs e => (by rw [h] at e; cases e), fun o u e => (by rw [h] at e; cases e)⟩
theorem Hand.loose {n : Nat} {H : Hp} {a : Addr} (h : Hand n H a) : Loose H a := by
  obtain ⟨l, e⟩ := h.there
  exact .lst e
/-- all lists that were there, but ms, and all tuples, are as they were: enough for data without the lists ms -/
theorem SqT.kp {K : PySem.W.Frag} {ms : List Addr} {H H' : Hp} {a : Addr} {xs : List V} (k : Kp ms H H') (n : ∀ m ∈ ms, Loose H m) (h : SqT K H a xs) : SqT K H' a xs := by
  rcases h with (h | ⟨o, h⟩) | h
  · refine .inl (.inl (k _ _ (fun z => ?_) h))
    exact (n _ z).1 _ h
  · refine .inl (.inr ⟨o, k _ _ (fun z => ?_) h⟩)
    exact (n _ z).2 _ _ h
  · exact .inr h
mutual
theorem Tr.kp {K : PySem.W.Frag} {ms : List Addr} {H H' : Hp} (k : Kp ms H H') (n : ∀ m ∈ ms, Loose H m) : ∀ (t : Tr) {v : V}, Dp K H v t.data → Dp K H' v t.data
  | .h s, v, h => by
    rw [Tr.data] at h ⊢
    cases h
    exact .str s
  | .n f ps, v, h => by
    rw [Tr.data] at h ⊢
    cases h with
    | tup a b =>
      refine .tup (SqT.kp k n a) ?_
      cases b with
      | cons b1 b2 =>
        refine .cons ?_ (trsKp k n ps b2)
        cases b1
        exact .str f
theorem trsKp {K : PySem.W.Frag} {ms : List Addr} {H H' : Hp} (k : Kp ms H H') (n : ∀ m ∈ ms, Loose H m) : ∀ (ts : List Tr) {vs : List V}, DpAll K H vs (datas ts) → DpAll K H' vs (datas ts)
  | [], vs, h => by
    rw [datas] at h ⊢
    cases h
    exact .nil
  | t :: r, vs, h => by
    rw [datas] at h ⊢
    cases h with
    | cons a b => exact .cons (Tr.kp k n t a) (trsKp k n r b)
end
theorem Tr.new {K : PySem.W.Frag} {H : Hp} {p : Addr} {o : HO} {t : Tr} {v : V} (h : Dp K H v t.data) (hp : H p = none) : Dp K (upd H p o) v t.data :=
  t.kp (ms := []) (Kp.new hp) (fun _ z => by cases z) h
theorem trsNew {K : PySem.W.Frag} {H : Hp} {p : Addr} {o : HO} {ts : List Tr} {vs : List V} (h : DpAll K H vs (datas ts)) (hp : H p = none) : DpAll K (upd H p o) vs (datas ts) :=
  trsKp (ms := []) (Kp.new hp) (fun _ z => by cases z) ts h
theorem Tr.put {K : PySem.W.Frag} {H : Hp} {p : Addr} {o : HO} {l : List V} {t : Tr} {v : V} (h : Dp K H v t.data) (hp : H p = some (.lst l)) : Dp K (upd H p o) v t.data :=
  t.kp (ms := [p]) (Kp.put (by simp)) (fun m z => by rw [List.mem_singleton.mp z]; exact .lst hp) h
theorem trsPut {K : PySem.W.Frag} {H : Hp} {p : Addr} {o : HO} {l : List V} {ts : List Tr} {vs : List V} (h : DpAll K H vs (datas ts)) (hp : H p = some (.lst l)) : DpAll K (upd H p o) vs (datas ts) :=
  trsKp (ms := [p]) (Kp.put (by simp)) (fun m z => by rw [List.mem_singleton.mp z]; exact .lst hp) ts h

/-! ## rules that read the written part, said with it (for comprehensions' blocks) -/
section
variable {X : Cx} (K : PySem.W.Frag)
theorem ixL (h : X.K = K := by rfl) : IxR X (rIxL K) := h ▸ ix_list
theorem ixT (h : X.K = K := by rfl) : IxR X (rIxT K) := h ▸ ix_tup
theorem ixQ (h : X.K = K := by rfl) : IxR X (rIx K) := h ▸ ix_seq
end
/-! ## holes' names, as drawn -/
def Holes (zs : List Str) : Prop := zs ≠ [] ∧ zs.length ≤ 4 ∧ zs.Nodup ∧ ∀ z ∈ zs, Nm z
end Ah

namespace Ah
open PySem PySem.Spec PyProof.Rows L2

/-! ## small data: what repr and == ask -/
/-- a small text -/
def Sm (z : Str) : Prop := z.length ≤ 1000 ∧ ∀ c ∈ z.cps.toList, c < 1000
structure Fine (k b : Nat) (d : PyData) : Prop where
  dep : d.depth ≤ k
  sho : d.showable = true
  lay : d.canLay0 = true
  lea : d.leavesShort 13 = true
  blk : d.bulk ≤ b
structure Fines (k b : Nat) (ds : List PyData) : Prop where
  dep : PyData.depthAll ds ≤ k
  sho : PyData.showableAll ds = true
  lay : PyData.canLayAll0 ds = true
  lea : PyData.leavesShortAll 13 ds = true
  blk : PyData.bulkAll ds ≤ b
theorem Nm.sm {z : Str} (h : Nm z) : Sm z := ⟨by have := h.2.1; omega, fun c hc => by have := (h.2.2 c hc).2; omega⟩
theorem Full.sm {f : Str} (h : Full f) : Sm f := by
  refine ⟨by have := h.length; omega, ?_⟩
  obtain ⟨l, o, hl, ho, rfl⟩ := h
  intro c hc
  have e : (l ++ ("." : Str) ++ o).cps.toList = l.cps.toList ++ [46] ++ o.cps.toList := by
    show ((l.cps ++ _) ++ o.cps).toList = _
    rw [Array.toList_append, Array.toList_append]; rfl
  rw [e] at hc
  simp only [List.mem_append, List.mem_singleton] at hc
  rcases hc with (h | h) | h
  · have := (hl.2.2 c h).2; omega
  · omega
  · have := (ho.2.2 c h).2; omega
theorem Fine.str {z : Str} (h : Sm z) (k : Nat) : Fine k z.length (.str z) := by
  refine ⟨by simp [PyData.depth], by simp [PyData.showable], ?_, ?_, by simp [PyData.bulk, Str.length]⟩
  · simp only [PyData.canLay0]
    unfold PyData.strOk
    rw [Array.all_eq_true]
    intro i hi
    have := h.2 z.cps[i] (by simp)
    exact decide_eq_true (by omega)
  · simp only [PyData.leavesShort, List.all_eq_true]
    intro c hc
    have := h.2 c hc
    exact decide_eq_true (by omega)
theorem Fine.int {i : Int} (h : i.natAbs < 10 ^ 12) (k : Nat) : Fine k 0 (.int i) := by
  refine ⟨by simp [PyData.depth], ?_, by simp [PyData.canLay0], ?_, by simp [PyData.bulk]⟩
  · simp only [PyData.showable]
    exact decide_eq_true (log2_small (Nat.lt_of_lt_of_le h (Nat.le_trans (by decide : 10 ^ 12 ≤ 2 ^ 64) (Nat.pow_le_pow_right (by decide) (by decide)))))
  · simp only [PyData.leavesShort]
    exact decide_eq_true (PyData.shown_int_le h)
theorem Fine.bool (b : Bool) (k : Nat) : Fine k 0 (.bool b) := ⟨by simp [PyData.depth], by simp [PyData.showable], by simp [PyData.canLay0], by simp [PyData.leavesShort], by simp [PyData.bulk]⟩
theorem Fine.none (k : Nat) : Fine k 0 .none := ⟨by simp [PyData.depth], by simp [PyData.showable], by simp [PyData.canLay0], by simp [PyData.leavesShort], by simp [PyData.bulk]⟩
theorem Fines.nil (k b : Nat) : Fines k b [] := ⟨by simp [PyData.depthAll], by simp [PyData.showableAll], by simp [PyData.canLayAll0], by simp [PyData.leavesShortAll], by simp [PyData.bulkAll]⟩
theorem Fines.cons {k b c : Nat} {d : PyData} {ds : List PyData} (h : Fine k b d) (r : Fines k c ds) : Fines k (b + 1 + c) (d :: ds) := by
  refine ⟨?_, ?_, ?_, ?_, ?_⟩
  · simp only [PyData.depthAll]; have := h.dep; have := r.dep; omega
  · simp only [PyData.showableAll, h.sho, r.sho]; rfl
  · simp only [PyData.canLayAll0, h.lay, r.lay]; rfl
  · simp only [PyData.leavesShortAll, h.lea, r.lea]; rfl
  · simp only [PyData.bulkAll]; have := h.blk; have := r.blk; omega
theorem Fines.list {k b : Nat} {ds : List PyData} (r : Fines k b ds) : Fine (k + 1) b (.list ds) := by
  refine ⟨?_, ?_, ?_, ?_, ?_⟩
  · simp only [PyData.depth]; have := r.dep; omega
  · simp only [PyData.showable, r.sho]
  · simp only [PyData.canLay0, r.lay]
  · simp only [PyData.leavesShort, r.lea]
  · simp only [PyData.bulk]; exact r.blk
theorem Fines.tuple {k b : Nat} {ds : List PyData} (r : Fines k b ds) : Fine (k + 1) b (.tuple ds) := by
  refine ⟨?_, ?_, ?_, ?_, ?_⟩
  · simp only [PyData.depth]; have := r.dep; omega
  · simp only [PyData.showable, r.sho]
  · simp only [PyData.canLay0, r.lay]
  · simp only [PyData.leavesShort, r.lea]
  · simp only [PyData.bulk]; exact r.blk
theorem Fine.up {k b k' b' : Nat} {d : PyData} (h : Fine k b d) (hk : k ≤ k') (hb : b ≤ b') : Fine k' b' d :=
  ⟨Nat.le_trans h.dep hk, h.sho, h.lay, h.lea, Nat.le_trans h.blk hb⟩
theorem Fines.up {k b k' b' : Nat} {d : List PyData} (h : Fines k b d) (hk : k ≤ k') (hb : b ≤ b') : Fines k' b' d :=
  ⟨Nat.le_trans h.dep hk, h.sho, h.lay, h.lea, Nat.le_trans h.blk hb⟩
theorem Fine.fits {k b : Nat} {d : PyData} (h : Fine k b d) (hb : b ≤ 1000000) : d.shown.length ≤ sizeLine := by
  have := PyData.shown_le_bulk 13 (by decide) d h.lea
  have := h.blk
  rw [sizeLine_eq]
  omega
theorem Fine.shaped {k b : Nat} {d : PyData} (h : Fine k b d) (hk : k ≤ 64) : SeqAt.shaped d = true := by
  unfold SeqAt.shaped
  rw [h.lay, decide_eq_true (Nat.le_trans h.dep hk)]; rfl
theorem finesStrs {zs : List Str} {m : Nat} (h : ∀ z ∈ zs, Sm z ∧ z.length ≤ m) (k : Nat) : Fines k ((m + 1) * zs.length) (zs.map PyData.str) := by
  induction zs with
  | nil => exact Fines.nil _ _
  | cons z r ih =>
    have a := Fine.str (h z (by simp)).1 k
    have b := ih fun y hy => h y (by simp [hy])
    refine (Fines.cons a b).up (Nat.le_refl _) ?_
    have := (h z (by simp)).2
    rw [List.length_cons, Nat.mul_add, Nat.mul_one]
    omega
mutual
theorem Tr.fine {zs : List Str} (hz : ∀ z ∈ zs, Nm z) : ∀ t : Tr, t.ok zs → Fine t.deep (18 + 19 * (t.size - 1)) t.data
  | .h s, h => by
    rw [Tr.data]
    have n := hz s h
    exact (Fine.str n.sm _).up (Nat.le_refl _) (by have := n.2.1; omega)
  | .n f ps, h => by
    rw [Tr.data]
    have r := trsFine hz ps h.2.2
    have a := Fine.str h.1.sm (deeps ps)
    refine (Fines.cons a r).tuple.up (Nat.le_refl _) ?_
    have := h.1.length
    rw [size_n]
    omega
theorem trsFine {zs : List Str} (hz : ∀ z ∈ zs, Nm z) : ∀ ps : List Tr, oks zs ps → Fines (deeps ps) (19 * sizes ps) (datas ps)
  | [], _ => by rw [datas]; exact Fines.nil _ _
  | t :: r, h => by
    rw [datas]
    have a := Tr.fine hz t h.1
    have b := trsFine hz r h.2
    have pos : 1 ≤ t.size := by cases t <;> (first | (rw [size_h]) | (rw [size_n])) <;> omega
    refine (Fines.cons (a.up (Nat.le_max_left _ _) (Nat.le_refl _)) (b.up (Nat.le_max_right t.deep _) (Nat.le_refl _))).up (Nat.le_refl _) ?_
    rw [sizes_cons]
    omega
end
/-- a list of texts as data -/
theorem dpStrs {K : PySem.W.Frag} {H : Hp} : ∀ zs : List Str, DpAll K H (zs.map V.str) (zs.map PyData.str)
  | [] => .nil
  | z :: r => .cons (.str z) (dpStrs r)
end Ah

namespace Ah
open PySem PySem.Spec PyProof.Rows L2
/-! ## holes and names of trees -/
def holeOf : Tr → Option Str
  | .h s => some s
  | .n _ _ => none
def nameOf : Tr → Option Str
  | .h _ => none
  | .n f _ => some f
def addNew {α : Type} [DecidableEq α] (acc : List α) (z : α) : List α := if z ∈ acc then acc else acc ++ [z]
/-- each once, as they first come -/
def uniq {α : Type} [DecidableEq α] (l : List α) : List α := l.foldl addNew []
theorem addNew_mem {α : Type} [DecidableEq α] {acc : List α} {z x : α} : x ∈ addNew acc z ↔ x ∈ acc ∨ x = z := by
  unfold addNew
  split
  · constructor
    · exact .inl
    · rintro (h | rfl) <;> assumption
  · simp
theorem foldl_mem {α : Type} [DecidableEq α] : ∀ (l acc : List α) (x : α), x ∈ l.foldl addNew acc ↔ x ∈ acc ∨ x ∈ l
  | [], acc, x => by simp
  | z :: r, acc, x => by
    rw [List.foldl_cons, foldl_mem r, addNew_mem, List.mem_cons, or_assoc]
theorem uniq_mem {α : Type} [DecidableEq α] {l : List α} {x : α} : x ∈ uniq l ↔ x ∈ l := by
  unfold uniq; rw [foldl_mem]; simp
theorem addNew_nodup {α : Type} [DecidableEq α] {acc : List α} {z : α} (h : acc.Nodup) : (addNew acc z).Nodup := by
  unfold addNew
  split
  · exact h
  · rename_i hz
    rw [List.nodup_append]
    exact ⟨h, by simp, fun a ha b hb => by rw [List.mem_singleton.mp hb]; rintro rfl; exact hz ha⟩
theorem foldl_nodup {α : Type} [DecidableEq α] : ∀ (l acc : List α), acc.Nodup → (l.foldl addNew acc).Nodup
  | [], acc, h => h
  | z :: r, acc, h => foldl_nodup r _ (addNew_nodup h)
theorem uniq_nodup {α : Type} [DecidableEq α] (l : List α) : (uniq l).Nodup := foldl_nodup l [] List.nodup_nil
theorem uniq_snoc {α : Type} [DecidableEq α] (l : List α) (z : α) : uniq (l ++ [z]) = addNew (uniq l) z := by
  unfold uniq; rw [List.foldl_append]; rfl
theorem addNew_len {α : Type} [DecidableEq α] (acc : List α) (z : α) : (addNew acc z).length ≤ acc.length + 1 := by
  unfold addNew; split
  · omega
  · rw [List.length_append]; simp
theorem uniq_len {α : Type} [DecidableEq α] : ∀ (l acc : List α), (l.foldl addNew acc).length ≤ acc.length + l.length
  | [], acc => by simp
  | z :: r, acc => by
    rw [List.foldl_cons, List.length_cons]
    have := uniq_len r (addNew acc z)
    have := addNew_len acc z
    omega
/-- keys of a dict that is filled with True -/
def seen (zs : List Str) : List (Key × V) := zs.map fun z => (Sum.inr z, V.bl true)
theorem seen_put (zs : List Str) (z : Str) : putK (seen zs) (Sum.inr z) (V.bl true) = seen (addNew zs z) := by
  unfold putK seen addNew
  have e : ((zs.map fun z => ((Sum.inr z : Key), V.bl true)).any fun kv => decide (kv.1 = Sum.inr z)) = decide (z ∈ zs) := by
    rw [List.any_map]
    induction zs with
    | nil => rfl
    | cons y r ih =>
      rw [List.any_cons, ih]
      by_cases h : y = z
      · subst h; simp
      · have h1 : ¬ (Sum.inr y : Key) = Sum.inr z := fun q => h (Sum.inr.inj q)
        have h2 : ¬ z = y := fun q => h q.symm
        simp [h1, h2]
  rw [e]
  by_cases h : z ∈ zs
  · rw [if_pos (decide_eq_true h), if_pos h, List.map_map]
    apply List.map_congr_left
    intro y _
    show (if (Sum.inr y : Key) = Sum.inr z then ((Sum.inr y : Key), V.bl true) else (Sum.inr y, V.bl true)) = _
    split <;> rfl
  · rw [decide_eq_false h, if_neg Bool.false_ne_true, if_neg h, List.map_append]
    rfl
theorem seen_keys (zs : List Str) : (seen zs).map (fun kv => kV kv.1) = zs.map V.str := by
  unfold seen; rw [List.map_map]; rfl
def hols (t : Tr) : List Str := uniq (t.pre.filterMap holeOf)
def nams (t : Tr) : List Str := t.pre.filterMap nameOf
end Ah

namespace Ah
open PySem PySem.Spec PyProof.Rows L2
/-! ## kinds, cuts, texts in lists -/
theorem tyTup {K : PySem.W.Frag} {H : Hp} {a : Addr} {xs : List V} (h : SqT K H a xs) : TyX K H (.ref a) (.type "tuple") := by
  rcases h with (h | ⟨o, h⟩) | ⟨o, its, n, h1, h2, _⟩
  · exact .base (.tup h)
  · exact .fTuple h
  · exact .kTuple h1 h2
theorem kStr {K : PySem.W.Frag} : PySem.W.kitOne K (.type "str") (.type "str") = some true := kit_ty (by decide +kernel)
theorem kTup {K : PySem.W.Frag} : PySem.W.kitOne K (.type "tuple") (.type "str") = some false := kit_ty (by decide +kernel)
theorem cut1 (x : V) (xs : List V) : cutV (x :: xs) (some 1) none = xs := by
  have e : HT.sIx (x :: xs).length 0 (some 1) = 1 := by
    have := HT.sIx_nat (x :: xs).length 0 1
    rw [List.length_cons, Nat.min_eq_left (by omega)] at this
    rw [List.length_cons]
    exact this
  unfold cutV
  rw [e, HT.sIx_none]
  simp
theorem cut1ne (x : V) (xs : List V) : ¬ (HT.sIx (x :: xs).length 0 (some 1) = 0 ∧ HT.sIx (x :: xs).length (x :: xs).length none = (x :: xs).length) := by
  rintro ⟨h, _⟩
  have := HT.sIx_nat (x :: xs).length 0 1
  rw [List.length_cons, Nat.min_eq_left (by omega)] at this
  rw [List.length_cons] at h
  have z : HT.sIx (xs.length + 1) 0 (some 1) = 1 := this
  rw [z] at h
  cases h
theorem dotCode : ("." : Str) = ⟨#[46]⟩ := by decide +kernel
theorem inStrs (z : Str) (zs : List Str) : inV (.str z) (zs.map V.str) = decide (z ∈ zs) := by
  unfold inV
  rw [List.any_map]
  induction zs with
  | nil => rfl
  | cons y r ih =>
    rw [List.any_cons, ih]
    show (eqV (.str y) (.str z) || _) = _
    have e : eqV (.str y) (.str z) = (y == z) := rfl
    rw [e]
    by_cases h : y = z
    · subst h; simp
    · have h2 : ¬ z = y := fun q => h q.symm
      simp [h, h2]
theorem flatStrs (zs : List Str) : (zs.map V.str).all flatV = true := by
  rw [List.all_map, List.all_eq_true]; intro z _; rfl
/-- a name of a hole has no dot, a full name has -/
theorem Nm.noDot {z : Str} (h : Nm z) : 46 ∉ z.cps.toList := fun hm => by
  have := (h.2.2 46 hm).1
  omega
theorem Full.dot {f : Str} (h : Full f) : 46 ∈ f.cps.toList := by
  obtain ⟨l, o, _, _, rfl⟩ := h
  have e : (l ++ ("." : Str) ++ o).cps.toList = l.cps.toList ++ [46] ++ o.cps.toList := by
    show ((l.cps ++ _) ++ o.cps).toList = _
    rw [Array.toList_append, Array.toList_append]; rfl
  rw [e]; simp
/-! ## the symbols of a tree, as written -/
def symOf : Tr → Str
  | .h s => s
  | .n f _ => f
def syms (t : Tr) : List Str := t.pre.map symOf
theorem syms_h (s : Str) : syms (.h s) = [s] := rfl
theorem syms_n (f : Str) (ps : List Tr) : syms (.n f ps) = f :: (pres ps).map symOf := rfl
theorem pres_cons (t : Tr) (r : List Tr) : pres (t :: r) = t.pre ++ pres r := rfl
mutual
theorem Tr.sub {zs : List Str} : ∀ t : Tr, t.ok zs → ∀ u ∈ t.pre, (∃ s, u = .h s ∧ s ∈ zs) ∨ ∃ f ps, u = .n f ps ∧ Full f
  | .h s, h, u, hu => by
    have e : u = .h s := List.mem_singleton.mp hu
    exact .inl ⟨s, e, h⟩
  | .n f ps, h, u, hu => by
    have hu' : u ∈ Tr.n f ps :: pres ps := hu
    rcases List.mem_cons.mp hu' with e | hm
    · exact .inr ⟨f, ps, e, h.1⟩
    · exact trsSub ps h.2.2 u hm
theorem trsSub {zs : List Str} : ∀ ps : List Tr, oks zs ps → ∀ u ∈ pres ps, (∃ s, u = .h s ∧ s ∈ zs) ∨ ∃ f ps, u = .n f ps ∧ Full f
  | [], _, u, hu => by cases hu
  | t :: r, h, u, hu => by
    rw [pres_cons] at hu
    rcases List.mem_append.mp hu with hm | hm
    · exact Tr.sub t h.1 u hm
    · exact trsSub r h.2 u hm
end
/-- of a tree's symbols: those without a dot are the holes, those with one the full names -/
theorem symHole {zs : List Str} (hz : ∀ z ∈ zs, Nm z) {us : List Tr} (h : ∀ u ∈ us, (∃ s, u = Tr.h s ∧ s ∈ zs) ∨ ∃ f ps, u = Tr.n f ps ∧ Full f) :
    (us.map symOf).filter (fun s => decide (46 ∉ s.cps.toList)) = us.filterMap holeOf ∧ (us.map symOf).filter (fun s => decide (46 ∈ s.cps.toList)) = us.filterMap nameOf := by
  induction us with
  | nil => exact ⟨rfl, rfl⟩
  | cons u r ih =>
    obtain ⟨i1, i2⟩ := ih fun v hv => h v (List.mem_cons_of_mem _ hv)
    rcases h u (List.mem_cons_self ..) with ⟨s, rfl, hs⟩ | ⟨f, ps, rfl, hf⟩
    · have nd := (hz s hs).noDot
      constructor
      · rw [List.map_cons, List.filter_cons]
        show (if decide (46 ∉ s.cps.toList) = true then s :: _ else _) = s :: r.filterMap holeOf
        rw [if_pos (decide_eq_true nd), i1]
      · rw [List.map_cons, List.filter_cons]
        show (if decide (46 ∈ s.cps.toList) = true then s :: _ else _) = r.filterMap nameOf
        rw [decide_eq_false nd, if_neg Bool.false_ne_true, i2]
    · have nd := hf.dot
      constructor
      · rw [List.map_cons, List.filter_cons]
        show (if decide (46 ∉ f.cps.toList) = true then f :: _ else _) = r.filterMap holeOf
        rw [decide_eq_false (fun k => k nd), if_neg Bool.false_ne_true, i1]
      · rw [List.map_cons, List.filter_cons]
        show (if decide (46 ∈ f.cps.toList) = true then f :: _ else _) = f :: r.filterMap nameOf
        rw [if_pos (decide_eq_true nd), i2]
/-- every symbol is a small text of at most 17 signs -/
theorem symSm {zs : List Str} (hz : ∀ z ∈ zs, Nm z) {t : Tr} (h : t.ok zs) : ∀ s ∈ syms t, Sm s ∧ s.length ≤ 17 := by
  intro s hs
  obtain ⟨u, hu, rfl⟩ := List.mem_map.mp hs
  rcases Tr.sub t h u hu with ⟨s, rfl, hm⟩ | ⟨f, ps, rfl, hf⟩
  · exact ⟨(hz s hm).sm, by have := (hz s hm).2.1; show s.length ≤ 17; omega⟩
  · exact ⟨hf.sm, hf.length⟩
end Ah

namespace Ah
open PySem PySem.Spec PyProof.Rows L2
/-! ## the line of a full name -/
theorem nameCodes (l o : Str) : TL.tl (l ++ ("." : Str) ++ o) = TL.tl l ++ 46 :: TL.tl o := by
  rw [TL.tl_append, TL.tl_append]
  show (TL.tl l ++ [46]) ++ TL.tl o = _
  rw [List.append_assoc]; rfl
theorem dotCodes : TL.tl ("." : Str) = [46] := rfl
theorem preDot (r : List Nat) : TL.pre [46] (46 :: r) = true := rfl
theorem find_name {l o : Str} (hl : Nm l) : Txt.find (l ++ ("." : Str) ++ o) "." = (l.length : Int) := by
  have ne : TL.tl ("." : Str) ≠ [] := by rw [dotCodes]; simp
  have len : (TL.tl l).length = l.length := (TL.len_tl l).symm
  have here : StrLaws.At (l ++ ("." : Str) ++ o) "." (l ++ ("." : Str) ++ o).length l.length := by
    rw [TL.at_iff ne, nameCodes, dotCodes, ← len, List.drop_append_of_le_length (Nat.le_refl _), List.drop_length]
    rfl
  rcases find_whole (l ++ ("." : Str) ++ o) "." with ⟨_, no⟩ | ⟨i, e, hi, no⟩
  · exact (no _ here).elim
  · rw [e]
    have h1 : ¬ l.length < i := fun h => no _ h here
    have h2 : ¬ i < l.length := by
      intro h
      rw [TL.at_iff ne, nameCodes, dotCodes, List.drop_append_of_le_length (by omega)] at hi
      have hi' : i < (TL.tl l).length := by omega
      rw [List.drop_eq_getElem_cons hi'] at hi
      have hm : (TL.tl l)[i] ∈ TL.tl l := List.getElem_mem _
      have c : 97 ≤ (TL.tl l)[i] := (hl.2.2 _ hm).1
      have : TL.pre [46] ((TL.tl l)[i] :: (List.drop (i + 1) (TL.tl l) ++ 46 :: TL.tl o)) = false := TL.pre_of_head _ _ (by omega)
      rw [List.cons_append, this] at hi
      cases hi
    congr 1
    omega
theorem cut_name (l o : Str) : cutS (l ++ ("." : Str) ++ o) none (some (l.length : Int)) = l := by
  have e : (l ++ ("." : Str) ++ o).cps.toList = l.cps.toList ++ 46 :: o.cps.toList := nameCodes l o
  have len : l.cps.toList.length = l.length := by simp [Str.length]
  have le : l.length ≤ (l ++ ("." : Str) ++ o).length := by rw [strLen, strLen]; omega
  unfold cutS
  rw [HT.sIx_none, HT.sIx_nat, Nat.min_eq_left le, List.drop_zero, Nat.sub_zero, e, ← len, List.take_left]
/-! ## data of texts -/
theorem dpTup {K : PySem.W.Frag} {H : Hp} {a : Addr} {zs : List Str} (h : SqT K H a (zs.map V.str)) : Dp K H (.ref a) (.tuple (zs.map PyData.str)) := .tup h (dpStrs zs)
theorem showAll {k b : Nat} {d : PyData} (f : Fine k b d) (hk : k ≤ 60) (hb : b ≤ 1000000) : d.showable = true ∧ d.depth ≤ 60 ∧ d.shown.length ≤ sizeLine :=
  ⟨f.sho, Nat.le_trans f.dep hk, f.fits hb⟩
theorem fineTexts {zs : List Str} (h : ∀ z ∈ zs, Sm z ∧ z.length ≤ 17) (hl : zs.length ≤ 1000) : Fine 1 18000 (.tuple (zs.map PyData.str)) :=
  (finesStrs (m := 17) h 0).tuple.up (Nat.le_refl _) (by omega)
theorem fineTwo {k b : Nat} {d e : PyData} (h : Fine k b d) (h' : Fine k b e) : Fine (k + 1) (2 * b + 2) (.list [d, e]) :=
  (Fines.cons h (Fines.cons h' (Fines.nil k 0))).list.up (Nat.le_refl _) (by omega)
/-! ## a def that keeps each of several promises -/
theorem Has.any {P : Program} {w : World} {K : PySem.W.Frag} {mg : Str → Option Value} {base : Heap} {k : Nat} {x : Str} {st : Stmt} {ps : List Str} {sp : Nat → Sp} (D : Nat)
    (h : ∀ d, d ≤ D → Has P w K mg base k x st ps (sp d)) : Has P w K mg base k x st ps (fun vs H Q E => ∃ d, d ≤ D ∧ sp d vs H Q E) := by
  obtain ⟨f, fd, F, G, b, m⟩ := h 0 (Nat.zero_le _)
  have all : ∀ d, d ≤ D → FnOk P w K mg base CX0 k f fd ps (sp d) := by
    intro d hd
    obtain ⟨f', fd', F', G', b', m'⟩ := h d hd
    rw [m] at m'
    cases m'
    obtain ⟨oc, od, kV, doc, pm, an, cdv, ct, osl, e1, l1, _⟩ := F.ex
    obtain ⟨oc', od', kV', doc', pm', an', cdv', ct', osl', e2, l2, _⟩ := F'.ex
    rw [l1] at l2
    cases l2
    exact G'
  exact ⟨f, fd, F, ⟨fun vs H Q E ⟨d, hd, q⟩ => (all d hd).len vs H Q E q, fun A outer s H args us vs Q E hr he hb hv ⟨d, hd, q⟩ => (all d hd).run A outer s H args us vs Q E hr he hb hv q⟩, b, m⟩
/-- a list that was there is there still, where only new things were changed -/
theorem SqL.kp {K : PySem.W.Frag} {ms : List Addr} {H H' : Hp} {a : Addr} {xs : List V} (k : Kp ms H H') (n : ∀ m ∈ ms, H m = none) (h : SqL K H a xs) : SqL K H' a xs := by
  rcases h with (h | ⟨o, h⟩) | h
  · exact .inl (.inl (k _ _ (fun z => by rw [n _ z] at h; cases h) h))
  · exact .inl (.inr ⟨o, k _ _ (fun z => by rw [n _ z] at h; cases h) h⟩)
  · exact .inr h
/-- what law(script) promises -/
def spLaw (K : PySem.W.Frag) : Sp := fun vs H Q _ => ∃ (a : Addr) (ns : List Int), vs = [.ref a] ∧ SqL K H a (ns.map V.int) ∧ ns.length ≤ 63 ∧ ∀ H', Q (.bl true) H'
/-- what the law asks at one hand -/
def spRight : Sp := fun vs H Q _ => ∃ (a : Addr), vs = [.ref a] ∧ Hand 0 H a ∧ ∀ (H' : Hp), Kp [a] H H' → Q (.bl true) H'
end Ah

namespace Ah
open PySem PySem.Spec PyProof.Rows L2
/-! ## the end: what the top has left -/
theorem mkAt {K : PySem.W.Frag} {h : Heap} {mg : Str → Option Value} (X : K.In h) (G : h.Ns mainGlobals mg) {x : Str} {st : Stmt} {f : Addr} {oc : Value} {od an : Option Addr} {osl : Array (Option Value)} {kV doc pm cdv ct : Value}
    (a : PySem.W.nsIn K mainGlobals x = some (some (.ref f)))
    (l : K.lookup f = some ⟨oc, od, .func (PySem.W.fnOf x x (defArgs st) (defBody st) (defScope st) .none kV doc pm an cdv ct), osl⟩)
    (c : PySem.W.codeIn K cdv x = true) (k : PySem.W.keepIn K (.ref f) = true) : At K mg x st :=
  ⟨f, _, fun_mk l c k, PySem.W.mg_of X G a⟩
theorem mkNo {K : PySem.W.Frag} {h : Heap} {mg : Str → Option Value} (X : K.In h) (G : h.Ns mainGlobals mg) {x : Str} (z : PySem.W.nsIn K mainGlobals x = some none) : mg x = none := PySem.W.mg_none_of X G z
/-- the law's own def, from its promise over every base -/
theorem lawFn {P : Program} {w : World} {K : PySem.W.Frag} {mg : Str → Option Value} {st : Stmt} {fa : Addr} {sp : Sp} {k : Nat} (hfa : mg "law" = some (.ref fa)) (T : At K mg "law" st) (b : Posi "law" st ["script"])
    (D : ∀ base : Heap, HasG P w K mg base k "law" st ["script"] sp) :
    ∃ fd : FuncData, (∀ (s : Shared) (v : Value), BindsTo s fd ⟨[v], []⟩ [("script", v)]) ∧ ∀ base : Heap, K.In base → base.Ns mainGlobals mg → FnG P w K mg base CX0 k fa fd ["script"] sp := by
  obtain ⟨f, fd, F, m⟩ := T
  rw [hfa] at m
  cases m
  obtain ⟨oc, od, kV, doc, pm, an, cdv, ct, osl, e1, l1, _⟩ := id F.ex
  refine ⟨fd, fun s v => ?_, fun base _ _ => ?_⟩
  · rw [e1]
    exact .of_eq (b kV doc pm an cdv ct [v] rfl)
  · obtain ⟨f', fd', F', G', b', m'⟩ := D base
    rw [hfa] at m'
    cases m'
    obtain ⟨oc', od', kV', doc', pm', an', cdv', ct', osl', e2, l2, _⟩ := F'.ex
    rw [l1] at l2
    cases l2
    exact G'
end Ah

namespace Ah
open PySem PySem.Spec PyProof.Rows L2

/-! ## data whose lists lie apart from ms -/
mutual
inductive Dx (K : PySem.W.Frag) (ms : List Addr) (H : Hp) : V → PyData → Prop
  | non : Dx K ms H .non .none
  | bl (b : Bool) : Dx K ms H (.bl b) (.bool b)
  | int (i : Int) : Dx K ms H (.int i) (.int i)
  | str (x : Str) : Dx K ms H (.str x) (.str x)
  | lst {a : Addr} {xs : List V} {ds : List PyData} : a ∉ ms → H a = some (.lst xs) → Dxs K ms H xs ds → Dx K ms H (.ref a) (.list ds)
  | tup {a : Addr} {xs : List V} {ds : List PyData} : SqT K H a xs → Dxs K ms H xs ds → Dx K ms H (.ref a) (.tuple ds)
inductive Dxs (K : PySem.W.Frag) (ms : List Addr) (H : Hp) : List V → List PyData → Prop
  | nil : Dxs K ms H [] []
  | cons {v : V} {vs : List V} {d : PyData} {ds : List PyData} : Dx K ms H v d → Dxs K ms H vs ds → Dxs K ms H (v :: vs) (d :: ds)
end
section
variable {K : PySem.W.Frag} {ms ns : List Addr} {H H' : Hp}
mutual
theorem Dx.dp : ∀ (d : PyData) {v : V}, Dx K ms H v d → Dp K H v d
  | .none, _, h => by cases h; exact .non
  | .bool b, _, h => by cases h; exact .bl b
  | .int i, _, h => by cases h; exact .int i
  | .str x, _, h => by cases h; exact .str x
  | .list ds, _, h => by
    cases h with
    | lst a b c => exact .lst (SqL.of b) (Dxs.dp ds c)
  | .tuple ds, _, h => by
    cases h with
    | tup b c => exact .tup b (Dxs.dp ds c)
  | .dict _, _, h => by cases h
theorem Dxs.dp : ∀ (ds : List PyData) {vs : List V}, Dxs K ms H vs ds → DpAll K H vs ds
  | [], _, h => by cases h; exact .nil
  | d :: ds, _, h => by
    cases h with
    | cons a b => exact .cons (Dx.dp d a) (Dxs.dp ds b)
end
mutual
theorem Dx.kp (k : Kp ns H H') (sub : ∀ b ∈ ns, b ∈ ms) (n : ∀ m ∈ ns, Loose H m) : ∀ (d : PyData) {v : V}, Dx K ms H v d → Dx K ms H' v d
  | .none, _, h => by cases h; exact .non
  | .bool b, _, h => by cases h; exact .bl b
  | .int i, _, h => by cases h; exact .int i
  | .str x, _, h => by cases h; exact .str x
  | .list ds, _, h => by
    cases h with
    | lst a b c => exact .lst a (k _ _ (fun z => a (sub _ z)) b) (Dxs.kp k sub n ds c)
  | .tuple ds, _, h => by
    cases h with
    | tup b c => exact .tup (SqT.kp k n b) (Dxs.kp k sub n ds c)
  | .dict _, _, h => by cases h
theorem Dxs.kp (k : Kp ns H H') (sub : ∀ b ∈ ns, b ∈ ms) (n : ∀ m ∈ ns, Loose H m) : ∀ (ds : List PyData) {vs : List V}, Dxs K ms H vs ds → Dxs K ms H' vs ds
  | [], _, h => by cases h; exact .nil
  | d :: ds, _, h => by
    cases h with
    | cons a b => exact .cons (Dx.kp k sub n d a) (Dxs.kp k sub n ds b)
end
mutual
/-- a tree is such data -/
theorem Tr.dx : ∀ (t : Tr) {v : V}, Dp K H v t.data → Dx K ms H v t.data
  | .h s, v, h => by
    rw [Tr.data] at h ⊢
    cases h
    exact .str s
  | .n f ps, v, h => by
    rw [Tr.data] at h ⊢
    cases h with
    | tup a b =>
      refine .tup a ?_
      cases b with
      | cons b1 b2 =>
        cases b1
        exact .cons (.str f) (trsDx ps b2)
theorem trsDx : ∀ (ts : List Tr) {vs : List V}, DpAll K H vs (datas ts) → Dxs K ms H vs (datas ts)
  | [], vs, h => by
    rw [datas] at h ⊢
    cases h
    exact .nil
  | t :: r, vs, h => by
    rw [datas] at h ⊢
    cases h with
    | cons a b => exact .cons (Tr.dx t a) (trsDx r b)
end
theorem Dx.new {d : PyData} {v : V} (h : Dx K ms H v d) (k : Kp [] H H') : Dx K ms H' v d := Dx.kp k (fun _ z => by cases z) (fun _ z => by cases z) d h
theorem Dxs.new {ds : List PyData} {vs : List V} (h : Dxs K ms H vs ds) (k : Kp [] H H') : Dxs K ms H' vs ds := Dxs.kp k (fun _ z => by cases z) (fun _ z => by cases z) ds h
theorem Dxs.append : ∀ {vs us : List V} {ds es : List PyData}, Dxs K ms H vs ds → Dxs K ms H us es → Dxs K ms H (vs ++ us) (ds ++ es)
  | _, _, _, _, .nil, s => s
  | _, _, _, _, .cons a r, s => .cons a (Dxs.append r s)
theorem Dxs.length : ∀ {vs : List V} {ds : List PyData}, Dxs K ms H vs ds → vs.length = ds.length
  | _, _, .nil => rfl
  | _, _, .cons _ r => by rw [List.length_cons, List.length_cons, Dxs.length r]
theorem Dxs.take : ∀ {vs : List V} {ds : List PyData} (i : Nat), Dxs K ms H vs ds → Dxs K ms H (vs.take i) (ds.take i)
  | _, _, 0, _ => .nil
  | _, _, _ + 1, .nil => .nil
  | _, _, i + 1, .cons a r => .cons a (Dxs.take i r)
theorem Dxs.drop : ∀ {vs : List V} {ds : List PyData} (i : Nat), Dxs K ms H vs ds → Dxs K ms H (vs.drop i) (ds.drop i)
  | _, _, 0, r => r
  | _, _, _ + 1, .nil => .nil
  | _, _, i + 1, .cons _ r => Dxs.drop i r
theorem Dxs.reverse : ∀ {vs : List V} {ds : List PyData}, Dxs K ms H vs ds → Dxs K ms H vs.reverse ds.reverse
  | _, _, .nil => .nil
  | _, _, .cons a r => by
    rw [List.reverse_cons, List.reverse_cons]
    exact Dxs.append (Dxs.reverse r) (.cons a .nil)
end
/-! ## kinds of data -/
def kindD : PyData → String
  | .none => "NoneType"
  | .bool _ => "bool"
  | .int _ => "int"
  | .str _ => "str"
  | .list _ => "list"
  | .tuple _ => "tuple"
  | .dict _ => "dict"
theorem tyD {K : PySem.W.Frag} {H : Hp} {v : V} {d : PyData} (h : Dp K H v d) : TyB K H v (kindD d) := by
  cases h with
  | non => exact .non
  | bl b => exact .bl b
  | int i => exact .int i
  | str x => exact .str x
  | lst h _ => exact .lst h
  | tup h _ => exact .tup h
/-! ## places of trees -/
def walk : Tr → List PyData → Option Tr
  | t, [] => some t
  | .n _ ps, .int i :: r => if 0 ≤ i then match ps[i.toNat]? with | some u => walk u r | none => none else none
  | _, _ => none
def atD (t : Tr) : PyData → Option Tr
  | .tuple ds => walk t ds
  | _ => none
/-- the value of what is told there -/
def AtV (K : PySem.W.Frag) (H : Hp) (r : V) : Option Tr → Prop
  | some u => Dp K H r u.data
  | none => r = .non
end Ah

namespace Ah
open PySem PySem.Spec PyProof.Rows L2
open Sem (wp)
open AutoSeq1 (wpAny_loadPart')
/-! ## enumerate(a tuple) -/
theorem enumNewT (l : Addr) (items : Array Value) (n : Nat) (dd : Option Addr) (sl : Array (Option Value)) :
    Meets (Builtin.«enumerate.__new__» ⟨[.type "enumerate", .ref l], []⟩) (fun _ R s =>
      s.heap.get? l = some { cls := .type "tuple", dict := dd, data := .seq items n, slots := sl } ∧
      R (.ok (.ret (.ref (s.heap.push { cls := .type "tuple_iterator", data := .fields #[.ref l, .int 0 0] }).objs.size)))
        ({ s with heap := Heap.push (s.heap.push { cls := .type "tuple_iterator", data := .fields #[.ref l, .int 0 0] }) ({ cls := .type "enumerate", data := .fields #[.none, .bool false, .ref s.heap.objs.size, rawInt 0, .none, .none] } : Obj) })) :=
  .of_wp fun prog w A R s h => by
    obtain ⟨g0, g1, g2, g3, g4⟩ := s
    obtain ⟨there, h⟩ := h
    have sub := sub_enumerate
    have tupL : Heap.IsTuple (Shared.heap ⟨g0, g1, g2, g3, g4⟩) l items := ⟨_, there, rfl, n, rfl⟩
    wp_walk using wpAny_loadPart' there
    refine wpAny_stack_any fun st => wpAny_pure ?_
    split
    · rename_i c _ _ _ _ _
      cases (c == Value.type "enumerate") <;>
        (wp_walk using wpAny_loadPart' there, wpAny_pyIter_tuple tupL
         exact ⟨_, rfl, h⟩)
    · wp_walk using wpAny_loadPart' there, wpAny_pyIter_tuple tupL
      exact ⟨_, rfl, h⟩
section
variable {prog : Program} {w : World} {A : Around} {E : Value → Shared → Prop} {s : Shared}
theorem callEnumT {l : Addr} {items : Array Value} {Q : Value → Shared → Prop} (tup : s.heap.IsTuple l items)
    (h : ∀ h', IsEnum h' (s.heap.objs.size + 1) s.heap.objs.size 0 .none → h'.IsTupleIter s.heap.objs.size l 0 → h'.objs.size = s.heap.objs.size + 2 →
      (∀ b o, s.heap.get? b = some o → h'.get? b = some o) → Q (.ref (s.heap.objs.size + 1)) { s with heap := h' }) :
    wpAny (model prog w) A (call (.type "enumerate") [.ref l]) Q E s := by
  obtain ⟨⟨c, dd, dt, sl⟩, there, hc, n, hd⟩ := tup
  simp only at hc hd
  subst hc hd
  have size1 : (s.heap.push { cls := .type "tuple_iterator", data := .fields #[.ref l, .int 0 0] }).objs.size = s.heap.objs.size + 1 := Heap.size_push ..
  have made : IsEnum ((s.heap.push { cls := .type "tuple_iterator", data := .fields #[.ref l, .int 0 0] }).push
      { cls := .type "enumerate", data := .fields #[.none, .bool false, .ref s.heap.objs.size, rawInt 0, .none, .none] }) (s.heap.objs.size + 1) s.heap.objs.size 0 .none := by
    rw [← size1]; exact Heap.get?_push_size _ rfl
  refine callType_new F.called_enumerate (by decide) (F.typeCall_enumerate_1 _) (F.newCall_enumerate_1 _) (fun obj => F.args_object_init_2 obj _) F.entry_enumerate_new
    (enumNewT l items n dd sl) ⟨there, ?_⟩
  show _ ∧ _
  rw [size1]
  exact ⟨⟨_, made, rfl⟩, h _ made ⟨{ cls := .type "tuple_iterator", data := .fields #[.ref l, .int 0 0] }, Heap.get?_push_of_some _ (Heap.get?_push_size _ rfl), rfl, rfl⟩ (by rw [Heap.size_push, size1])
    fun b o x => Heap.get?_push_of_some _ (Heap.get?_push_of_some _ x)⟩
theorem enumNextT {e it l : Addr} {i : Nat} {items : Array Value} {x old : Value} {Q : Value → Shared → Prop}
    (he : IsEnum s.heap e it i old) (hit : s.heap.IsTupleIter it l i) (hl : s.heap.IsTuple l items) (hx : items[i]? = some x) (apart : e ≠ it)
    (fin : ∀ h', IsEnumOut h' e it ((i : Int) + 1) x s.heap.objs.size → h'.IsTupleIter it l (i + 1) →
      h'.get? s.heap.objs.size = some { cls := .type "tuple", data := .seq #[.int i s.toks, x] } → h'.objs.size = s.heap.objs.size + 1 →
      (∀ b o, b ≠ e → b ≠ it → s.heap.get? b = some o → h'.get? b = some o) → Q (.ref s.heap.objs.size) { s with heap := h', toks := s.toks + 1 }) :
    wpAny (model prog w) A (Builtin.«enumerate.__next__» ⟨[.ref e], []⟩) (fun fin s' => ∃ v, fin = .done (.ret v) ∧ Q v s') E s := by
  obtain ⟨p0, g, d, tk, os⟩ := s
  show wpAny _ _ (field (.ref e) 2 >>= _) _ _ _
  refine wpAny_bind (wpAny_field he rfl (x := .ref it) rfl (wpAny_bind (RZ.nextOf_tuple_item hit hl hx fun p1 it1 same1 => ?_)))
  have same1' : Heap.SameBut it p0 p1 := same1
  have e1 : IsEnum p1 e it i old := (same1'.2 e apart).trans he
  show wpAny _ _ (field (.ref e) 3 >>= _) _ _ ⟨p1, g, d, tk, os⟩
  refine wpAny_bind (wpAny_field e1 rfl (x := rawInt i) rfl ?_)
  show wpAny _ _ (field (.ref e) 4 >>= _) _ _ ⟨p1, g, d, tk, os⟩
  refine wpAny_bind (wpAny_field e1 rfl (x := .none) rfl ?_)
  show wpAny _ _ (mkInt i >>= _) _ _ ⟨p1, g, d, tk, os⟩
  refine wpAny_bind (wpAny_mkInt ?_)
  show wpAny _ _ (setField (.ref e) 3 (rawInt ((i : Int) + 1)) >>= _) _ _ ⟨p1, g, d, tk + 1, os⟩
  refine wpAny_bind (wpAny_setField_rec e1 (by simp) fun p2 e2 same2 => ?_)
  have same2' : Heap.SameBut e p1 p2 := same2
  have e2' : IsEnum p2 e it ((i : Int) + 1) old := e2
  show wpAny _ _ (setField (.ref e) 4 .none >>= _) _ _ ⟨p2, g, d, tk + 1, os⟩
  refine wpAny_bind (wpAny_setField_rec e2' (by simp) fun p3 e3 same3 => ?_)
  have same3' : Heap.SameBut e p2 p3 := same3
  have e3' : IsEnum p3 e it ((i : Int) + 1) old := e3
  show wpAny _ _ (newTuple [.int i tk, x] >>= _) _ _ ⟨p3, g, d, tk + 1, os⟩
  refine wpAny_bind (wpAny_newTuple ?_)
  have sz3 : p3.objs.size = p0.objs.size := by rw [same3'.1, same2'.1, same1'.1]
  have big : e < p0.objs.size := Heap.lt_size he
  -- what is known of the heap with the new pair
  obtain ⟨p4, hp4⟩ : ∃ p4, p3.push { cls := .type "tuple", data := .seq #[.int i tk, x] } = p4 := ⟨_, rfl⟩
  have e4 : IsEnum p4 e it ((i : Int) + 1) old := by rw [← hp4]; exact Heap.get?_push_of_some _ e3'
  have t4 : p4.get? p0.objs.size = some { cls := .type "tuple", data := .seq #[.int i tk, x] } := by
    rw [← hp4, ← sz3]; exact Heap.get?_push_size _ rfl
  have z4 : p4.objs.size = p0.objs.size + 1 := by rw [← hp4, Heap.size_push, sz3]
  have it4 : p4.IsTupleIter it l (i + 1) := by
    obtain ⟨o, ho, r⟩ := (it1.extBut same2'.extBut (Ne.symm apart)).extBut same3'.extBut (Ne.symm apart)
    rw [← hp4]
    exact ⟨o, Heap.get?_push_of_some _ ho, r⟩
  have k4 : ∀ b o, b ≠ e → b ≠ it → p0.get? b = some o → p4.get? b = some o := by
    intro b o n1 n2 there
    rw [← hp4]
    exact Heap.get?_push_of_some _ (same3'.extBut b o n1 (same2'.extBut b o n1 (same1'.extBut b o n2 there)))
  rw [hp4, sz3]
  show wpAny _ _ (Builtin.SmallTypes.ownedTupleIsFree (.ref e) >>= _) _ _ ⟨p4, g, d, tk + 1, os⟩
  refine wpAny_bind ?_
  unfold Builtin.SmallTypes.ownedTupleIsFree
  refine wpAny_bind (wpAny_field e4 rfl (x := .none) rfl (wpAny_pure ?_))
  simp only [if_true]
  refine wpAny_bind (wpAny_rule (wpAny_bind (wpAny_field e4 rfl (x := old) rfl (wpAny_bind (wpAny_setField_rec e4 (by simp) fun p5 e5 same5 => ?_)))))
  have same5' : Heap.SameBut e p4 p5 := same5
  have e5' : IsEnum p5 e it ((i : Int) + 1) x := e5
  show wpAny _ _ (Builtin.SmallTypes.ownedTupleHandOut (.ref e) (.ref p0.objs.size) >>= _) _ _ ⟨p5, g, d, tk + 1, os⟩
  refine wpAny_bind ?_
  unfold Builtin.SmallTypes.ownedTupleHandOut
  refine wpAny_bind (wpAny_setField_rec e5' (by simp) fun p6 e6 same6 => ?_)
  have same6' : Heap.SameBut e p5 p6 := same6
  have e6' : IsEnumOut p6 e it ((i : Int) + 1) x p0.objs.size := e6
  refine wpAny_setField_rec e6' (by simp) fun p7 e7 same7 => ?_
  have same7' : Heap.SameBut e p6 p7 := same7
  have e7' : IsEnumOut p7 e it ((i : Int) + 1) x p0.objs.size := e7
  have far : p0.objs.size ≠ e := Nat.ne_of_gt big
  refine wpAny_bind (wpAny_letGo (wpAny_pure ⟨_, rfl, fin p7 e7' ?_ ?_ ?_ ?_⟩))
  · exact ((it4.extBut same5'.extBut (Ne.symm apart)).extBut same6'.extBut (Ne.symm apart)).extBut same7'.extBut (Ne.symm apart)
  · exact same7'.extBut _ _ far (same6'.extBut _ _ far (same5'.extBut _ _ far t4))
  · rw [same7'.1, same6'.1, same5'.1, z4]
  · intro b o n1 n2 there
    exact same7'.extBut b o n1 (same6'.extBut b o n1 (same5'.extBut b o n1 (k4 b o n1 n2 there)))
theorem nextEnumT {e it l : Addr} {i : Nat} {items : Array Value} {x old : Value} {Q : Option Value → Shared → Prop}
    (he : IsEnum s.heap e it i old) (hit : s.heap.IsTupleIter it l i) (hl : s.heap.IsTuple l items) (hx : items[i]? = some x) (apart : e ≠ it)
    (fin : ∀ h', IsEnumOut h' e it ((i : Int) + 1) x s.heap.objs.size → h'.IsTupleIter it l (i + 1) →
      h'.get? s.heap.objs.size = some { cls := .type "tuple", data := .seq #[.int i s.toks, x] } → h'.objs.size = s.heap.objs.size + 1 →
      (∀ b o, b ≠ e → b ≠ it → s.heap.get? b = some o → h'.get? b = some o) → Q (some (.ref s.heap.objs.size)) { s with heap := h', toks := s.toks + 1 }) :
    wpAny (model prog w) A (pyNext (.ref e)) Q E s := by
  have ty : s.TypeIs (.ref e) "enumerate" := ⟨_, he, rfl⟩
  unfold pyNext
  exact wpAny_bind (wpAny_attempt (wpAny_callSpecial?_slot (name := Str.ofString "__next__") ty F.slot_enumerate_next
    (wpAny_call_entry F.slot_enumerate_next ty F.entry_enumerate_next
      (enumNextT he hit hl hx apart fun h' a b c d k => wpAny_pure (fin h' a b c d k)) (F.args_enumerate_next_1 _))))
theorem endEnumT {e it l : Addr} {i : Nat} {items : Array Value} {old : Value} {Q : Option Value → Shared → Prop} (calm : A.handled = none)
    (he : IsEnum s.heap e it i old) (hit : s.heap.IsTupleIter it l i) (hl : s.heap.IsTuple l items) (hx : items[i]? = none)
    (fin : ∀ h', Heap.ExtBut it s.heap h' → Q none { s with heap := h' }) : wpAny (model prog w) A (pyNext (.ref e)) Q E s := by
  have ty : s.TypeIs (.ref e) "enumerate" := ⟨_, he, rfl⟩
  unfold pyNext
  refine wpAny_bind (wpAny_attempt (wpAny_callSpecial?_slot (name := Str.ofString "__next__") ty F.slot_enumerate_next
    (wpAny_call_entry F.slot_enumerate_next ty F.entry_enumerate_next ?_ (F.args_enumerate_next_1 _))))
  show wpAny _ _ (field (.ref e) 2 >>= _) _ _ _
  refine wpAny_bind (wpAny_field he rfl (x := .ref it) rfl (wpAny_bind (RZ.nextOf_tuple_end calm hit hl hx fun h' x kept there => ?_)))
  obtain ⟨o, ho, hc⟩ := there
  exact wpAny_bind (wpAny_isInstance (T := "StopIteration") (b := true) ⟨o, ho, hc⟩ isSubtype_stop (wpAny_pure (fin _ kept)))
end
/-- the tuple at a, each item in a new pair with its number -/
def IteT (K : PySem.W.Frag) (a : Addr) : It :=
  ⟨fun i H => ∃ (xs : List V) (x : V), SqT K H a xs ∧ xs[i]? = some x,
   fun i H v H' => ∃ T x, v = .ref T ∧ H T = none ∧ H' = upd H T (.tup [.int (i : Nat), x]) ∧ ∀ xs, SqT K H a xs → xs[i]? = some x,
   fun i H => ∃ xs : List V, SqT K H a xs ∧ xs.length ≤ i⟩
theorem turnEnumT {P : Program} {w : World} {K : PySem.W.Frag} {elts : List Expr} {kk : Nat} {tpos : Pos} (a e it : Addr) :
    Turn P w K (.Tuple elts kk tpos) (IteT K a) [e, it] e (fun i h => (∃ old, IsEnum h e it ((i : Nat) : Int) old) ∧ h.IsTupleIter it a i ∧ e ≠ it) where
  mem := by simp
  obj := by
    rintro i h ⟨⟨old, he⟩, ⟨o, ho, hc, hd⟩, _⟩ b hb
    rcases (by simpa using hb : b = e ∨ b = it) with rfl | rfl
    · exact ⟨_, he, fun v q => nomatch q⟩
    · exact ⟨o, ho, fun v q => by rw [hd] at q; cases q⟩
  keep := by
    rintro i h h' ⟨⟨old, he⟩, hi, apart⟩ k
    exact ⟨⟨old, k e (by simp) _ he⟩, hi.at fun o q => k it (by simp) o q, apart⟩
  item := by
    rintro X rfl rfl rfl hc i pins s σ H E I hf ⟨⟨old, he⟩, hit, apart⟩ ⟨xs, x, hq, hx⟩
    obtain ⟨its, rv, p, hz⟩ := I.tuple hq
    obtain ⟨u, hu, ru⟩ := rv.get hx
    have le : e < s.heap.objs.size := Heap.lt_size he
    have li : it < s.heap.objs.size := by obtain ⟨_, q, _⟩ := hit; exact Heap.lt_size q
    have two : ∀ {b}, b ∈ [e, it] → b = e ∨ b = it := fun {b} h => by simpa using h
    refine nextEnumT he hit (show s.heap.IsTuple a its.toArray from p) (x := u) (by simpa using hu) apart fun h' ho hit' hT hsz hk => ?_
    refine ⟨_, rfl, wpAny_letOwnedTupleGo_enum (s := { s with heap := h', toks := s.toks + 1 }) ho fun h'' he' sb => ?_⟩
    have hT2 : h''.get? s.heap.objs.size = some { cls := .type "tuple", data := .seq #[.int i s.toks, u] } := (sb.2 _ (Nat.ne_of_gt le)).trans hT
    have new : ObjOk X.prog X.w (upd H s.heap.objs.size (.tup [.int (i : Nat), x])) h'' s.heap.objs.size (.tup [.int (i : Nat), x]) :=
      ⟨by show 2 ≤ sizeLine; decide, [.int i s.toks, u], .cons ⟨_, rfl⟩ (.cons ru .nil), ⟨_, hT2, rfl, _, rfl⟩⟩
    have I1 : Inv X pins σ (upd H s.heap.objs.size (.tup [.int (i : Nat), x])) { s with heap := h'', toks := s.toks + 1 } := by
      refine I.turnedNew (ch := [e, it]) (fun b ob hb q => ?_) hf (Nat.le_refl _) new
      have n1 : b ≠ e := fun z => hb (by simp [z])
      have n2 : b ≠ it := fun z => hb (by simp [z])
      exact (sb.2 b n1).trans (hk b ob n1 n2 q)
    refine ⟨.ref s.heap.objs.size, _, I1, rfl, ⟨_, x, rfl, I.hok.fresh (Nat.le_refl _), rfl, fun ys hy => by rw [I.tuple_inj hy hq]; exact hx⟩,
      ⟨⟨u, ?_⟩, hit'.at fun o q => (sb.2 it (Ne.symm apart)).trans q, apart⟩, fun b hb => ?_⟩
    · rw [show ((i + 1 : Nat) : Int) = (i : Int) + 1 by omega]; exact he'
    · have lb : b < s.heap.objs.size := by rcases two hb with rfl | rfl <;> assumption
      rw [upd_ne (Nat.ne_of_lt lb)]
      exact (hf b hb).1
  done := by
    rintro X rfl rfl rfl hc i pins s σ H E I hf ⟨⟨old, he⟩, hit, apart⟩ ⟨xs, hq, hx⟩
    obtain ⟨its, rv, p, hz⟩ := I.tuple hq
    obtain ⟨f0, f1, f2, f3, f4, f5⟩ := hf it (by simp)
    have hl := rv.length
    exact endEnumT (I.ok.hd hc) he hit (show s.heap.IsTuple a its.toArray from p) (by simp; omega)
      fun h' eb => ⟨rfl, I.turned (t' := s.toks) (fun b o hb q => eb b o hb q) f0 f1 f3 f4 f5⟩
  self := by
    rintro A i s Q E ⟨⟨_, he⟩, _⟩ h
    exact wpAny_pyIter_enum he h
def iEnumT (K : PySem.W.Frag) (ta : TA) : TI := fun σ H R => ta σ H fun vs H1 => ∃ a xs, vs = [.ref a] ∧ SqT K H1 a xs ∧ R (IteT K a) H1
theorem pi_enumT {X : Cx} {e : Expr} {ta : TA} {p pos tpos : Pos} {elts : List Expr} {kk : Nat} (hg : Gl X "enumerate") (hm : X.mg "enumerate" = none) (ha : PA X [e] ta)
    (hs : starEach [e] X.env = [(false, eval e X.env)] := by rfl) :
    PI X (.Tuple elts kk tpos) (.Call (.Name "enumerate" p) [e] [] pos) (iEnumT X.K ta) := by
  constructor
  intro pins s σ H R I h
  refine Call_ (ld_blt I hg hm boot_enumerate (PyProof.Rows.callWith_type1 (thn (ha.run pos pins s σ H _ I h) ?_) hs rfl))
  rintro us s1 ⟨vs, H1, I1, r1, a, xs, rfl, hq, q⟩
  obtain ⟨u, rfl, ru⟩ := vals1 r1
  cases ru
  obtain ⟨its, rv, pt, hz⟩ := I1.tuple hq
  refine callEnumT (show s1.heap.IsTuple a its.toArray from pt) fun h' he hit hsz hk => wpAny_pyIter_enum he ?_
  have I2 : Inv X pins σ H1 { s1 with heap := h' } := I1.kept (t' := s1.toks) hk
  refine ⟨s1.heap.objs.size + 1, [s1.heap.objs.size + 1, s1.heap.objs.size], _, _, H1, rfl, I2, turnEnumT a (s1.heap.objs.size + 1) s1.heap.objs.size,
    ⟨⟨.none, he⟩, hit, Nat.succ_ne_self _⟩, fun b hb => ?_, q⟩
  have le : s1.heap.objs.size ≤ b := by
    rcases (by simpa using hb : b = s1.heap.objs.size + 1 ∨ b = s1.heap.objs.size) with rfl | rfl
    · exact Nat.le_add_right _ _
    · exact Nat.le_refl _
  exact I1.fpOk le (I1.hok.fresh le)
theorem walk_enumT {K : PySem.W.Frag} {a : Addr} {xs : List V} : Walk (IteT K a) xs.length (fun H => SqT K H a xs) (YPair (fun i => some (.int (i : Nat))) (fun i => xs[i]?)) := by
  constructor
  · intro i _ hi q; exact ⟨xs, xs[i], q, by simp [hi]⟩
  · intro _ q; exact ⟨xs, q, Nat.le_refl _⟩
  · rintro i H v H' _ q ⟨T, x, h1, h2, h3, h4⟩
    exact ⟨T, .int (i : Nat), x, h1, h2, h3, rfl, h4 xs q⟩
end Ah

namespace Ah
open PySem PySem.Spec PyProof.Rows L2
open Sem (wp)
section
variable {X : Cx} {e : Expr} {te : TE} {k : Nat} {p1 p2 p3 pos : Pos}
/-- t[::-1], t a tuple -/
def tBackT (K : PySem.W.Frag) (te : TE) : TE := fun σ H Q => te σ H fun x H1 => ∃ a xs, x = .ref a ∧ SqT K H1 a xs ∧
  ∀ p, H1 p = none → Q (.ref p) (upd H1 p (.tup xs.reverse))
theorem adjAll (n : Nat) : ∃ b, Builtin.Slice.sliceAdjust none none (-1) ((n : Nat) : Int) = (((n : Nat) : Int) - 1, b) ∧ Builtin.Slice.slicePlaces (((n : Nat) : Int) - 1) b (-1) = n := by
  refine ⟨-1, ?_, ?_⟩
  · unfold Builtin.Slice.sliceAdjust
    simp
  · unfold Builtin.Slice.slicePlaces
    simp only [show ¬ ((-1 : Int) > 0) by decide, if_false, show -(-1 : Int) = 1 from rfl, Int.ediv_one]
    split <;> omega
theorem pe_backT (he : PE X e te) : PE X (.Subscript e (.Slice none none (some (.UnaryOp .USub (.Constant (.int 1) k p1) p2)) p3) pos) (tBackT X.K te) := by
  constructor
  intro pins s σ H Q I h
  refine Subscript_ (thn (he.run pins s σ H _ I h) fun v s1 z => ?_)
  obtain ⟨x, H1, I1, r1, a, xs, ex, hx, q⟩ := z
  subst ex
  cases r1
  have hst : PO X (some (.UnaryOp .USub (.Constant (.int 1) k p1) p2)) (tPart (tUn (rU fun i => .int (-i)) (tC (.int 1)))) := po_some (pe_un un_neg pe_int)
  refine wpAny_Slice (thn (po_none.run pins s1 σ H1 (fun o H2 => o = none ∧ H2 = H1) I1 ⟨rfl, rfl⟩) ?_)
  rintro vl s2 ⟨l, H2, I2, pl, rfl, rfl⟩
  refine thn (po_none.run pins s2 σ H2 (fun o H3 => o = none ∧ H3 = H2) I2 ⟨rfl, rfl⟩) ?_
  rintro vu s3 ⟨u, H3, I3, pu, rfl, rfl⟩
  refine thn (hst.run pins s3 σ H3 (fun o H4 => o = some (-1) ∧ H4 = H3) I3 ⟨1, rfl, -1, rfl, rfl, rfl⟩) ?_
  rintro vs s4 ⟨o, H4, I4, ps, rfl, rfl⟩
  have I5 : Inv X pins σ H4 { s4 with heap := s4.heap.push { cls := .type "slice", data := .fields #[vl, vu, vs] } } :=
    I4.kept (t' := s4.toks) fun b ob z => Heap.get?_push_of_some _ z
  obtain ⟨its, r, ht, hz⟩ := I5.tuple hx
  have hlen := r.length
  refine tail_any (ops := [.ref a, .ref s4.heap.objs.size]) ht.typeIs (PyProof.Rows.slot_tuple_getitem.lookup) ?_ (by with_unfolding_all rfl)
  refine itemsBack ht (Heap.IsSliceOf.new _ vl vu vs) pl pu ps its.length (by simp) (by simpa using adjAll its.length) ?_ (by rw [List.size_toArray, ← hlen]; exact hz)
  have e1 : (its.toArray.toList.drop (its.toArray.size - its.length)).reverse = its.reverse := by simp
  rw [e1]
  refine ⟨.ref _, _, I5.laid (t' := s4.toks) (o := .tup xs.reverse) (fun b ob z => Heap.get?_push_of_some _ z) (Nat.le_refl _) ?_, rfl, q _ (I5.hok.fresh (Nat.le_refl _))⟩
  exact ⟨by rw [List.length_reverse]; omega, _, (show Vals xs its from r).reverse, IsTup.new _ _⟩
end
/-! ## rules that read the written part, said with it -/
theorem catA {X : Cx} (K : PySem.W.Frag) (h : X.K = K := by rfl) : OpR X (binaryOp .Add) (rCatA K) := h ▸ op_catA
theorem pgTup {X : Cx} (K : PySem.W.Frag) (n : Nat) {es : List Expr} {k : Nat} {pos : Pos} {t : TGs} (hc : X.calm = true) (h : PGs X es t) (hk : X.K = K := by rfl)
    (hn : (assignEach es X.env).length = n := by rfl) (hst : (assignEach es X.env).findIdx? (·.1) = none := by rfl) : PG X (.Tuple es k pos) (gTup K n t) := hk ▸ pg_tup hc h hn hst
/-! ## data without lists stays for ever -/
mutual
def noL : PyData → Bool
  | .none => true
  | .bool _ => true
  | .int _ => true
  | .str _ => true
  | .tuple ds => noLs ds
  | .list _ => false
  | .dict _ => false
def noLs : List PyData → Bool
  | [] => true
  | d :: ds => noL d && noLs ds
end
section
variable {K : PySem.W.Frag} {ms : List Addr} {H H' : Hp}
mutual
theorem Dp.kpF (k : Kp ms H H') (n : ∀ m ∈ ms, Loose H m) : ∀ (d : PyData) {v : V}, noL d = true → Dp K H v d → Dp K H' v d
  | .none, _, _, h => by cases h; exact .non
  | .bool b, _, _, h => by cases h; exact .bl b
  | .int i, _, _, h => by cases h; exact .int i
  | .str x, _, _, h => by cases h; exact .str x
  | .list ds, _, f, h => by rw [noL] at f; cases f
  | .tuple ds, _, f, h => by
    rw [noL] at f
    cases h with
    | tup b c => exact .tup (SqT.kp k n b) (Dps.kpF k n ds f c)
  | .dict _, _, _, h => by cases h
theorem Dps.kpF (k : Kp ms H H') (n : ∀ m ∈ ms, Loose H m) : ∀ (ds : List PyData) {vs : List V}, noLs ds = true → DpAll K H vs ds → DpAll K H' vs ds
  | [], _, _, h => by cases h; exact .nil
  | d :: ds, _, f, h => by
    rw [noLs, Bool.and_eq_true] at f
    cases h with
    | cons a b => exact .cons (Dp.kpF k n d f.1 a) (Dps.kpF k n ds f.2 b)
end
mutual
theorem Dp.dxF : ∀ (d : PyData) {v : V}, noL d = true → Dp K H v d → Dx K ms H v d
  | .none, _, _, h => by cases h; exact .non
  | .bool b, _, _, h => by cases h; exact .bl b
  | .int i, _, _, h => by cases h; exact .int i
  | .str x, _, _, h => by cases h; exact .str x
  | .list ds, _, f, h => by rw [noL] at f; cases f
  | .tuple ds, _, f, h => by
    rw [noL] at f
    cases h with
    | tup b c => exact .tup b (Dps.dxF ds f c)
  | .dict _, _, _, h => by cases h
theorem Dps.dxF : ∀ (ds : List PyData) {vs : List V}, noLs ds = true → DpAll K H vs ds → Dxs K ms H vs ds
  | [], _, _, h => by cases h; exact .nil
  | d :: ds, _, f, h => by
    rw [noLs, Bool.and_eq_true] at f
    cases h with
    | cons a b => exact .cons (Dp.dxF d f.1 a) (Dps.dxF ds f.2 b)
end
end
mutual
theorem Tr.noL : ∀ t : Tr, noL t.data = true
  | .h s => by rw [Tr.data, Ah.noL]
  | .n f ps => by rw [Tr.data, Ah.noL, noLs, Ah.noL, trsNoL ps]; rfl
theorem trsNoL : ∀ ts : List Tr, noLs (datas ts) = true
  | [] => by rw [datas, noLs]
  | t :: r => by rw [datas, noLs, Tr.noL t, trsNoL r]; rfl
end
theorem noLs_append : ∀ a b : List PyData, noLs (a ++ b) = (noLs a && noLs b)
  | [], b => by rw [List.nil_append, noLs]; rfl
  | d :: r, b => by rw [List.cons_append, noLs, noLs, noLs_append r b, Bool.and_assoc]
theorem noLs_all {ds : List PyData} (h : ∀ d ∈ ds, noL d = true) : noLs ds = true := by
  induction ds with
  | nil => rw [noLs]
  | cons d r ih => rw [noLs, h d (List.mem_cons_self ..), ih fun e he => h e (List.mem_cons_of_mem _ he)]; rfl
/-! ## the places of a tree, as they come -/
mutual
def Tr.spots : Tr → List (List Nat × Tr)
  | .h s => [([], .h s)]
  | .n f ps => ([], .n f ps) :: spotsL 0 ps
def spotsL : Nat → List Tr → List (List Nat × Tr)
  | _, [] => []
  | k, t :: r => t.spots.map (fun q => (k :: q.1, q.2)) ++ spotsL (k + 1) r
end
def spD (s : List Nat) : PyData := .tuple (s.map fun i => .int ((i : Nat) : Int))
def pairD (q : List Nat × Tr) : PyData := .tuple [spD q.1, q.2.data]
theorem spD_noL (s : List Nat) : noL (spD s) = true := by
  rw [spD, noL]
  exact noLs_all fun d hd => by obtain ⟨i, _, rfl⟩ := List.mem_map.mp hd; rw [noL]
theorem pairD_noL (q : List Nat × Tr) : noL (pairD q) = true := by
  rw [pairD, noL, noLs, noLs, noLs, spD_noL, Tr.noL]; rfl
theorem spotsL_append : ∀ (k : Nat) (a b : List Tr), spotsL k (a ++ b) = spotsL k a ++ spotsL (k + a.length) b
  | k, [], b => by rw [List.nil_append, spotsL, List.nil_append, List.length_nil, Nat.add_zero]
  | k, t :: r, b => by
    rw [List.cons_append, spotsL, spotsL, spotsL_append (k + 1) r b, List.append_assoc, List.length_cons]
    rw [show k + 1 + r.length = k + (r.length + 1) by omega]
mutual
theorem Tr.spots_len : ∀ t : Tr, t.spots.length = t.size
  | .h s => by rw [Tr.spots, size_h]; rfl
  | .n f ps => by rw [Tr.spots, size_n, List.length_cons, spotsL_len 0 ps]
theorem spotsL_len : ∀ (k : Nat) (ts : List Tr), (spotsL k ts).length = sizes ts
  | _, [] => by rw [spotsL, sizes_nil]; rfl
  | k, t :: r => by rw [spotsL, List.length_append, List.length_map, Tr.spots_len t, spotsL_len (k + 1) r, sizes_cons]
end
mutual
theorem Tr.deep_size : ∀ t : Tr, t.deep ≤ t.size
  | .h s => Nat.zero_le _
  | .n f ps => by
    rw [size_n]
    have := deeps_size ps
    show deeps ps + 1 ≤ _
    omega
theorem deeps_size : ∀ ps : List Tr, deeps ps ≤ sizes ps
  | [] => Nat.le_refl _
  | t :: r => by
    rw [sizes_cons]
    have := Tr.deep_size t
    have := deeps_size r
    show max t.deep (deeps r) ≤ _
    omega
end
mutual
theorem Tr.spots_deep : ∀ t : Tr, ∀ q ∈ t.spots, q.1.length ≤ t.deep
  | .h s, q, h => by rw [Tr.spots] at h; rw [List.mem_singleton.mp h]; exact Nat.zero_le _
  | .n f ps, q, h => by
    rw [Tr.spots] at h
    rcases List.mem_cons.mp h with rfl | h
    · exact Nat.zero_le _
    · exact spotsL_deep 0 ps q h
theorem spotsL_deep : ∀ (k : Nat) (ts : List Tr), ∀ q ∈ spotsL k ts, q.1.length ≤ deeps ts + 1
  | _, [], q, h => by rw [spotsL] at h; cases h
  | k, t :: r, q, h => by
    rw [spotsL] at h
    show _ ≤ max t.deep (deeps r) + 1
    rcases List.mem_append.mp h with h | h
    · obtain ⟨q', h', rfl⟩ := List.mem_map.mp h
      have := Tr.spots_deep t q' h'
      show (k :: q'.1).length ≤ _
      rw [List.length_cons]; omega
    · have := spotsL_deep (k + 1) r q h
      omega
end
end Ah

namespace Ah
open PySem PySem.Spec PyProof.Rows L2
/-! ## t[lo:hi] and t + u, whatever comes -/
def rSlU (K : PySem.W.Frag) : V → Option Int → Option Int → Hp → VK → Prop := fun x lo hi H Q => ∃ a xs, x = .ref a ∧ SqT K H a xs ∧
  ∀ r H', Kp [] H H' → SqT K H' r (cutV xs lo hi) → Q (.ref r) H'
def rCatU (K : PySem.W.Frag) : R2 := fun x y H Q => ∃ a b xs ys, x = .ref a ∧ y = .ref b ∧ SqT K H a xs ∧ SqT K H b ys ∧ xs.length + ys.length ≤ sizeLine ∧
  ∀ r H', Kp [] H H' → SqT K H' r (xs ++ ys) → Q (.ref r) H'
section
variable {X : Cx}
theorem sl_tupU : SlR X (rSlU X.K) := by
  intro pins s σ H x v vl vu lo hi sl Q I rx hs pl pu h
  obtain ⟨a, xs, rfl, hx, q⟩ := h
  refine sl_tupA pins s σ H _ v vl vu lo hi sl Q I rx hs pl pu ⟨a, xs, rfl, hx, fun hw => q a H (Kp.refl _ _) ?_, fun _ p hp => q p _ (Kp.new hp) (SqT.of upd_same)⟩
  have e : cutV xs lo hi = xs := by
    unfold cutV
    rw [hw.1, hw.2]; simp
  rw [e]; exact hx
theorem op_catU : OpR X (binaryOp .Add) (rCatU X.K) := by
  intro pins s σ H x y v u Q I rx ry h
  obtain ⟨a, b, xs, ys, rfl, rfl, ha, hb, hz, q⟩ := h
  refine op_catA pins s σ H _ _ v u Q I rx ry ⟨a, b, xs, ys, rfl, rfl, ha, hb, hz, fun e => q b H (Kp.refl _ _) ?_, fun _ e => q a H (Kp.refl _ _) ?_, fun _ _ p hp => q p _ (Kp.new hp) (SqT.of upd_same)⟩
  · rw [e]; exact hb
  · rw [e, List.append_nil]; exact ha
end
/-! ## data that may be shown, with somewhat longer numbers -/
structure Fi (k b : Nat) (d : PyData) : Prop where
  dep : d.depth ≤ k
  sho : d.showable = true
  lea : d.leavesShort 30 = true
  blk : d.bulk ≤ b
structure Fis (k b : Nat) (ds : List PyData) : Prop where
  dep : PyData.depthAll ds ≤ k
  sho : PyData.showableAll ds = true
  lea : PyData.leavesShortAll 30 ds = true
  blk : PyData.bulkAll ds ≤ b
theorem Fi.str {z : Str} (h : Sm z) (k : Nat) : Fi k z.length (.str z) := by
  refine ⟨by simp [PyData.depth], by simp [PyData.showable], ?_, by simp [PyData.bulk, Str.length]⟩
  simp only [PyData.leavesShort, List.all_eq_true]
  intro c hc
  have := h.2 c hc
  exact decide_eq_true (by omega)
theorem Fi.int {i : Int} (h : i.natAbs < 10 ^ 12) (k : Nat) : Fi k 0 (.int i) := by
  refine ⟨by simp [PyData.depth], ?_, ?_, by simp [PyData.bulk]⟩
  · simp only [PyData.showable]
    exact decide_eq_true (log2_small (Nat.lt_of_lt_of_le h (Nat.le_trans (by decide : 10 ^ 12 ≤ 2 ^ 64) (Nat.pow_le_pow_right (by decide) (by decide)))))
  · simp only [PyData.leavesShort]
    exact decide_eq_true (Nat.le_trans (PyData.shown_int_le h) (by decide))
theorem Fi.e20 (k : Nat) : Fi k 0 (.int (10 ^ 20)) := by
  refine ⟨by simp [PyData.depth], ?_, ?_, by simp [PyData.bulk]⟩
  · simp only [PyData.showable]
    exact decide_eq_true (log2_small (Nat.lt_of_lt_of_le (by decide : (10 ^ 20 : Int).natAbs < 2 ^ 100) (Nat.pow_le_pow_right (by decide) (by decide))))
  · decide +kernel
theorem Fi.bool (b : Bool) (k : Nat) : Fi k 0 (.bool b) := ⟨by simp [PyData.depth], by simp [PyData.showable], by simp [PyData.leavesShort], by simp [PyData.bulk]⟩
theorem Fi.none (k : Nat) : Fi k 0 .none := ⟨by simp [PyData.depth], by simp [PyData.showable], by simp [PyData.leavesShort], by simp [PyData.bulk]⟩
theorem Fis.nil (k b : Nat) : Fis k b [] := ⟨by simp [PyData.depthAll], by simp [PyData.showableAll], by simp [PyData.leavesShortAll], by simp [PyData.bulkAll]⟩
theorem Fis.cons {k b c : Nat} {d : PyData} {ds : List PyData} (h : Fi k b d) (r : Fis k c ds) : Fis k (b + 1 + c) (d :: ds) := by
  refine ⟨?_, ?_, ?_, ?_⟩
  · simp only [PyData.depthAll]; have := h.dep; have := r.dep; omega
  · simp only [PyData.showableAll, h.sho, r.sho]; rfl
  · simp only [PyData.leavesShortAll, h.lea, r.lea]; rfl
  · simp only [PyData.bulkAll]; have := h.blk; have := r.blk; omega
theorem Fis.list {k b : Nat} {ds : List PyData} (r : Fis k b ds) : Fi (k + 1) b (.list ds) := by
  refine ⟨?_, ?_, ?_, ?_⟩
  · simp only [PyData.depth]; have := r.dep; omega
  · simp only [PyData.showable, r.sho]
  · simp only [PyData.leavesShort, r.lea]
  · simp only [PyData.bulk]; exact r.blk
theorem Fis.tuple {k b : Nat} {ds : List PyData} (r : Fis k b ds) : Fi (k + 1) b (.tuple ds) := by
  refine ⟨?_, ?_, ?_, ?_⟩
  · simp only [PyData.depth]; have := r.dep; omega
  · simp only [PyData.showable, r.sho]
  · simp only [PyData.leavesShort, r.lea]
  · simp only [PyData.bulk]; exact r.blk
theorem Fi.up {k b k' b' : Nat} {d : PyData} (h : Fi k b d) (hk : k ≤ k') (hb : b ≤ b') : Fi k' b' d :=
  ⟨Nat.le_trans h.dep hk, h.sho, h.lea, Nat.le_trans h.blk hb⟩
theorem Fis.up {k b k' b' : Nat} {d : List PyData} (h : Fis k b d) (hk : k ≤ k') (hb : b ≤ b') : Fis k' b' d :=
  ⟨Nat.le_trans h.dep hk, h.sho, h.lea, Nat.le_trans h.blk hb⟩
theorem fisAll {k b : Nat} {ds : List PyData} (h : ∀ d ∈ ds, Fi k b d) : Fis k ((b + 1) * ds.length) ds := by
  induction ds with
  | nil => exact Fis.nil _ _
  | cons d r ih =>
    refine (Fis.cons (h d (by simp)) (ih fun e he => h e (by simp [he]))).up (Nat.le_refl _) ?_
    rw [List.length_cons, Nat.mul_add, Nat.mul_one]; omega
theorem Fi.fits {k b : Nat} {d : PyData} (h : Fi k b d) (hb : b ≤ 100000) : d.shown.length ≤ sizeLine := by
  have := PyData.shown_le_bulk 30 (by decide) d h.lea
  have := h.blk
  rw [sizeLine_eq]
  omega
theorem showFi {k b : Nat} {d : PyData} (f : Fi k b d) (hk : k ≤ 60) (hb : b ≤ 100000) : d.showable = true ∧ d.depth ≤ 60 ∧ d.shown.length ≤ sizeLine :=
  ⟨f.sho, Nat.le_trans f.dep hk, f.fits hb⟩
/-! ## data that lies apart from all that was there -/
section
variable {K : PySem.W.Frag} {ms ns : List Addr} {H0 H H' : Hp}
mutual
theorem Dx.weak (sub : ∀ b ∈ ns, b ∈ ms) : ∀ (d : PyData) {v : V}, Dx K ms H v d → Dx K ns H v d
  | .none, _, h => by cases h; exact .non
  | .bool b, _, h => by cases h; exact .bl b
  | .int i, _, h => by cases h; exact .int i
  | .str x, _, h => by cases h; exact .str x
  | .list ds, _, h => by
    cases h with
    | lst a b c => exact .lst (fun z => a (sub _ z)) b (Dxs.weak sub ds c)
  | .tuple ds, _, h => by
    cases h with
    | tup b c => exact .tup b (Dxs.weak sub ds c)
  | .dict _, _, h => by cases h
theorem Dxs.weak (sub : ∀ b ∈ ns, b ∈ ms) : ∀ (ds : List PyData) {vs : List V}, Dxs K ms H vs ds → Dxs K ns H vs ds
  | [], _, h => by cases h; exact .nil
  | d :: ds, _, h => by
    cases h with
    | cons a b => exact .cons (Dx.weak sub d a) (Dxs.weak sub ds b)
end
/-- data whose lists are new since H0 -/
def Apart (K : PySem.W.Frag) (H0 H : Hp) (v : V) (d : PyData) : Prop := ∀ ms, (∀ m ∈ ms, H0 m ≠ none) → Dx K ms H v d
def Aparts (K : PySem.W.Frag) (H0 H : Hp) (vs : List V) (ds : List PyData) : Prop := ∀ ms, (∀ m ∈ ms, H0 m ≠ none) → Dxs K ms H vs ds
theorem Apart.new {v : V} {d : PyData} (h : Apart K H0 H v d) (k : Kp [] H H') : Apart K H0 H' v d := fun ms n => (h ms n).new k
theorem Apart.kp {v : V} {d : PyData} {a : Addr} (h : Apart K H0 H v d) (k : Kp [a] H H') (n0 : H0 a ≠ none) (n : Loose H a) : Apart K H0 H' v d := fun ms nm =>
  Dx.weak (ms := a :: ms) (fun b hb => List.mem_cons_of_mem _ hb) d
    (Dx.kp k (fun b hb => by rw [List.mem_singleton.mp hb]; simp) (fun m hm => by rw [List.mem_singleton.mp hm]; exact n) d
      (h (a :: ms) fun m hm => by rcases List.mem_cons.mp hm with rfl | hm <;> first | exact n0 | exact nm m hm))
theorem Apart.flat {v : V} {d : PyData} (h : Dp K H v d) (f : noL d = true) : Apart K H0 H v d := fun _ _ => Dp.dxF d f h
theorem Aparts.new {v : List V} {d : List PyData} (h : Aparts K H0 H v d) (k : Kp [] H H') : Aparts K H0 H' v d := fun ms n => (h ms n).new k
theorem Aparts.nil : Aparts K H0 H [] [] := fun _ _ => .nil
theorem Aparts.cons {v : V} {vs : List V} {d : PyData} {ds : List PyData} (h : Apart K H0 H v d) (r : Aparts K H0 H vs ds) : Aparts K H0 H (v :: vs) (d :: ds) := fun ms n => .cons (h ms n) (r ms n)
theorem Aparts.append {vs us : List V} {ds es : List PyData} (h : Aparts K H0 H vs ds) (r : Aparts K H0 H us es) : Aparts K H0 H (vs ++ us) (ds ++ es) := fun ms n => (h ms n).append (r ms n)
theorem Aparts.cut {vs : List V} {ds : List PyData} (h : Aparts K H0 H vs ds) (i j : Nat) : Aparts K H0 H ((vs.drop i).take j) ((ds.drop i).take j) := fun ms n => ((h ms n).drop i).take j
theorem Aparts.reverse {vs : List V} {ds : List PyData} (h : Aparts K H0 H vs ds) : Aparts K H0 H vs.reverse ds.reverse := fun ms n => (h ms n).reverse
theorem Aparts.tup {a : Addr} {vs : List V} {ds : List PyData} (h : Aparts K H0 H vs ds) (t : SqT K H a vs) : Apart K H0 H (.ref a) (.tuple ds) := fun ms n => .tup t (h ms n)
theorem Aparts.lst {a : Addr} {vs : List V} {ds : List PyData} (h : Aparts K H0 H vs ds) (t : H a = some (.lst vs)) (n0 : H0 a = none) : Apart K H0 H (.ref a) (.list ds) := fun ms n =>
  .lst (fun hm => n a hm n0) t (h ms n)
theorem Apart.old {v : V} {d : PyData} {H1 : Hp} (h : Apart K H1 H v d) (k : ∀ b, H0 b ≠ none → H1 b ≠ none) : Apart K H0 H v d := fun ms n => h ms fun m hm => k m (n m hm)
end
theorem Kp.some {H H' : Hp} (k : Kp [] H H') : ∀ b, H b ≠ none → H' b ≠ none := by
  intro b h z
  cases q : H b with
  | none => exact h q
  | some o => rw [k b o (fun z => by cases z) q] at z; cases z
theorem spotV {K : PySem.W.Frag} {H : Hp} : ∀ {s : List Nat} {ss : List V}, DpAll K H ss (s.map fun i => PyData.int ((i : Nat) : Int)) → ss = s.map fun i => V.int ((i : Nat) : Int)
  | [], _, h => by cases h; rfl
  | i :: r, _, h => by
    cases h with
    | cons a b => cases a; rw [spotV b]; rfl
theorem spotA {K : PySem.W.Frag} {H0 H : Hp} : ∀ s : List Nat, Aparts K H0 H (s.map fun i => V.int ((i : Nat) : Int)) (s.map fun i => PyData.int ((i : Nat) : Int))
  | [] => .nil
  | i :: r => .cons (fun _ _ => .int _) (spotA r)
end Ah

namespace Ah
open PySem PySem.Spec PyProof.Rows L2
open PySem.Builtin.Str (reprChar)
/-! ## repr of data, or of an empty dict -/
def rReprE (K : PySem.W.Frag) : List V → Hp → VK → Prop := fun xs H Q => rRepr K xs H Q ∨ ∃ p, xs = [.ref p] ∧ H p = some (.dK []) ∧ Q (.str "{}") H
theorem call_reprE {X : Cx} (hg : X.A.guards = some []) (hu : X.A.units + 64 < cLine) : CallR X (.builtin "repr") (rReprE X.K) := by
  intro pins s σ H xs us Q I r h
  rcases h with h | ⟨p, rfl, hp, q⟩
  · exact call_reprD hg hu pins s σ H xs us Q I r h
  · obtain ⟨u, rfl, rx⟩ := vals1 r
    obtain rfl : u = Value.ref p := rx
    obtain ⟨_, lo, vs, kv, o, es, ep, ho, hx, hd, _, hp2, _⟩ := dk_of I.hok hp
    cases kv
    have e0 : es.toList = [] := List.length_eq_zero_iff.mp hp2.length
    have rd : Reads s.heap (.ref p) (.dict []) [p] := .dict (as := []) (bs := []) ho hx.1 hd (by rw [e0]; exact .nil) (by rw [e0]; exact .nil)
    refine repr_of_reads' rd (by decide) (fun _ z => ?_) hg (by simp [PyData.depth, PyData.depthKv]; omega) (fun _ _ e => e)
      (fun h' u tk hk => ⟨.str _, H, I.kept (t' := tk) hk, ⟨_, rfl⟩, q⟩) (by decide +kernel)
    rw [List.mem_singleton.mp z, beq_self_eq_true] at lo
    cases lo
/-! ## texts of tuples of numbers: of one such tuple alone -/
theorem foldPre (q : Nat) : ∀ (l : List Nat) (acc : Array Nat), ∃ r, (l.foldl (fun out c => out ++ (reprChar q c).toArray) acc).toList = acc.toList ++ r
  | [], acc => ⟨[], by simp⟩
  | c :: l, acc => by
    obtain ⟨r, e⟩ := foldPre q l (acc ++ (reprChar q c).toArray)
    refine ⟨reprChar q c ++ r, ?_⟩
    rw [List.foldl_cons, e]
    simp
theorem quoteHead (x : Str) : ∃ r, TL.tl (reprText x) = reprQuote x :: r := by
  obtain ⟨r, e⟩ := foldPre (reprQuote x) x.cps.toList #[reprQuote x]
  refine ⟨r ++ [reprQuote x], ?_⟩
  show ((x.cps.foldl (fun out c => out ++ (reprChar (reprQuote x) c).toArray) #[reprQuote x]).push (reprQuote x)).toList = _
  rw [Array.toList_push, ← Array.foldl_toList, e]
  rfl
theorem quoteIs (x : Str) : reprQuote x = 39 ∨ reprQuote x = 34 := by
  unfold reprQuote
  split <;> first | exact .inl rfl | exact .inr rfl
def allow (c : Nat) : Prop := c = 32 ∨ c = 44 ∨ (48 ≤ c ∧ c ≤ 57)
theorem tl_listText (ts : List Str) : ∃ r, TL.tl (listText ts) = 91 :: r := by
  rw [listText_eq_join, TL.tl_append, TL.tl_append]
  exact ⟨_, rfl⟩
theorem tl_dictText (ts : List Str) : ∃ r, TL.tl (dictText ts) = 123 :: r := by
  unfold dictText
  rw [TL.tl_append, TL.tl_append]
  exact ⟨_, rfl⟩
theorem tl_tupleText (ts : List Str) : TL.tl (tupleText ts) = 40 :: (TL.joinL [44, 32] (ts.map TL.tl) ++ (if ts.length = 1 then [44, 41] else [41])) := by
  unfold tupleText
  rw [TL.tl_append, TL.tl_append, TL.tl_join]
  have e : TL.tl (Str.ofString ", ") = [44, 32] := rfl
  rw [e]
  by_cases h : ts.length = 1
  · rw [if_pos h, if_pos (by simpa using h)]; rfl
  · rw [if_neg h, if_neg (by simpa using h)]; rfl
theorem shown_head (e : PyData) : ∃ c r, TL.tl e.shown = c :: r ∧ ((∃ ds, e = .tuple ds) ∨ (∃ n : Nat, e = .int (n : Int) ∧ 48 ≤ c ∧ c ≤ 57) ∨ (c ≠ 40 ∧ ¬ allow c)) := by
  cases e with
  | none => exact ⟨78, [111, 110, 101], by rw [PyData.shown]; rfl, .inr (.inr (by unfold allow; omega))⟩
  | bool b =>
    cases b
    · exact ⟨70, [97, 108, 115, 101], by rw [PyData.shown]; rfl, .inr (.inr (by unfold allow; omega))⟩
    · exact ⟨84, [114, 117, 101], by rw [PyData.shown]; rfl, .inr (.inr (by unfold allow; omega))⟩
  | int i =>
    cases i with
    | ofNat n =>
      have d := TL.numL_digits n
      have ne := TL.numL_ne n
      have e : TL.tl (PyData.int (Int.ofNat n)).shown = TL.numL n := by rw [PyData.shown]; exact TL.tl_num n
      rw [e]
      cases q : TL.numL n with
      | nil => exact (ne q).elim
      | cons c r =>
        have := d c (by rw [q]; simp)
        exact ⟨c, r, rfl, .inr (.inl ⟨n, rfl, this⟩)⟩
    | negSucc m =>
      refine ⟨45, (Nat.repr (m + 1)).toList.map Char.toNat, ?_, .inr (.inr (by unfold allow; omega))⟩
      rw [PyData.shown]
      show TL.tl (Str.ofString ("-" ++ Nat.repr (m + 1))) = _
      rw [TL.tl_ofString, String.toList_append, List.map_append]
      rfl
  | str x =>
    obtain ⟨r, e⟩ := quoteHead x
    refine ⟨_, r, by rw [PyData.shown]; exact e, .inr (.inr ?_)⟩
    rcases quoteIs x with h | h <;> rw [h] <;> (unfold allow; omega)
  | list ds =>
    obtain ⟨r, e⟩ := tl_listText (PyData.shownAll ds)
    exact ⟨91, r, by rw [PyData.shown]; exact e, .inr (.inr (by unfold allow; omega))⟩
  | tuple ds => exact ⟨40, _, by rw [PyData.shown]; exact tl_tupleText _, .inl ⟨ds, rfl⟩⟩
  | dict kvs =>
    obtain ⟨r, e⟩ := tl_dictText (PyData.shownKv kvs)
    exact ⟨123, r, by rw [PyData.shown]; exact e, .inr (.inr (by unfold allow; omega))⟩
theorem shownAll_map : ∀ ds : List PyData, PyData.shownAll ds = ds.map PyData.shown
  | [] => by rw [PyData.shownAll]; rfl
  | d :: r => by rw [PyData.shownAll, shownAll_map r]; rfl
theorem mem_joinL {S : List Nat} {c : Nat} : ∀ {parts : List (List Nat)}, (∃ p ∈ parts, c ∈ p) → c ∈ TL.joinL S parts
  | [], h => by obtain ⟨p, hp, _⟩ := h; cases hp
  | [p], h => by
    obtain ⟨p', hp, hc⟩ := h
    rw [List.mem_singleton.mp hp] at hc
    exact hc
  | p :: q :: r, h => by
    obtain ⟨p', hp, hc⟩ := h
    show c ∈ p ++ (S ++ TL.joinL S (q :: r))
    rcases List.mem_cons.mp hp with rfl | hp
    · exact List.mem_append_left _ hc
    · exact List.mem_append_right _ (List.mem_append_right _ (mem_joinL ⟨p', hp, hc⟩))
theorem joinL_mem {S : List Nat} {c : Nat} : ∀ {parts : List (List Nat)}, c ∈ TL.joinL S parts → (∃ p ∈ parts, c ∈ p) ∨ c ∈ S
  | [], h => by cases h
  | [p], h => .inl ⟨p, by simp, h⟩
  | p :: q :: r, h => by
    have h' : c ∈ p ++ (S ++ TL.joinL S (q :: r)) := h
    rcases List.mem_append.mp h' with h | h
    · exact .inl ⟨p, by simp, h⟩
    · rcases List.mem_append.mp h with h | h
      · exact .inr h
      · rcases joinL_mem h with ⟨p', hp, hc⟩ | h
        · exact .inl ⟨p', List.mem_cons_of_mem _ hp, hc⟩
        · exact .inr h
/-- between the brackets -/
def inner (s : List Nat) : List Nat := TL.joinL [44, 32] (s.map TL.numL) ++ (if s.length = 1 then [44] else [])
theorem tl_spot (s : List Nat) : TL.tl (spD s).shown = 40 :: (inner s ++ [41]) := by
  rw [spD, PyData.shown, tl_tupleText, shownAll_map, List.map_map, List.map_map, List.length_map, List.length_map]
  unfold inner
  have e : (s.map ((TL.tl ∘ PyData.shown) ∘ fun i => PyData.int ((i : Nat) : Int))) = s.map TL.numL := by
    apply List.map_congr_left
    intro n _
    show TL.tl (PyData.int ((n : Nat) : Int)).shown = _
    rw [PyData.shown]; exact TL.tl_num n
  rw [e, List.append_assoc]
  by_cases h : s.length = 1
  · rw [if_pos h, if_pos h]; rfl
  · rw [if_neg h, if_neg h]; rfl
theorem numAllow {s : List Nat} {c : Nat} (h : c ∈ inner s) : allow c := by
  unfold inner at h
  rcases List.mem_append.mp h with h | h
  · rcases joinL_mem h with ⟨p, hp, hc⟩ | h
    · obtain ⟨n, _, rfl⟩ := List.mem_map.mp hp
      exact .inr (.inr (TL.numL_digits n c hc))
    · simp at h
      rcases h with rfl | rfl
      · exact .inr (.inl rfl)
      · exact .inl rfl
  · split at h
    · rw [List.mem_singleton.mp h]; exact .inr (.inl rfl)
    · cases h
theorem map_numL_inj : ∀ {s s' : List Nat}, s.map TL.numL = s'.map TL.numL → s = s'
  | [], [], _ => rfl
  | [], _ :: _, h => by cases h
  | _ :: _, [], h => by cases h
  | a :: r, b :: r', h => by
    rw [List.map_cons, List.map_cons, List.cons.injEq] at h
    rw [TL.numL_inj h.1, map_numL_inj h.2]
theorem no32 (n : Nat) : 32 ∉ inner [n] := by
  intro h
  rcases List.mem_append.mp h with h | h
  · exact TL.numL_free (.inl (by decide)) h
  · rw [if_pos (by rfl)] at h; simp at h
theorem has32 (a b : Nat) (r : List Nat) : 32 ∈ inner (a :: b :: r) :=
  List.mem_append_left _ (List.mem_append_right _ (List.mem_append_left _ (by simp)))
theorem innerNe (a : Nat) (r : List Nat) : inner (a :: r) ≠ [] := by
  intro h
  have ne := TL.numL_ne a
  cases q : TL.numL a with
  | nil => exact ne q
  | cons c t =>
    have : c ∈ inner (a :: r) := List.mem_append_left _ (mem_joinL ⟨TL.numL a, by simp, by rw [q]; simp⟩)
    rw [h] at this; cases this
theorem inner_inj : ∀ {s s' : List Nat}, inner s = inner s' → s = s'
  | [], [], _ => rfl
  | [], a :: r, h => (innerNe a r (h.symm.trans rfl)).elim
  | a :: r, [], h => (innerNe a r (h.trans rfl)).elim
  | [n], [m], h => by
    have h' : TL.numL n ++ [44] = TL.numL m ++ [44] := h
    rw [TL.numL_inj (List.append_cancel_right h')]
  | [n], a :: b :: r, h => (no32 n (h ▸ has32 a b r)).elim
  | a :: b :: r, [n], h => (no32 n (h ▸ has32 a b r)).elim
  | a :: b :: r, c :: d :: t, h => by
    have two : ∀ (a b : Nat) (r : List Nat), inner (a :: b :: r) = TL.joinL [44, 32] ((a :: b :: r).map TL.numL) := fun a b r => by
      unfold inner
      rw [if_neg (by simp), List.append_nil]
    rw [two, two] at h
    have free : ∀ s : List Nat, ∀ p ∈ s.map TL.numL, 44 ∉ p := fun s p hp => by
      obtain ⟨n, _, rfl⟩ := List.mem_map.mp hp
      exact TL.numL_free (.inl (by decide))
    have e1 := TL.spl_join (S := [32]) (parts := (a :: b :: r).map TL.numL) (by simp) (free _)
    have e2 := TL.spl_join (S := [32]) (parts := (c :: d :: t).map TL.numL) (by simp) (free _)
    rw [h, e2] at e1
    exact (map_numL_inj e1).symm
theorem allNums : ∀ ds : List PyData, (∀ e ∈ ds, ∃ n : Nat, e = .int (n : Int)) → ∃ s : List Nat, ds = s.map fun i => PyData.int ((i : Nat) : Int)
  | [], _ => ⟨[], rfl⟩
  | d :: r, h => by
    obtain ⟨n, rfl⟩ := h d (by simp)
    obtain ⟨s, rfl⟩ := allNums r fun e he => h e (by simp [he])
    exact ⟨n :: s, rfl⟩
theorem spot_inj {s : List Nat} {d : PyData} (h : (spD s).shown = d.shown) : d = spD s := by
  have t := congrArg TL.tl h
  rw [tl_spot] at t
  obtain ⟨c, r, e, k⟩ := shown_head d
  rw [e, List.cons.injEq] at t
  obtain ⟨rfl, t⟩ := t
  rcases k with ⟨ds, rfl⟩ | ⟨n, _, h1, h2⟩ | ⟨h1, _⟩
  · rw [PyData.shown, tl_tupleText, List.cons.injEq] at e
    have e2 := t.trans e.2.symm
    have e3 : inner s = TL.joinL [44, 32] ((PyData.shownAll ds).map TL.tl) ++ (if (PyData.shownAll ds).length = 1 then [44] else []) := by
      refine List.append_cancel_right (bs := [41]) ?_
      rw [e2, List.append_assoc]
      by_cases h : (PyData.shownAll ds).length = 1
      · rw [if_pos h, if_pos h]; rfl
      · rw [if_neg h, if_neg h]; rfl
    have nums : ∀ e ∈ ds, ∃ n : Nat, e = .int (n : Int) := by
      intro x hx
      obtain ⟨c, r, q, k⟩ := shown_head x
      have hc : ∀ c ∈ TL.tl x.shown, allow c := by
        intro c hc
        refine numAllow (s := s) ?_
        rw [e3]
        refine List.mem_append_left _ (mem_joinL ⟨TL.tl x.shown, ?_, hc⟩)
        rw [shownAll_map, List.map_map]
        exact List.mem_map.mpr ⟨x, hx, rfl⟩
      rcases k with ⟨ds', rfl⟩ | ⟨n, hn, _⟩ | ⟨_, h2⟩
      · have := hc 40 (by rw [PyData.shown, tl_tupleText]; simp)
        unfold allow at this; omega
      · exact ⟨n, hn⟩
      · exact (h2 (hc c (by rw [q]; simp))).elim
    obtain ⟨s', rfl⟩ := allNums ds nums
    have e4 : inner s' ++ [41] = inner s ++ [41] := by
      have a := tl_spot s'
      have b := tl_spot s
      rw [h] at b
      exact (List.cons.inj (a.symm.trans b)).2
    rw [inner_inj (List.append_cancel_right e4)]
    rfl
  · omega
  · exact (h1 rfl).elim
end Ah

namespace Ah
open PySem PySem.Spec PyProof.Rows L2
/-! ## places, walked -/
theorem spotsL_mem : ∀ {k : Nat} {ps : List Tr} {q : List Nat × Tr}, q ∈ spotsL k ps ↔ ∃ (j : Nat) (u : Tr) (q' : List Nat × Tr), ps[j]? = some u ∧ q' ∈ u.spots ∧ q = ((k + j) :: q'.1, q'.2)
  | k, [], q => by
    rw [spotsL]
    constructor
    · intro h; cases h
    · rintro ⟨j, u, q', h, _⟩; simp at h
  | k, t :: r, q => by
    rw [spotsL, List.mem_append, spotsL_mem]
    constructor
    · rintro (h | ⟨j, u, q', h1, h2, h3⟩)
      · obtain ⟨q', h', rfl⟩ := List.mem_map.mp h
        exact ⟨0, t, q', rfl, h', rfl⟩
      · exact ⟨j + 1, u, q', h1, h2, by rw [h3, show k + 1 + j = k + (j + 1) by omega]⟩
    · rintro ⟨j, u, q', h1, h2, h3⟩
      cases j with
      | zero =>
        cases h1
        exact .inl (List.mem_map.mpr ⟨q', h2, by rw [h3]; rfl⟩)
      | succ j => exact .inr ⟨j, u, q', h1, h2, by rw [h3, show k + 1 + j = k + (j + 1) by omega]⟩
def numD (s : List Nat) : List PyData := s.map fun i => .int ((i : Nat) : Int)
theorem walk_nil (t : Tr) : walk t [] = some t := by cases t <;> rfl
theorem walk_of_spot : ∀ (s : List Nat) {t u : Tr}, (s, u) ∈ t.spots → walk t (numD s) = some u
  | [], .h z, u, h => by
    rw [Tr.spots] at h
    cases List.mem_singleton.mp h
    rfl
  | [], .n f ps, u, h => by
    rw [Tr.spots] at h
    rcases List.mem_cons.mp h with e | h
    · cases e; rfl
    · obtain ⟨j, v, q', h1, h2, h3⟩ := spotsL_mem.mp h
      cases h3
  | i :: r, .h z, u, h => by
    rw [Tr.spots] at h
    cases List.mem_singleton.mp h
  | i :: r, .n f ps, u, h => by
    rw [Tr.spots] at h
    rcases List.mem_cons.mp h with e | h
    · cases e
    · obtain ⟨j, v, q', h1, h2, h3⟩ := spotsL_mem.mp h
      obtain ⟨q1, q2⟩ := q'
      cases h3
      show (if 0 ≤ (((0 + j : Nat)) : Int) then match ps[(((0 + j : Nat)) : Int).toNat]? with | some u => walk u (numD q1) | none => none else none) = _
      rw [if_pos (Int.natCast_nonneg _), Int.toNat_natCast, Nat.zero_add, h1]
      exact walk_of_spot q1 h2
theorem spot_self (t : Tr) : ([], t) ∈ t.spots := by
  cases t <;> rw [Tr.spots] <;> exact List.mem_cons_self ..
theorem spot_of_walk : ∀ (ds : List PyData) {t u : Tr}, walk t ds = some u → ∃ s, ds = numD s ∧ (s, u) ∈ t.spots
  | [], t, u, h => by
    rw [walk_nil] at h
    cases h
    exact ⟨[], rfl, spot_self t⟩
  | d :: r, t, u, h => by
    cases t with
    | h z => cases d <;> cases h
    | n f ps =>
      cases d with
      | int i =>
        have h' : (if 0 ≤ i then match ps[i.toNat]? with | some u => walk u r | none => none else none) = some u := h
        by_cases i0 : 0 ≤ i
        · rw [if_pos i0] at h'
          cases e : ps[i.toNat]? with
          | none => rw [e] at h'; cases h'
          | some v =>
            rw [e] at h'
            obtain ⟨s, hs, hm⟩ := spot_of_walk r h'
            refine ⟨i.toNat :: s, ?_, ?_⟩
            · rw [hs]
              show PyData.int i :: numD s = PyData.int ((i.toNat : Nat) : Int) :: numD s
              rw [Int.toNat_of_nonneg i0]
            · rw [Tr.spots]
              refine List.mem_cons_of_mem _ (spotsL_mem.mpr ⟨i.toNat, v, (s, u), e, hm, by rw [Nat.zero_add]⟩)
        · rw [if_neg i0] at h'; cases h'
      | none => cases h
      | bool b => cases h
      | str x => cases h
      | list x => cases h
      | tuple x => cases h
      | dict x => cases h
theorem spots_lt : ∀ (s : List Nat) {t u : Tr}, (s, u) ∈ t.spots → (∀ i ∈ s, i < t.size) ∧ u.size ≤ t.size ∧ u.deep ≤ t.deep
  | [], t, u, h => by
    have e := walk_of_spot [] h
    rw [show numD [] = [] from rfl, walk_nil] at e
    cases e
    exact ⟨by simp, Nat.le_refl _, Nat.le_refl _⟩
  | i :: r, .h z, u, h => by
    rw [Tr.spots] at h
    cases List.mem_singleton.mp h
  | i :: r, .n f ps, u, h => by
    rw [Tr.spots] at h
    rcases List.mem_cons.mp h with e | h
    · cases e
    · obtain ⟨j, v, q', h1, h2, h3⟩ := spotsL_mem.mp h
      obtain ⟨q1, q2⟩ := q'
      cases h3
      obtain ⟨a, b, c⟩ := spots_lt q1 h2
      have m := List.mem_of_getElem? h1
      have s1 := size_le m
      have d1 := deep_le m
      have l1 := sizes_ge ps
      have jl := (List.getElem?_eq_some_iff.mp h1).1
      have e1 : (Tr.n f ps).size = sizes ps + 1 := rfl
      have e2 : (Tr.n f ps).deep = deeps ps + 1 := rfl
      refine ⟨fun i hi => ?_, (show q2.size ≤ (Tr.n f ps).size by omega), (show q2.deep ≤ (Tr.n f ps).deep by omega)⟩
      rcases List.mem_cons.mp hi with rfl | hi
      · omega
      · have := a i hi; omega
theorem fiSpot {s : List Nat} (h : ∀ i ∈ s, i < 1000) (l : s.length ≤ 60) : Fi 1 60 (spD s) := by
  have f : Fis 0 ((0 + 1) * (s.map fun i => PyData.int ((i : Nat) : Int)).length) (s.map fun i => PyData.int ((i : Nat) : Int)) := fisAll fun d hd => by
    obtain ⟨i, hi, rfl⟩ := List.mem_map.mp hd
    have := h i hi
    exact Fi.int (by omega) 0
  exact f.tuple.up (by decide) (by rw [List.length_map]; omega)
theorem spot_notDict (s : List Nat) : (spD s).shown ≠ ("{}" : Str) := by
  intro h
  have := congrArg TL.tl h
  rw [tl_spot] at this
  have e : TL.tl ("{}" : Str) = [123, 125] := rfl
  rw [e] at this
  cases this
theorem at_of_shown {t : Tr} {d : PyData} {q : List Nat × Tr} (h : q ∈ t.spots) (e : (spD q.1).shown = d.shown) : atD t d = some q.2 := by
  rw [spot_inj e]
  exact walk_of_spot q.1 h
theorem at_none {t : Tr} {d : PyData} (h : ∀ q ∈ t.spots, (spD q.1).shown ≠ d.shown) : atD t d = none := by
  cases e : atD t d with
  | none => rfl
  | some u =>
    cases d with
    | tuple ds =>
      obtain ⟨s, rfl, hm⟩ := spot_of_walk ds e
      exact (h (s, u) hm rfl).elim
    | none => cases e
    | bool b => cases e
    | int x => cases e
    | str x => cases e
    | list x => cases e
    | dict x => cases e
end Ah

namespace Ah
open PySem PySem.Spec PyProof.Rows L2
/-! ## two keywords, the other way about -/
def swp {α : Type} : List α → List α
  | [a, b] => [b, a]
  | l => l
theorem relSwp : ∀ (zs : List V) (ws : List Value), Vals zs ws → Vals (swp zs) (swp ws)
  | [], _, h => by cases h; exact .nil
  | [_], _, h => by
    cases h with
    | cons a b => cases b; exact .cons a .nil
  | [_, _], _, h => by
    cases h with
    | cons a b =>
      cases b with
      | cons c d => cases d; exact .cons c (.cons a .nil)
  | _ :: _ :: _ :: _, _, h => by
    cases h with
    | cons a b =>
      cases b with
      | cons c d =>
        cases d with
        | cons e f => exact .cons a (.cons c (.cons e f))
theorem spots_ok {zs : List Str} : ∀ (s : List Nat) {t u : Tr}, (s, u) ∈ t.spots → t.ok zs → u.ok zs
  | [], t, u, h, ok => by
    have e := walk_of_spot [] h
    rw [show numD [] = [] from rfl, walk_nil] at e
    cases e
    exact ok
  | i :: r, .h z, u, h, ok => by
    rw [Tr.spots] at h
    cases List.mem_singleton.mp h
  | i :: r, .n f ps, u, h, ok => by
    rw [Tr.spots] at h
    rcases List.mem_cons.mp h with e | h
    · cases e
    · obtain ⟨j, v, q', h1, h2, h3⟩ := spotsL_mem.mp h
      obtain ⟨q1, q2⟩ := q'
      cases h3
      exact spots_ok q1 h2 (oks_mem ok.2.2 v (List.mem_of_getElem? h1))
/-! ## things: data apart from ms, or an empty dict apart from it -/
section
variable {K : PySem.W.Frag} {ms ns : List Addr} {H H' : Hp}
mutual
theorem Dx.more {L : Addr} (hL : H L = none) : ∀ (d : PyData) {v : V}, Dx K ms H v d → Dx K (L :: ms) H v d
  | .none, _, h => by cases h; exact .non
  | .bool b, _, h => by cases h; exact .bl b
  | .int i, _, h => by cases h; exact .int i
  | .str x, _, h => by cases h; exact .str x
  | .list ds, _, h => by
    cases h with
    | lst a b c => exact .lst (fun z => by
        rcases List.mem_cons.mp z with rfl | z
        · rw [hL] at b; cases b
        · exact a z) b (Dxs.more hL ds c)
  | .tuple ds, _, h => by
    cases h with
    | tup b c => exact .tup b (Dxs.more hL ds c)
  | .dict _, _, h => by cases h
theorem Dxs.more {L : Addr} (hL : H L = none) : ∀ (ds : List PyData) {vs : List V}, Dxs K ms H vs ds → Dxs K (L :: ms) H vs ds
  | [], _, h => by cases h; exact .nil
  | d :: ds, _, h => by
    cases h with
    | cons a b => exact .cons (Dx.more hL d a) (Dxs.more hL ds b)
end
def Th2 (K : PySem.W.Frag) (ms : List Addr) (H : Hp) (x : V) : Prop := (∃ d, Dx K ms H x d ∧ Fi 4 2000 d) ∨ ∃ p, x = .ref p ∧ p ∉ ms ∧ H p = some (.dK [])
theorem Th2.kp {x : V} (h : Th2 K ms H x) (k : Kp ns H H') (sub : ∀ b ∈ ns, b ∈ ms) (n : ∀ m ∈ ns, Loose H m) : Th2 K ms H' x := by
  rcases h with ⟨d, h, f⟩ | ⟨p, e, hp, q⟩
  · exact .inl ⟨d, h.kp k sub n, f⟩
  · exact .inr ⟨p, e, hp, k p _ (fun z => hp (sub _ z)) q⟩
theorem Th2.new {x : V} (h : Th2 K ms H x) (k : Kp [] H H') : Th2 K ms H' x := h.kp k (fun _ z => by cases z) (fun _ z => by cases z)
theorem Th2.more {x : V} {L : Addr} (h : Th2 K ms H x) (hL : H L = none) : Th2 K (L :: ms) H x := by
  rcases h with ⟨d, h, f⟩ | ⟨p, e, hp, q⟩
  · exact .inl ⟨d, h.more hL, f⟩
  · exact .inr ⟨p, e, fun z => by
      rcases List.mem_cons.mp z with rfl | z
      · rw [hL] at q; cases q
      · exact hp z, q⟩
end
end Ah

namespace Ah
open PySem PySem.Spec PyProof.Rows L2
/-! ## the law's call where code objects have tables: cs, each code object with its table, none filled yet -/
/-- at h: the tables are there, empty, and no part of K -/
structure Fresh (K : PySem.W.Frag) (h : Heap) (cs : List (Addr × Addr)) : Prop where
  here : ∀ p ∈ cs, h.get? p.2 = some { cls := .none, data := .fields #[] }
  out : ∀ p ∈ cs, K.lookup p.2 = none
  hd : ∀ p ∈ cs, PySem.W.CodeHd h p.1 p.2
/-- over base: the same code objects' heads, for the rules -/
structure Heads (base : Heap) (mg : Str → Option Value) (cs : List (Addr × Addr)) : Prop where
  gx : ∀ p ∈ cs, GxR.TabB base mg p.1 p.2
  lx : ∀ p ∈ cs, LamX.TabB base mg p.1 p.2
/-- what is tracked at the start: the tables, and perhaps the script -/
structure Start (H : Hp) (cs : List (Addr × Addr)) : Prop where
  tabs : ∀ p ∈ cs, H p.2 = some (.tbl #[])
  else_ : ∀ b, H b = none ∨ (∃ p ∈ cs, p.2 = b) ∨ ∃ o xs, H b = some (.frz o (.lst xs))
section
variable {P : Program} {w : World} {K : PySem.W.Frag} {mg mb : Str → Option Value} {k : Nat} {fa a : Addr} {cs : List (Addr × Addr)} {fd : FuncData} {x : Str} {sp : Sp} {s₁ : Shared} {vs : List Value} {ns : List Int}
theorem lawCallT (KX : K.In s₁.heap) (hns : s₁.heap.Ns mainGlobals mg) (hb : s₁.heap.Ns builtinsNs mb) (hbb : ∀ x : Str, x ≠ "__name__" → mb x = bootBuiltins x)
    (hlim : s₁.heap.NoLimit) (hg : s₁.gens = #[]) (fr : Fresh K s₁.heap cs)
    (hbm : ∃ (bm : Addr) (ob : Obj), mg "__builtins__" = some (.ref bm) ∧ bm ≠ builtinsNs ∧ s₁.heap.get? bm = some ob ∧ ob.cls = .type "module" ∧ ob.dict = some builtinsNs ∧ ob.data = .plain)
    (ha : s₁.heap.get? a = some { cls := .type "list", data := .seq vs.toArray })
    (hi : IntsAre vs ns) (hl : ns.length ≤ sizeLine) (hr : Room k callerA)
    (F : ∀ base : Heap, K.In base → base.Ns mainGlobals mg → Heads base mg cs → FnG P w K mg base CX0 k fa fd [x] sp)
    (hbind : ∀ (s : Shared) (u : Value), BindsTo s fd ⟨[u], []⟩ [(x, u)])
    (hsp : ∀ H : Hp, Start H cs → SqL K H a (ns.map V.int) → sp [.ref a] H (fun v _ => v = .bl true) E0) :
    codeAny (model P w) callerA (.call (.ref fa) ⟨[.ref a], []⟩)
      (fun r s' => r = .ok (.ret (.bool true)) ∧ OldK s₁.heap s'.heap ∧ s'.os = s₁.os ∧ AllBare s'.gens) s₁ := by
  have aNot : ∀ p ∈ cs, p.2 ≠ a := by
    intro p hp e
    have q := fr.here p hp
    rw [e, ha] at q
    have d := congrArg Obj.data (Option.some.inj q)
    cases d
  suffices core : ∀ H : Hp, Start H cs → SqL K H a (ns.map V.int) → HOk P w H s₁.heap → (∀ b, H b ≠ none → b = a ∨ ∃ p ∈ cs, p.2 = b) → (H a ≠ none → K.lookup a = none) →
      codeAny (model P w) callerA (.call (.ref fa) ⟨[.ref a], []⟩)
        (fun r s' => r = .ok (.ret (.bool true)) ∧ OldK s₁.heap s'.heap ∧ s'.os = s₁.os ∧ AllBare s'.gens) s₁ by
    -- the tables tracked, over any choice of the script's own thing
    let T : Option HO → Hp := fun it b => if b = a then it else if b ∈ cs.map (·.2) then some (.tbl #[]) else none
    have tab : ∀ it, ∀ p ∈ cs, T it p.2 = some (.tbl #[]) := fun it p hp => (if_neg (aNot p hp)).trans (if_pos (List.mem_map.mpr ⟨p, hp, rfl⟩))
    have atA : ∀ it, T it a = it := fun it => if_pos rfl
    have split : ∀ it b u, T it b = some u → (b = a ∧ it = some u) ∨ ((∃ p ∈ cs, p.2 = b) ∧ u = .tbl #[]) := by
      intro it b u z
      by_cases e : b = a
      · subst e; exact .inl ⟨rfl, (atA it).symm.trans z⟩
      · have z1 : (if b ∈ cs.map (·.2) then some (HO.tbl #[]) else none) = some u := (if_neg e).symm.trans z
        by_cases m : b ∈ cs.map (·.2)
        · rw [if_pos m] at z1
          obtain ⟨p, hp, e2⟩ := List.mem_map.mp m
          exact .inr ⟨⟨p, hp, e2⟩, (Option.some.inj z1).symm⟩
        · rw [if_neg m] at z1; cases z1
    have okT : ∀ b, (∃ p ∈ cs, p.2 = b) → ObjOk P w (T none) s₁.heap b (.tbl #[]) := fun b ⟨p, hp, e⟩ => by rw [← e]; exact fr.here p hp
    cases hk : K.lookup a with
    | some o =>
      have e := KX a o hk
      have eo : o = { cls := .type "list", data := .seq vs.toArray } := Option.some.inj (e.symm.trans ha)
      subst eo
      refine core (T none) ⟨tab none, fun b => ?_⟩ (.inr ⟨_, vs.toArray, _, hk, rfl, rfl, rfl, ?_, ?_⟩) (fun b u z => ?_) (fun b z => ?_) (fun z => (z (atA none)).elim)
      · cases q : T none b with
        | none => exact .inl rfl
        | some u =>
          rcases split _ _ _ q with ⟨_, h⟩ | ⟨h, _⟩
          · cases h
          · exact .inr (.inl h)
      · rw [List.size_toArray, hi.length]; exact hl
      · simpa using vals_ints hi
      · rcases split _ _ _ z with ⟨_, h⟩ | ⟨h, rfl⟩
        · cases h
        · exact okT b h
      · cases q : T none b with
        | none => exact (z q).elim
        | some u =>
          rcases split _ _ _ q with ⟨h, _⟩ | ⟨h, _⟩
          · exact .inl h
          · exact .inr h
    | none =>
      let it : HO := .frz { cls := .type "list", data := .seq vs.toArray } (.lst (ns.map V.int))
      refine core (T (some it)) ⟨tab _, fun b => ?_⟩ (.inl (.inr ⟨_, atA _⟩)) (fun b u z => ?_) (fun b z => ?_) (fun _ => hk)
      · cases q : T (some it) b with
        | none => exact .inl rfl
        | some u =>
          rcases split _ _ _ q with ⟨_, h⟩ | ⟨h, _⟩
          · exact .inr (.inr ⟨_, _, by rw [← Option.some.inj h]⟩)
          · exact .inr (.inl h)
      · rcases split _ _ _ z with ⟨rfl, h⟩ | ⟨h, rfl⟩
        · obtain rfl := Option.some.inj h
          exact ⟨ha, by rw [List.length_map]; exact hl, vs, _, vals_ints hi, ha⟩
        · exact okT b h
      · cases q : T (some it) b with
        | none => exact (z q).elim
        | some u =>
          rcases split _ _ _ q with ⟨h, _⟩ | ⟨h, _⟩
          · exact .inl h
          · exact .inr h
  intro H st hS hok hA hK
  have bring : ∀ {b : Addr} {o : Obj}, s₁.heap.get? b = some o → H b = none → (hidT s₁.heap H).get? b = some o := hidT_get
  -- what is neither a list nor an empty table isn't tracked
  have apart : ∀ {b : Addr} {o : Obj}, s₁.heap.get? b = some o → o ≠ { cls := .type "list", data := .seq vs.toArray } → o ≠ { cls := .none, data := .fields #[] } → H b = none := by
    intro b o e n1 n2
    cases q : H b with
    | none => rfl
    | some u =>
      rcases hA b (by rw [q]; exact Option.some_ne_none u) with rfl | ⟨p, hp, rfl⟩
      · exact (n1 (Option.some.inj (e.symm.trans ha))).elim
      · exact (n2 (Option.some.inj (e.symm.trans (fr.here p hp)))).elim
  have ns' : ∀ {b : Addr} {m : Str → Option Value}, s₁.heap.Ns b m → (hidT s₁.heap H).Ns b m := by
    rintro b m ⟨o, es, ep, e, d, r⟩
    exact ⟨o, es, ep, bring e (apart e (fun z => by rw [z] at d; cases d) (fun z => by rw [z] at d; cases d)), d, r⟩
  have hKb : K.In (hidT s₁.heap H) := by
    intro b o e
    refine bring (KX b o e) ?_
    cases q : H b with
    | none => rfl
    | some u =>
      rcases hA b (by rw [q]; exact Option.some_ne_none u) with rfl | ⟨p, hp, rfl⟩
      · rw [hK (by rw [q]; exact Option.some_ne_none u)] at e; cases e
      · rw [fr.out p hp] at e; cases e
  obtain ⟨mc, l1, l2⟩ := hlim
  have hM : Mod K mg (hidT s₁.heap H) := ⟨hKb, ns' hns, ⟨mb, ns' hb, hbb⟩, ⟨mc, ns' l1, l2⟩⟩
  have three : ∀ p ∈ cs, PySem.W.CodeHd (hidT s₁.heap H) p.1 p.2 ∧ (hidT s₁.heap H).BuiltinsAt mg p.2 ∧ mainGlobals ≠ p.2 := by
    intro p hp
    have pt := fr.here p hp
    obtain ⟨og, eg, pg, hgo, dg, _⟩ := id hns
    have nG : mainGlobals ≠ p.2 := by
      intro z
      rw [z] at hgo
      rw [Option.some.inj (hgo.symm.trans pt)] at dg
      cases dg
    refine ⟨?_, ?_, nG⟩
    · obtain ⟨o, us, r⟩ := fr.hd p hp
      obtain ⟨f1, f2, f3, f4, f5, f6, f7, g1, g2, g3, g4⟩ := r
      refine ⟨o, us, f1, f2, f3, f4, f5, f6, f7, bring g1 (apart g1 (fun z => ?_) (fun z => ?_)), g2, g3, g4⟩
      · rw [z] at g3; cases g3
      · rw [z] at g2; cases g2
    · obtain ⟨bm, ob, b1, b2, b3, b4, b5, b6⟩ := hbm
      refine ⟨bm, ob, b1, b2, fun z => ?_, fun z => ?_, bring b3 (apart b3 (fun z => ?_) (fun z => ?_)), b4, b5, b6⟩
      · rw [z] at b3
        rw [Option.some.inj (hgo.symm.trans b3)] at dg
        rw [dg] at b6; cases b6
      · rw [z] at b3
        rw [Option.some.inj (b3.symm.trans pt)] at b6
        cases b6
      · rw [z] at b6; cases b6
      · rw [z] at b6; cases b6
  have hds : Heads (hidT s₁.heap H) mg cs := ⟨fun p hp => ⟨(three p hp).1, (three p hp).2.1, (three p hp).2.2⟩, fun p hp => ⟨(three p hp).1, (three p hp).2.1, (three p hp).2.2⟩⟩
  have nofr : ∀ b, b ∉ frs ([] : List Env) := fun b h => by cases h
  have e0 : Env0 P w K mg (hidT s₁.heap H) callerA [] s₁ H :=
    ⟨rfl, hM, fun b o e => of_hidT e, Nat.le_of_eq (hidT_size _ _), trivial, fun b hb => (nofr b hb).elim, hok, .of_eq hg⟩
  have run := (F _ hKb (ns' hns) hds).runs callerA [] s₁ H ⟨[.ref a], []⟩ [.ref a] [.ref a] _ _ rfl hr e0 (hbind s₁ (.ref a)) (.cons rfl .nil) (hsp H st hS)
  refine codeAny_mono run fun r s' h => ?_
  match r, h with
  | .error e, h => exact False.elim h
  | .ok .next, h => exact False.elim h
  | .ok .brk, h => exact False.elim h
  | .ok .cont, h => exact False.elim h
  | .ok (.ret u), h =>
    obtain ⟨v, H', os, bare, un, hok', rv, q⟩ := h
    have q' : v = .bl true := q
    subst q'
    obtain rfl : u = Value.bool true := rv
    have same : ∀ b o, (¬ ∃ p ∈ cs, p.2 = b) → s₁.heap.get? b = some o → s'.heap.get? b = some o := by
      intro b o nt e
      cases q : H b with
      | none => exact un.keep b o e q (nofr b) (fun z => by cases z)
      | some u =>
        rcases st.else_ b with z | z | ⟨ob, xs, z⟩
        · rw [q] at z; cases z
        · exact (nt z).elim
        · have old := (hok b _ z).1
          have new := (hok' b _ (un.frzs b ob _ z)).1
          obtain rfl := Option.some.inj (e.symm.trans old)
          exact new
    have grown : ∀ p ∈ cs, ∃ more : Array Value, s'.heap.get? p.2 = some { cls := .none, data := .fields more } := by
      intro p hp
      obtain ⟨more, z⟩ := un.tbls p.2 #[] (st.tabs p hp)
      exact ⟨_, hok' p.2 _ z⟩
    refine ⟨rfl, ⟨fun b o e => ?_, fun b o e => ?_⟩, os, bare⟩
    · by_cases t : ∃ p ∈ cs, p.2 = b
      · obtain ⟨p, hp, rfl⟩ := t
        obtain ⟨more, hm⟩ := grown p hp
        obtain rfl := Option.some.inj (e.symm.trans (fr.here p hp))
        exact .inr (.inl ⟨((fr.hd p hp).tab (fr.here p hp)).isCodeTable, rfl, #[], more, rfl, by rw [Array.empty_append]; exact hm⟩)
      · exact .inl (same b o t e)
    · by_cases t : ∃ p ∈ cs, p.2 = b
      · obtain ⟨p, hp, rfl⟩ := t
        obtain ⟨more, hm⟩ := grown p hp
        exact ⟨_, hm⟩
      · exact ⟨o, same b o t e⟩
end
/-- the law row from the head's facts: some K with fresh tables, and the def's promise over it -/
theorem walkT {l : PySem.W.OpenLaw} {n k : Nat} {q : Program} {loose : List Str} {XP : (Str → Option Value) → Heap → Prop} {YP : World → Heap → Prop} {d : DefRec} {x : Str}
    (hn : l.most = some n) (hn2 : n ≤ sizeLine) (hdf : d.params.defaults = []) (hr : Room k callerA)
    (F : ∀ (w : World) (mg : Str → Option Value) (fa : Addr) (h : Heap), YP w h → h.Ns mainGlobals mg → mg d.name = some (.ref fa) →
      ∃ (K : PySem.W.Frag) (fd : FuncData) (cs : List (Addr × Addr)) (sp : Sp), K.In h ∧ Fresh K h cs ∧ (∀ (s : Shared) (u : Value), BindsTo s fd ⟨[u], []⟩ [(x, u)]) ∧
        (∀ (H : Hp) (a : Addr) (ns : List Int), ns.length ≤ n → Start H cs → SqL K H a (ns.map V.int) → sp [.ref a] H (fun v _ => v = .bl true) E0) ∧
        ∀ base : Heap, K.In base → base.Ns mainGlobals mg → Heads base mg cs → FnG l.prog w K mg base CX0 k fa fd [x] sp) :
    PySem.W.WalkO q loose XP YP l.row.toRowW d [] (fun f vs => PySem.call f vs) := by
  apply Att.attach_call hn hdf
  intro w s₀ s₁ mg mb fa o pm cd doc a vs ns G Y ho hd hcd hmg hobj hints hlen hg
  obtain ⟨K, fd, cs, sp, KX, fr, hb, hsp, hF⟩ := F w mg fa _ Y G.T.g hmg
  exact lawCallT KX G.T.g G.T.b G.T.builtins G.T.nolimit hg fr G.T.bmain hobj hints (Nat.le_trans hlen hn2) hr hF hb (fun H st hS => hsp H a ns hlen st hS)
end Ah

namespace Ah
open PySem PySem.Spec PyProof.Rows L2
/-! ## the end by the head's facts -/
/-- a def of the text, as a datum -/
def dd (x : Str) (st : Stmt) : He.DefD := ⟨(x, none), x, x, defArgs st, defBody st, defScope st, [], []⟩
section
variable {fa : List He.Fa} {fn : List He.DefD} {tf : List He.Defn} {ex : PySem.W.Frag → Bool} {w : World} {h : Heap} {K : PySem.W.Frag} {mg : Str → Option Value}
theorem saidD (c : He.SaysX fa fn [] tf ex w h K) : He.SaysD fa fn K := congrArg (fun z : He.AlT => z.1) (show He.obsT fa fn [] K = He.valT fn [] w from c.t)
theorem atX (X : K.In h) (G : h.Ns mainGlobals mg) (c : He.SaysX fa fn [] tf ex w h K) {x : Str} {st : Stmt} (i : Nat) (j : Nat) (hi : fn[i]? = some (dd x st) := by rfl) (hj : fa[j]? = some (.glo x) := by rfl) : At K mg x st := by
  obtain ⟨fd, F⟩ := (saidD c).def_ i hi
  have g := He.glo_ok X G ((saidD c).fact j hj)
  refine ⟨He.ga K x, fd, ?_, g⟩
  obtain ⟨oc, od, dV, kV, doc, pm, an, cdv, ct, osl, e, lk, hcd, hD, _⟩ := F.ex
  have e0 : dV = .none := by
    rcases hD with ⟨_, z⟩ | ⟨z, _⟩
    · exact z
    · exact (z rfl).elim
  subst e0
  exact ⟨⟨oc, od, kV, doc, pm, an, cdv, ct, osl, e, lk, hcd⟩, F.kp⟩
theorem noX (X : K.In h) (G : h.Ns mainGlobals mg) (c : He.SaysX fa fn [] tf ex w h K) {x : Str} (j : Nat) (hj : fa[j]? = some (.free x) := by rfl) : mg x = none := He.free_ok X G ((saidD c).fact j hj)
theorem strX (X : K.In h) (G : h.Ns mainGlobals mg) (c : He.SaysX fa fn [] tf ex w h K) {x z : Str} (j : Nat) (hj : fa[j]? = some (.str x z) := by rfl) : ∃ u, mg x = some u ∧ RelV (.str z) u := by
  obtain ⟨t, e⟩ := He.str_ok X G ((saidD c).fact j hj)
  exact ⟨_, e, t, rfl⟩
theorem intX (X : K.In h) (G : h.Ns mainGlobals mg) (c : He.SaysX fa fn [] tf ex w h K) {x : Str} {i : Int} (j : Nat) (hj : fa[j]? = some (.int x i) := by rfl) : ∃ u, mg x = some u ∧ RelV (.int i) u := by
  obtain ⟨t, e⟩ := He.int_ok X G ((saidD c).fact j hj)
  exact ⟨_, e, t, rfl⟩
/-- the defs' code objects with their tables -/
def tabs (K : PySem.W.Frag) (tf : List He.Defn) : List (Addr × Addr) := tf.map (He.cT K)
theorem freshX (X : K.In h) (c : He.SaysX fa fn [] tf ex w h K) : Fresh K h (tabs K tf) := by
  refine ⟨fun p hp => ?_, fun p hp => ?_, fun p hp => ?_⟩ <;> obtain ⟨q, hq, rfl⟩ := List.mem_map.mp hp
  · exact c.empty q hq
  · exact c.out q hq
  · exact PySem.W.codeHd_of_K X (c.hd q hq)
end
end Ah
namespace Ah
open PySem PySem.Spec PyProof.Rows L2
/-! ## a def whose code object is known: for rules that look at its table -/
/-- as At, and its code object is c -/
def AtC (K : PySem.W.Frag) (mg : Str → Option Value) (x : Str) (st : Stmt) (c : Addr) : Prop :=
  ∃ (f : Addr) (oc : Value) (od : Option Addr) (kV doc pm : Value) (an : Option Addr) (ct : Value) (osl : Array (Option Value)),
    K.lookup f = some ⟨oc, od, .func (PySem.W.fnOf x x (defArgs st) (defBody st) (defScope st) .none kV doc pm an (.ref c) ct), osl⟩ ∧ PySem.W.codeIn K (.ref c) x = true ∧ PySem.W.keepIn K (.ref f) = true ∧ mg x = some (.ref f)
section
variable {P : Program} {w : World} {K : PySem.W.Frag} {mg : Str → Option Value} {base h : Heap} {x : Str} {st : Stmt} {N ps : List Str} {k : Nat} {sp : Sp} {c : Addr}
theorem AtC.at_ (T : AtC K mg x st c) : At K mg x st := by
  obtain ⟨f, oc, od, kV, doc, pm, an, ct, osl, lk, hc, kp, m⟩ := T
  exact ⟨f, _, fun_mk lk hc kp, m⟩
theorem AtC.has (T : AtC K mg x st c) (S : FnScope N ps (defScope st)) (b : Posi x st ps) (len : ∀ vs H Q E, sp vs H Q E → vs.length = ps.length)
    (body : ∀ (f : Addr) (A : Around) (outer : List Env) (s : Shared) (H : Hp) (vs : List V) (Q : VK) (E : XK), Room k (A.deeper (envOfC x (defScope st) s.heap.objs.size f (.ref c))) → sp vs H Q E →
      ∃ t, PSs (cxOf CX0 P w K mg base N x (defScope st) f (.ref c) A outer s H E).nox (defBody st) t ∧ t { nx := fun _ H' => Q .non H', rt := Q } (start N vs) H) :
    Has P w K mg base (k + 1) x st ps sp := by
  obtain ⟨f, oc, od, kV, doc, pm, an, ct, osl, lk, hc, kp, m⟩ := T
  have F : Fun K x x st f _ := fun_mk lk hc kp
  refine ⟨f, _, F, fn_of lk hc S len fun A outer s H vs Q E hr hsp => ?_, F.binds b, m⟩
  obtain ⟨t, ht, hq⟩ := body f A outer s H vs Q E hr hsp
  exact ⟨t, ht.nox, hq⟩
variable {fa : List He.Fa} {fn : List He.DefD} {tf : List He.Defn} {ex : PySem.W.Frag → Bool}
theorem atC (X : K.In h) (G : h.Ns mainGlobals mg) (c : He.SaysX fa fn [] tf ex w h K) {x : Str} {st : Stmt} (i j : Nat) (hi : fn[i]? = some (dd x st) := by rfl) (hj : fa[j]? = some (.glo x) := by rfl) :
    AtC K mg x st (He.cT K (x, none)).1 := by
  obtain ⟨fd, F⟩ := (saidD c).def_ i hi
  have g := He.glo_ok X G ((saidD c).fact j hj)
  obtain ⟨oc, od, dV, kV, doc, pm, an, cdv, ct, osl, e, lk, hcd, hD, _⟩ := F.ex
  have e0 : dV = .none := by
    rcases hD with ⟨_, z⟩ | ⟨z, _⟩
    · exact z
    · exact (z rfl).elim
  subst e0
  obtain ⟨cc, rfl⟩ := He.codeIn_ref hcd
  have ec : He.codeOf K (x, none) = cc := He.codeOf_eq lk (by rw [e])
  subst e
  refine ⟨He.ga K x, oc, od, kV, doc, pm, an, ct, osl, ?_, ?_, F.kp, g⟩
  · show K.lookup _ = some ⟨oc, od, .func (PySem.W.fnOf x x (defArgs st) (defBody st) (defScope st) .none kV doc pm an (.ref (He.codeOf K (x, none))) ct), osl⟩
    rw [ec]; exact lk
  · show PySem.W.codeIn K (.ref (He.codeOf K (x, none))) x = true
    rw [ec]; exact hcd
end
end Ah

namespace Ah
open PySem PySem.Spec PyProof.Rows L2
open GxR (GenS TabB TabG Tabbed Ready)
/-! ## all(test for x in a text), the test reading the module's names -/
/-- the test of one sign, in any frame of that scope over the module's names -/
def SignTest (X : Cx) (scope : Scope) (x : Str) (elt : Expr) (pb : Nat → Bool) : Prop :=
  ∀ (e : Env) (B : Around) (E : Value → Shared → Prop) (n : Nat) (t : Tok) (s : Shared) (m : Str → Option Value), e.scope = scope → e.globals = mainGlobals →
    s.heap.Ns e.locals m → m x = some (.str ⟨#[n]⟩ t) → s.heap.Ns mainGlobals X.mg →
    wpAny (model X.prog X.w) B (eval elt e) (fun y s' => y = .bool (pb n) ∧ Keeps s s') E s
/-- x in NAME, NAME a text of the module -/
theorem sign_in {X : Cx} {scope : Scope} {x y : Str} {z : Str} {p1 p2 p3 : Pos} (hk : scope.kind = .function) (hl : scope.names.lookup x = some .local) (hy : scope.names.lookup y = some .globalImplicit)
    (c : ∃ u, X.mg y = some u ∧ RelV (.str z) u) (hd : (x == ("__debug__" : Str)) = false := by decide) (hd2 : (y == ("__debug__" : Str)) = false := by decide) :
    SignTest X scope x (.Compare (.Name x p1) [.In] [.Name y p2] p3) (fun n => decide (n ∈ z.cps.toList)) := by
  intro e B E n t s m hs hgl hn hm hg
  subst hs
  obtain ⟨u, hu, t2, rfl⟩ := c
  refine wpAny_Compare1 (wpAny_Name (wpAny_loadName_local hk hl hn hm ?_) hd)
  refine Calls.Name_function_global hk hy (Calls.loadGlobal_global (by rw [hgl]; exact hg) hu ?_) hd2
  refine PyProof.Rows.in_str ⟨?_, GxR.keeps_tok _ _⟩
  exact congrArg Value.bool (PySem.StrLaws.found_one z n)
/-- what the machine asks of the walked thing at ia, the code object cd and the end V', in the state in which the generator is made -/
def AskGen (X : Cx) (x : Str) (elt : Expr) (scope : Scope) (ia : Addr) (cd : Value) (V' : Value → Shared → Prop) : Addr → Shared → Prop := fun bi q =>
  ∃ (jt : Addr) (fp wr : List Addr) (n : Nat) (Pn : Nat → Value → Prop) (Sn : Nat → Heap → Prop) (pass : Nat → Bool) (F : Nat → Value → Prop),
    Value.ref ia = .ref jt ∧
    (∀ B : Around, B.handled = none →
      Walks X.prog X.w B jt fp wr n Pn Sn) ∧
    Sn 0 q.heap ∧ (∀ b ∈ fp, b < q.heap.objs.size) ∧
    q.heap.NoLimit ∧ cStatics ∉ wr ∧
    (∀ hr : Heap, (∀ b o, q.heap.get? b = some o → hr.get? b = some o) →
      QuietGen X.prog X.w
        (genEnv scope (cloFrom X.env.cells scope.names []) q.heap.objs.size cd bi X.env)
        x [] elt (List.range q.heap.objs.size) wr Pn pass F hr) ∧
    (∀ (a : Nat) (h5 : Heap) (tk : Nat) (gs : GenState),
      gs.bare = true → q.heap.objs.size < a →
      h5.objs.size = a + 1 →
      (∀ b o, q.heap.get? b = some o → h5.get? b = some o) →
      WalksS X.prog X.w X.A.in4 a
        (a :: q.heap.objs.size :: List.range q.heap.objs.size) (q.heap.objs.size :: wr)
        (GenOnlyQ q.gens.size) (passing pass n 0).length
        (fun j y => ∃ i, (passing pass n 0)[j]? = some i ∧ F i y)
        (GenAt X.prog X.w X.A.in4 a q.gens.size q.heap.objs.size
          (List.range q.heap.objs.size) wr pass n F) →
      GenAt X.prog X.w X.A.in4 a q.gens.size q.heap.objs.size
        (List.range q.heap.objs.size) wr pass n F 0 { q with gens := q.gens.push gs, toks := tk, heap := h5 } →
      V' (.ref a) { q with gens := q.gens.push gs, toks := tk, heap := h5 })
section
variable {X : Cx} {pins : List (Addr × Obj)} {σ : L2.St} {H : Hp} {s : Shared}
theorem genSigns {c P : Addr} {elt iter : Expr} {x : Str} {px gpos : Pos} {scope : Scope} {pb : Nat → Bool} {te : TE} {k : Nat} {V' : Value → Shared → Prop} {R : Str → Hp → Prop}
    (hr : Room k X.A) (TB : TabB X.base X.mg c P) (hcode : X.env.code = .ref c) (S : GenS X.env scope x) (hi : PE X iter te) (test : SignTest X scope x elt pb)
    (hs : ∀ v, genFold iter X.env v = pure v) (I : Inv X pins σ H s)
    (h : te σ H fun v H1 => ∃ z : Str, v = .str z ∧ TabG H1 P ∧ R z H1)
    (fin : ∀ z H1 g s', R z H1 → Ready X pins σ H1 P z pb g s' → V' (.ref g) s') :
    wpAny (model X.prog X.w) X.A (eval (.GeneratorExp elt [⟨.Name x px, iter, [], 0⟩] scope gpos) X.env) V' X.xe s := by
  have deep := hr.dp
  refine wpAny_GeneratorExp_walksQ hr.hd S.co (closure_ok S.free) S.cell
    S.dot S.loc S.kind (by omega) (thn (hi.run pins s σ H _ I h) ?_) hs
  rintro u s1 ⟨v, H1, I1, r1, z, rfl, ⟨ps, tab, trip⟩, rest⟩
  obtain ⟨tk, rfl⟩ := r1
  refine wpAny_pyIter_str fun it St W at0 => ⟨I1.nolimit.push it, ?_⟩
  have tP : s1.heap.get? P = some { cls := .none, data := .fields ps } := I1.hok P _ tab
  have ltP := Heap.lt_size tP
  have tP2 : (s1.heap.push it).get? P = some { cls := .none, data := .fields ps } := Heap.get?_push_of_some _ tP
  have code : PySem.W.CodeHd (s1.heap.push it) c P := TB.code.keeps fun b o e => Heap.get?_push_of_some it (I1.bk b o e)
  have main1 : s1.heap.Ns mainGlobals X.mg := I1.mod.glob.keeps I1.bk
  obtain ⟨bm, ob, m1, m2, m3, m4, m5, m6, m7, m8⟩ := TB.bm
  obtain ⟨mc, ns0, _⟩ := id I1.nolimit
  have stP : cStatics ≠ P := by
    rintro e
    obtain ⟨o, es, ep, g1, g2, _⟩ := ns0
    rw [e] at g1
    rw [Option.some.inj (g1.symm.trans tP)] at g2
    cases g2
  have stLt : cStatics < s1.heap.objs.size := ns0.lt
  have sz1 : (s1.heap.push it).objs.size = s1.heap.objs.size + 1 := Heap.size_push ..
  -- whatever the table gave: the code cd, a heap hh with the table ps2
  suffices go : ∀ (cd : Value) (hh : Heap) (t2 : Nat) (ps2 : Array Value), Heap.ExtBut P (s1.heap.push it) hh → (s1.heap.push it).objs.size ≤ hh.objs.size →
      hh.get? P = some { cls := .none, data := .fields ps2 } → (∃ more, ps2 = ps ++ more) → TriplesOk ps2.toList →
      wpAny (model X.prog X.w) X.A (builtinsFor X.env.globals X.env.builtins) (AskGen X x elt scope s1.heap.objs.size cd V') X.xe { s1 with heap := hh, toks := t2 } by
    cases hf : codeAmong gpos ps.toList with
    | some cv => exact wpAny_genexprCode_hit hcode (code.code tP2 trip) hf (go cv _ s1.toks ps (Heap.ExtBut.refl _ _) (Nat.le_refl _) tP2 ⟨#[], by simp⟩ trip)
    | none =>
      refine wpAny_genexprCodeX hcode (code.code tP2 trip) (code.tab tP2) hf fun c2 h2 t2 ex le lt isC _ tabs _ => ?_
      obtain ⟨_, _, _, _, _, _, _, _, _, _, _, _, _, _, _, _, _, _, _, tr2, _⟩ := isC
      exact go _ h2 t2 _ ex (Nat.le_trans le (Nat.le_of_lt lt)) tabs.2 ⟨_, rfl⟩ tr2
  intro cd hh t2 ps2 ex le tP3 more trip2
  have kept : ∀ b o, b ≠ P → s1.heap.get? b = some o → hh.get? b = some o := fun b o n e => ex b o n (Heap.get?_push_of_some it e)
  have main2 : hh.Ns mainGlobals X.mg := (main1.push it).extBut ex TB.gP
  have big : s1.heap.objs.size < hh.objs.size := by omega
  have glob : X.env.globals = mainGlobals := I1.ok.glob
  refine wpAny_builtinsFor (m := X.mg)
    (show hh.Ns X.env.globals X.mg from by rw [glob]; exact main2) m1 m2 (kept _ _ m4 (I1.bk _ _ m5)) m6 m7 m8 ?_
  have one : ∀ {b : Addr}, b ∈ [s1.heap.objs.size] → b = s1.heap.objs.size := fun {b} h => List.mem_singleton.mp h
  refine ⟨s1.heap.objs.size, [s1.heap.objs.size], [s1.heap.objs.size], z.cps.size, SignAt z, St, fun _ => true,
    fun i y => ∃ n, z.cps[i]? = some n ∧ y = .bool (pb n), rfl, W, ?_, ?_, (I1.nolimit.push it).extBut ex stP, ?_, ?_, ?_⟩
  · refine (W X.A hr.hd).frame _ _ _ at0 fun b hb o e => ex b o (fun q => ?_) e
    rw [one hb] at q
    exact Nat.ne_of_lt ltP q.symm
  · intro b hb
    rw [one hb]
    show s1.heap.objs.size < hh.objs.size
    omega
  · intro q
    exact Nat.ne_of_lt stLt (one q)
  · intro ref keepRef
    refine ⟨fun B E i v q m hB hv hn hm hk => ?_, fun B E i v q m hB hv _ hn hm hk => ?_⟩
    · simp only [List.forIn_nil]
      exact wpAny_pure ⟨rfl, GxR.keeps_refl _⟩
    · obtain ⟨n, t3, hz, rfl⟩ := hv
      obtain ⟨om, em, pm, y1, y2, y3⟩ := main1
      have lm := Heap.lt_size y1
      have there : q.heap.get? mainGlobals = some om := by
        refine hk mainGlobals (List.mem_range.mpr (Nat.lt_trans lm big)) (fun w => ?_) om (keepRef _ _ (kept _ _ TB.gP y1))
        exact Nat.ne_of_lt lm (one w)
      exact wpAny_mono (test _ B E n t3 q m rfl glob hn hm ⟨om, em, pm, there, y2, y3⟩) (fun y s3 w => ⟨⟨n, hz, w.1⟩, w.2⟩) fun _ _ w => w
  · intro g h5 tk5 gs bare gt sz5 k5 W5 start
    simp only [GxR.passing_true, List.length_range] at W5
    refine fin z H1 g _ rest ⟨_, _, _, _, _, W5.in4_1, start, ?_, fun s' mv => ?_⟩
    · rintro j y sj Qj Ej ⟨i, hij, n, hz, rfl⟩ hq
      have hj := (List.getElem?_eq_some_iff.mp hij).2
      rw [List.getElem_range] at hj
      subst hj
      have at_ : z.cps.toList[j]? = some n := by rw [Array.getElem?_toList]; exact hz
      have hq2 : Qj (GxR.trF pb z.cps.toList j) sj := hq
      rw [GxR.trF_some at_] at hq2
      exact wpAny_truthy_bool hq2
    · obtain ⟨add, rfl⟩ := more
      have off : ∀ b o, s1.heap.get? b = some o → b ∉ hh.objs.size :: [s1.heap.objs.size] := by
        intro b o e w
        have lb := Heap.lt_size e
        rcases List.mem_cons.mp w with rfl | w
        · exact Nat.lt_irrefl _ (Nat.lt_trans lb big)
        · rw [one w] at lb; exact Nat.lt_irrefl _ lb
      have J := GxR.inv_tab (more := add) (h' := s'.heap) (g' := s'.gens) (d' := s'.drawn) (t' := s'.toks) I1 tab
        (fun b o n e => mv.heap b o (off b o e) (k5 b o (kept b o n e))) (mv.heap P _ (off P _ tP) (k5 P _ tP3)) (AllBare.movedS (I1.bare.push bare) mv)
      rw [GxR.sh_eta s1 s' mv.os] at J
      exact ⟨_, ⟨⟨_, upd_same, trip2⟩, fun b n => upd_ne n⟩, J⟩
/-- all(test for x in e), e a text -/
theorem pe_allT {c P : Addr} {elt iter : Expr} {x : Str} {px p pos gpos : Pos} {scope : Scope} {pb : Nat → Bool} {te : TE} {k : Nat}
    (hr : Room k X.A) (hg : Gl X "all") (hm : X.mg "all" = none) (hb : bootBuiltins "all" = some (.builtin "all")) (TB : TabB X.base X.mg c P) (hcode : X.env.code = .ref c)
    (S : GenS X.env scope x) (hi : PE X iter te) (test : SignTest X scope x elt pb) (hs : ∀ v, genFold iter X.env v = pure v)
    (he : starEach [.GeneratorExp elt [⟨.Name x px, iter, [], 0⟩] scope gpos] X.env = (false, eval (.GeneratorExp elt [⟨.Name x px, iter, [], 0⟩] scope gpos) X.env) :: starEach [] X.env := by rfl) :
    PE X (.Call (.Name "all" p) [.GeneratorExp elt [⟨.Name x px, iter, [], 0⟩] scope gpos] [] pos) (GxR.tAllS P pb te) := by
  constructor
  intro pins s σ H Q I h
  refine Call_ (ld_blt I hg hm hb (PyProof.Rows.callWith_builtin1 ?_ he (by rfl)))
  rw [he]
  show wpAny _ _ (spliced ((false, eval (.GeneratorExp elt [⟨.Name x px, iter, [], 0⟩] scope gpos) X.env) ::
    backTo pos (starEach [] X.env))) _ _ s
  refine Calls.spliced_cons (genSigns (R := fun z H1 => ∀ H2, Tabbed P H1 H2 → Q (.bl (z.cps.toList.all pb)) H2)
    hr TB hcode S hi test hs I h fun z H1 g s5 hR rdy => ?_)
  obtain ⟨fp, wr, G, F, St, W, start, tr, back⟩ := rdy
  refine Calls.spliced_nil (call_all_walkS (W.self 0 _ _ _ start ⟨g, fp, wr, G, _, F, St, _, rfl, W, start, tr, fun s' mv => ?_⟩))
  obtain ⟨H2, tabbed, J⟩ := back s' mv
  refine ⟨.bl _, H2, J, rfl, ?_⟩
  rw [GxR.all_signs z pb]
  exact hR H2 tabbed
end
end Ah

namespace Ah
open PySem PySem.Spec PyProof.Rows L2
/-- a generator expression's scope that catches nothing -/
theorem genS0 {env : Env} {scope : Scope} {x : Str} (h1 : scope.kind = .function) (h2 : scope.isCoroutine = false) (h3 : scope.names.all (fun y => decide (y.2 ≠ .cell) && decide (y.2 ≠ .free)) = true)
    (h4 : scope.names.lookup (".0" : Str) = some NameKind.local) (h5 : scope.names.lookup x = some .local) : GxR.GenS env scope x := by
  have all := List.all_eq_true.mp h3
  refine ⟨h1, h2, fun y hy => ?_, h4, h5, fun y hy e => ?_⟩
  · have := all y hy
    rw [Bool.and_eq_true] at this
    exact of_decide_eq_true this.1
  · have := all y hy
    rw [Bool.and_eq_true] at this
    exact (of_decide_eq_true this.2 e).elim
/-- a constant of the module -/
theorem pe_const {X : Cx} {x : Str} {v : V} {pos : Pos} (hg : Gl X x) (h : ∃ u, X.mg x = some u ∧ RelV v u) (hd : (x == ("__debug__" : Str)) = false := by decide) : PE X (.Name x pos) (tC v) :=
  let ⟨_, a, b⟩ := h
  pe_glob hg a b hd
/-! ## names, full names, trees: of data -/
def nameS (z : Str) : Bool := decide (1 ≤ z.length) && decide (z.length ≤ 8) && z.cps.toList.all fun n => decide (n ∈ AB.cps.toList)
def nameD : PyData → Bool
  | .str z => nameS z
  | _ => false
/-- a text, or of another kind -/
theorem strOr (d : PyData) : (∃ z, d = .str z) ∨ (kindD d ≠ "str" ∧ nameD d = false) := by
  cases d <;> first | exact .inl ⟨_, rfl⟩ | exact .inr ⟨by simp [kindD], rfl⟩
end Ah

namespace Ah
open PySem PySem.Spec PyProof.Rows L2
/-! ## anything that may be handed in: data with lists and empty dicts, both apart from ms -/
mutual
inductive Dy (K : PySem.W.Frag) (ms : List Addr) (H : Hp) : V → PyData → Prop
  | non : Dy K ms H .non .none
  | bl (b : Bool) : Dy K ms H (.bl b) (.bool b)
  | int (i : Int) : Dy K ms H (.int i) (.int i)
  | str (x : Str) : Dy K ms H (.str x) (.str x)
  | lst {a : Addr} {xs : List V} {ds : List PyData} : a ∉ ms → H a = some (.lst xs) → Dys K ms H xs ds → Dy K ms H (.ref a) (.list ds)
  | dic {a : Addr} : a ∉ ms → H a = some (.dK []) → Dy K ms H (.ref a) (.dict [])
  | tup {a : Addr} {xs : List V} {ds : List PyData} : SqT K H a xs → Dys K ms H xs ds → Dy K ms H (.ref a) (.tuple ds)
inductive Dys (K : PySem.W.Frag) (ms : List Addr) (H : Hp) : List V → List PyData → Prop
  | nil : Dys K ms H [] []
  | cons {v : V} {vs : List V} {d : PyData} {ds : List PyData} : Dy K ms H v d → Dys K ms H vs ds → Dys K ms H (v :: vs) (d :: ds)
end
section
variable {K : PySem.W.Frag} {ms ns : List Addr} {H H' : Hp}
mutual
theorem Dy.kp (k : Kp ns H H') (sub : ∀ b ∈ ns, b ∈ ms) (n : ∀ m ∈ ns, Loose H m) : ∀ (d : PyData) {v : V}, Dy K ms H v d → Dy K ms H' v d
  | .none, _, h => by cases h; exact .non
  | .bool b, _, h => by cases h; exact .bl b
  | .int i, _, h => by cases h; exact .int i
  | .str x, _, h => by cases h; exact .str x
  | .list ds, _, h => by
    cases h with
    | lst a b c => exact .lst a (k _ _ (fun z => a (sub _ z)) b) (Dys.kp k sub n ds c)
  | .tuple ds, _, h => by
    cases h with
    | tup b c => exact .tup (SqT.kp k n b) (Dys.kp k sub n ds c)
  | .dict _, _, h => by
    cases h with
    | dic a b => exact .dic a (k _ _ (fun z => a (sub _ z)) b)
theorem Dys.kp (k : Kp ns H H') (sub : ∀ b ∈ ns, b ∈ ms) (n : ∀ m ∈ ns, Loose H m) : ∀ (ds : List PyData) {vs : List V}, Dys K ms H vs ds → Dys K ms H' vs ds
  | [], _, h => by cases h; exact .nil
  | d :: ds, _, h => by
    cases h with
    | cons a b => exact .cons (Dy.kp k sub n d a) (Dys.kp k sub n ds b)
end
mutual
theorem Dy.weak (sub : ∀ b ∈ ns, b ∈ ms) : ∀ (d : PyData) {v : V}, Dy K ms H v d → Dy K ns H v d
  | .none, _, h => by cases h; exact .non
  | .bool b, _, h => by cases h; exact .bl b
  | .int i, _, h => by cases h; exact .int i
  | .str x, _, h => by cases h; exact .str x
  | .list ds, _, h => by
    cases h with
    | lst a b c => exact .lst (fun z => a (sub _ z)) b (Dys.weak sub ds c)
  | .tuple ds, _, h => by
    cases h with
    | tup b c => exact .tup b (Dys.weak sub ds c)
  | .dict _, _, h => by
    cases h with
    | dic a b => exact .dic (fun z => a (sub _ z)) b
theorem Dys.weak (sub : ∀ b ∈ ns, b ∈ ms) : ∀ (ds : List PyData) {vs : List V}, Dys K ms H vs ds → Dys K ns H vs ds
  | [], _, h => by cases h; exact .nil
  | d :: ds, _, h => by
    cases h with
    | cons a b => exact .cons (Dy.weak sub d a) (Dys.weak sub ds b)
end
mutual
theorem Dy.more {L : Addr} (hL : H L = none) : ∀ (d : PyData) {v : V}, Dy K ms H v d → Dy K (L :: ms) H v d
  | .none, _, h => by cases h; exact .non
  | .bool b, _, h => by cases h; exact .bl b
  | .int i, _, h => by cases h; exact .int i
  | .str x, _, h => by cases h; exact .str x
  | .list ds, _, h => by
    cases h with
    | lst a b c =>
      refine .lst (fun z => ?_) b (Dys.more hL ds c)
      rcases List.mem_cons.mp z with rfl | z
      · rw [hL] at b; cases b
      · exact a z
  | .tuple ds, _, h => by
    cases h with
    | tup b c => exact .tup b (Dys.more hL ds c)
  | .dict _, _, h => by
    cases h with
    | dic a b =>
      refine .dic (fun z => ?_) b
      rcases List.mem_cons.mp z with rfl | z
      · rw [hL] at b; cases b
      · exact a z
theorem Dys.more {L : Addr} (hL : H L = none) : ∀ (ds : List PyData) {vs : List V}, Dys K ms H vs ds → Dys K (L :: ms) H vs ds
  | [], _, h => by cases h; exact .nil
  | d :: ds, _, h => by
    cases h with
    | cons a b => exact .cons (Dy.more hL d a) (Dys.more hL ds b)
end
mutual
/-- plain data is such data -/
theorem Dp.dyF : ∀ (d : PyData) {v : V}, noL d = true → Dp K H v d → Dy K ms H v d
  | .none, _, _, h => by cases h; exact .non
  | .bool b, _, _, h => by cases h; exact .bl b
  | .int i, _, _, h => by cases h; exact .int i
  | .str x, _, _, h => by cases h; exact .str x
  | .list ds, _, f, h => by rw [noL] at f; cases f
  | .tuple ds, _, f, h => by
    rw [noL] at f
    cases h with
    | tup b c => exact .tup b (Dps.dyF ds f c)
  | .dict _, _, _, h => by cases h
theorem Dps.dyF : ∀ (ds : List PyData) {vs : List V}, noLs ds = true → DpAll K H vs ds → Dys K ms H vs ds
  | [], _, _, h => by cases h; exact .nil
  | d :: ds, _, f, h => by
    rw [noLs, Bool.and_eq_true] at f
    cases h with
    | cons a b => exact .cons (Dp.dyF d f.1 a) (Dps.dyF ds f.2 b)
end
theorem Dy.new {d : PyData} {v : V} (h : Dy K ms H v d) (k : Kp [] H H') : Dy K ms H' v d := Dy.kp k (fun _ z => by cases z) (fun _ z => by cases z) d h
theorem Dys.new {ds : List PyData} {vs : List V} (h : Dys K ms H vs ds) (k : Kp [] H H') : Dys K ms H' vs ds := Dys.kp k (fun _ z => by cases z) (fun _ z => by cases z) ds h
theorem Dys.append : ∀ {vs us : List V} {ds es : List PyData}, Dys K ms H vs ds → Dys K ms H us es → Dys K ms H (vs ++ us) (ds ++ es)
  | _, _, _, _, .nil, s => s
  | _, _, _, _, .cons a r, s => .cons a (Dys.append r s)
theorem Dys.length : ∀ {vs : List V} {ds : List PyData}, Dys K ms H vs ds → vs.length = ds.length
  | _, _, .nil => rfl
  | _, _, .cons _ r => by rw [List.length_cons, List.length_cons, Dys.length r]
theorem Dys.take : ∀ {vs : List V} {ds : List PyData} (i : Nat), Dys K ms H vs ds → Dys K ms H (vs.take i) (ds.take i)
  | _, _, 0, _ => .nil
  | _, _, _ + 1, .nil => .nil
  | _, _, i + 1, .cons a r => .cons a (Dys.take i r)
theorem Dys.drop : ∀ {vs : List V} {ds : List PyData} (i : Nat), Dys K ms H vs ds → Dys K ms H (vs.drop i) (ds.drop i)
  | _, _, 0, r => r
  | _, _, _ + 1, .nil => .nil
  | _, _, i + 1, .cons _ r => Dys.drop i r
theorem Dys.reverse : ∀ {vs : List V} {ds : List PyData}, Dys K ms H vs ds → Dys K ms H vs.reverse ds.reverse
  | _, _, .nil => .nil
  | _, _, .cons a r => by
    rw [List.reverse_cons, List.reverse_cons]
    exact Dys.append (Dys.reverse r) (.cons a .nil)
theorem Dys.get : ∀ {vs : List V} {ds : List PyData} {i : Nat} {v : V}, Dys K ms H vs ds → vs[i]? = some v → ∃ d, ds[i]? = some d ∧ Dy K ms H v d
  | _, _, 0, _, .cons a r, e => by cases e; exact ⟨_, rfl, a⟩
  | _, _, i + 1, _, .cons a r, e => Dys.get (i := i) r e
theorem tyY {v : V} {d : PyData} (h : Dy K ms H v d) : TyB K H v (kindD d) := by
  cases h with
  | non => exact .non
  | bl b => exact .bl b
  | int i => exact .int i
  | str x => exact .str x
  | lst a b c => exact .lst (SqL.of b)
  | dic a b => exact .dK b
  | tup a b => exact .tup a
end
mutual
/-- no list in it -/
def noL' : PyData → Bool
  | .none => true
  | .bool _ => true
  | .int _ => true
  | .str _ => true
  | .dict _ => true
  | .tuple ds => noLs' ds
  | .list _ => false
def noLs' : List PyData → Bool
  | [] => true
  | d :: ds => noL' d && noLs' ds
end
/-! the parts as which such data is read: lists, and dicts that are none of the machine's own -/
section
variable {X : Cx} {pins : List (Addr × Obj)} {σ : L2.St} {H : Hp} {s : Shared} {ms : List Addr}
mutual
theorem Dy.reads (I : Inv X pins σ H s) : ∀ (d : PyData) {v : V} {u : Value}, Dy X.K ms H v d → RelV v u → ∃ as, Reads s.heap u d as ∧ (noL' d = true → sysModules ∉ as)
  | .none, _, _, h, r => by cases h; cases r; exact ⟨[], .none, fun _ z => by cases z⟩
  | .bool b, _, _, h, r => by cases h; cases r; exact ⟨[], .bool b, fun _ z => by cases z⟩
  | .int i, _, _, h, r => by cases h; obtain ⟨t, rfl⟩ := r; exact ⟨[], .int i t, fun _ z => by cases z⟩
  | .str x, _, _, h, r => by cases h; obtain ⟨t, rfl⟩ := r; exact ⟨[], .str x t, fun _ z => by cases z⟩
  | .list ds, _, _, h, r => by
    cases h with
    | lst a b c =>
      cases r
      obtain ⟨its, rv, ⟨o, n, ho, hc, _, hd⟩, _⟩ := I.list (SqL.of b)
      obtain ⟨as, q, _⟩ := Dys.reads I ds c rv
      exact ⟨_, .list ho hc hd q, fun z => by rw [noL'] at z; cases z⟩
  | .tuple ds, _, _, h, r => by
    cases h with
    | tup b c =>
      cases r
      obtain ⟨its, rv, ⟨o, ho, hc, n, hd⟩, _⟩ := I.tuple b
      obtain ⟨as, q, f⟩ := Dys.reads I ds c rv
      exact ⟨_, .tuple ho hc hd q, fun z => by rw [noL'] at z; exact f z⟩
  | .dict kvs, _, _, h, r => by
    cases h with
    | dic a b =>
      cases r
      obtain ⟨_, lo, vs, kv, o, es, ep, ho, hx, hd, _, hp2, _⟩ := dk_of I.hok b
      cases kv
      have e0 : es.toList = [] := List.length_eq_zero_iff.mp hp2.length
      refine ⟨_, .dict (as := []) (bs := []) ho hx.1 hd (by rw [e0]; exact .nil) (by rw [e0]; exact .nil), fun _ z => ?_⟩
      rw [List.mem_singleton.mp z, beq_self_eq_true] at lo
      cases lo
theorem Dys.reads (I : Inv X pins σ H s) : ∀ (ds : List PyData) {vs : List V} {us : List Value}, Dys X.K ms H vs ds → Vals vs us → ∃ as, ReadsAll s.heap us ds as ∧ (noLs' ds = true → sysModules ∉ as)
  | [], _, _, h, r => by cases h; cases r; exact ⟨[], .nil, fun _ z => by cases z⟩
  | d :: ds, _, _, h, r => by
    cases h with
    | cons a b =>
      cases r with
      | cons r1 r2 =>
        obtain ⟨as, q1, f1⟩ := Dy.reads I d a r1
        obtain ⟨bs, q2, f2⟩ := Dys.reads I ds b r2
        refine ⟨_, .cons q1 q2, fun z hm => ?_⟩
        rw [noLs', Bool.and_eq_true] at z
        rcases List.mem_append.mp hm with h | h
        · exact f1 z.1 h
        · exact f2 z.2 h
end
/-- repr of such data -/
def rReprY (K : PySem.W.Frag) : List V → Hp → VK → Prop := fun xs H Q => ∃ x d ms, xs = [x] ∧ Dy K ms H x d ∧ (noL' d = true ∨ d.hasDict = false) ∧
  d.showable = true ∧ d.depth ≤ 60 ∧ d.shown.length ≤ sizeLine ∧ Q (.str d.shown) H
theorem call_reprY (hg : X.A.guards = some []) (hu : X.A.units + 64 < cLine) : CallR X (.builtin "repr") (rReprY X.K) := by
  intro pins s σ H xs us Q I r h
  obtain ⟨x, d, ms, rfl, hd, hl, hs, hdep, hsz, q⟩ := h
  obtain ⟨u, rfl, rx⟩ := vals1 r
  obtain ⟨as, rd, nos⟩ := Dy.reads I d hd rx
  have hsm : d.hasDict = true → sysModules ∉ as := fun z => by
    rcases hl with h | h
    · exact nos h
    · rw [z] at h; cases h
  cases hd with
  | non =>
    obtain rfl : u = Value.none := rx
    refine PySem.P.repr_of_none ⟨.str _, H, I.tok _, ⟨_, rfl⟩, ?_⟩
    simpa only [PyData.shown] using q
  | bl b =>
    obtain rfl : u = Value.bool b := rx
    refine PySem.P.repr_of_bool ⟨.str _, H, I.tok _, ⟨_, rfl⟩, ?_⟩
    simpa only [PyData.shown] using q
  | int i =>
    obtain ⟨t, rfl⟩ := rx
    refine PySem.P.repr_of_int (by simpa [PyData.showable] using hs) ⟨.str _, H, I.tok _, ⟨_, rfl⟩, ?_⟩
    simpa only [PyData.shown] using q
  | str z =>
    obtain ⟨t, rfl⟩ := rx
    refine PySem.P.repr_of_str ⟨.str _, H, I.tok _, ⟨_, rfl⟩, ?_⟩ (by simpa only [PyData.shown] using hsz)
    simpa only [PyData.shown] using q
  | @lst a xs ds h0 h1 h2 =>
    obtain rfl : u = Value.ref a := rx
    exact repr_of_reads' rd hs hsm hg (by omega) (fun _ _ e => e)
      (fun h' u tk hk => ⟨.str _, H, I.kept (t' := tk) hk, ⟨_, rfl⟩, q⟩) hsz
  | @dic a h0 h1 =>
    obtain rfl : u = Value.ref a := rx
    exact repr_of_reads' rd hs hsm hg (by omega) (fun _ _ e => e)
      (fun h' u tk hk => ⟨.str _, H, I.kept (t' := tk) hk, ⟨_, rfl⟩, q⟩) hsz
  | @tup a xs ds h1 h2 =>
    obtain rfl : u = Value.ref a := rx
    exact repr_of_reads' rd hs hsm hg (by omega) (fun _ _ e => e)
      (fun h' u tk hk => ⟨.str _, H, I.kept (t' := tk) hk, ⟨_, rfl⟩, q⟩) hsz
end
end Ah

namespace Ah
open PySem PySem.Spec PyProof.Rows L2
/-! ## isinstance of anything -/
theorem tyList {K : PySem.W.Frag} {H : Hp} {a : Addr} {xs : List V} (h : H a = some (.lst xs)) : TyX K H (.ref a) (.type "list") := .base (.lst h)
theorem tyDict {K : PySem.W.Frag} {H : Hp} {a : Addr} {kvs : List (Key × V)} (h : H a = some (.dK kvs)) : TyX K H (.ref a) (.type "dict") := .base (.dK h)
theorem two {K : PySem.W.Frag} (k : String) (a : kitB k "str" = some (decide (k = "str"))) (b : kitB k "tuple" = some (decide (k = "tuple"))) :
    PySem.W.kitOne K (.type k) (.type "str") = some (decide (k = "str")) ∧ PySem.W.kitOne K (.type k) (.type "tuple") = some (decide (k = "tuple")) := ⟨kit_ty a, kit_ty b⟩
theorem isiY {K : PySem.W.Frag} {ms : List Addr} {H : Hp} {x : V} {d : PyData} (h : Dy K ms H x d) :
    ∃ T, TyX K H x T ∧ PySem.W.kitOne K T (.type "str") = some (decide (kindD d = "str")) ∧ PySem.W.kitOne K T (.type "tuple") = some (decide (kindD d = "tuple")) := by
  cases h with
  | non => exact ⟨.type "NoneType", .base .non, two "NoneType" (by decide +kernel) (by decide +kernel)⟩
  | bl b => exact ⟨.type "bool", .base (.bl b), two "bool" (by decide +kernel) (by decide +kernel)⟩
  | int i => exact ⟨.type "int", .base (.int i), two "int" (by decide +kernel) (by decide +kernel)⟩
  | str z => exact ⟨.type "str", .base (.str z), two "str" (by decide +kernel) (by decide +kernel)⟩
  | lst a b c => exact ⟨.type "list", tyList b, two "list" (by decide +kernel) (by decide +kernel)⟩
  | dic a b => exact ⟨.type "dict", tyDict b, two "dict" (by decide +kernel) (by decide +kernel)⟩
  | tup a b => exact ⟨.type "tuple", tyTup a, two "tuple" (by decide +kernel) (by decide +kernel)⟩
end Ah

namespace Ah
open PySem PySem.Spec PyProof.Rows L2
open PySem.StrLaws (partsFrom occ_tight)
open PySem.Builtin.Str (strSub)
/-! ## a text cut at its dots: count, find, split say the same -/
theorem fromLen (x : Str) (n : Nat) : ∀ (cuts : List Nat) (a : Nat), (partsFrom x n a cuts).length = cuts.length + 1
  | [], a => rfl
  | c :: r, a => by
    show (strSub x a c :: partsFrom x n (c + n) r).length = _
    rw [List.length_cons, fromLen x n r, List.length_cons]
theorem dotOk : TL.tl ("." : Str) ≠ [] := by show ([46] : List Nat) ≠ []; simp
theorem dotLen : ("." : Str).length = 1 := rfl
/-- the places of the dots, and the parts between them -/
theorem dotCuts (z : Str) : ∃ cuts : List Nat, Txt.count z "." = (cuts.length : Int) ∧ (partsFrom z 1 0 cuts).map TL.tl = TL.spl [46] 0 [] (TL.tl z) ∧
    (∀ c r, cuts = c :: r → StrLaws.At z "." z.length c ∧ ∀ k, k < c → ¬ StrLaws.At z "." z.length k) := by
  obtain ⟨f, g, hn⟩ := occ_tight z "." (TL.len1 dotOk)
  have key := TL.parts_spl dotOk _ 0 f (Nat.zero_le _) g hn
  refine ⟨_, rfl, by rw [List.drop_zero] at key; exact key, fun c r e => ?_⟩
  rw [e] at g
  obtain ⟨h1, h2, h3, h4⟩ := g
  exact ⟨h2, fun k hk => h3 k (Nat.zero_le _) (by omega)⟩
/-- one dot: where it is, and the two parts -/
theorem dotOne (z : Str) : (Txt.count z "." = 1 ∧ ∃ c : Nat, c < z.length ∧ Txt.find z "." = (c : Int) ∧ TL.spl [46] 0 [] (TL.tl z) = [(TL.tl z).take c, (TL.tl z).drop (c + 1)]) ∨
    (Txt.count z "." ≠ 1 ∧ (TL.spl [46] 0 [] (TL.tl z)).length ≠ 2) := by
  obtain ⟨cuts, e1, e2, e3⟩ := dotCuts z
  have len : (TL.spl [46] 0 [] (TL.tl z)).length = cuts.length + 1 := by rw [← e2, List.length_map, fromLen]
  by_cases h : cuts.length = 1
  · obtain ⟨c, rfl⟩ : ∃ c, cuts = [c] := by
      match cuts, h with
      | [c], _ => exact ⟨c, rfl⟩
    obtain ⟨at_, no⟩ := e3 c [] rfl
    refine .inl ⟨by rw [e1]; rfl, c, ?_, ?_, ?_⟩
    · have := at_.1
      rw [dotLen] at this
      omega
    · rcases find_whole z "." with ⟨_, n⟩ | ⟨i, e, hi, n⟩
      · exact (n c at_).elim
      · rw [e]
        have h1 : ¬ c < i := fun q => n c q at_
        have h2 : ¬ i < c := fun q => no i q hi
        congr 1
        omega
    · rw [← e2]
      show [TL.tl (strSub z 0 c), TL.tl (strSub z (c + 1) z.length)] = _
      rw [TL.tl_strSub, TL.tl_strSub_end, List.drop_zero, Nat.sub_zero]
  · refine .inr ⟨by rw [e1]; omega, by omega⟩
end Ah

namespace Ah
open PySem PySem.Spec PyProof.Rows L2
/-! ## the end where code objects have tables -/
/-- the law's own def, from its promise over every base with such heads -/
theorem lawFnT {P : Program} {w : World} {K : PySem.W.Frag} {mg : Str → Option Value} {st : Stmt} {fa : Addr} {sp : Sp} {k : Nat} {cs : List (Addr × Addr)} (hfa : mg "law" = some (.ref fa)) (T : At K mg "law" st) (b : Posi "law" st ["script"])
    (D : ∀ base : Heap, Heads base mg cs → HasG P w K mg base k "law" st ["script"] sp) :
    ∃ fd : FuncData, (∀ (s : Shared) (v : Value), BindsTo s fd ⟨[v], []⟩ [("script", v)]) ∧ ∀ base : Heap, K.In base → base.Ns mainGlobals mg → Heads base mg cs → FnG P w K mg base CX0 k fa fd ["script"] sp := by
  obtain ⟨f, fd, F, m⟩ := T
  obtain rfl : fa = f := by
    rw [hfa] at m
    exact Value.ref.inj (Option.some.inj m)
  obtain ⟨oc, od, kV, doc, pm, an, cdv, ct, osl, e1, l1, _⟩ := id F.ex
  refine ⟨fd, fun s v => ?_, fun base _ _ hds => ?_⟩
  · rw [e1]
    exact .of_eq (b kV doc pm an cdv ct [v] rfl)
  · obtain ⟨f', fd', F', G', b', m'⟩ := D base hds
    obtain rfl : fa = f' := by
      rw [hfa] at m'
      exact Value.ref.inj (Option.some.inj m')
    obtain ⟨oc', od', kV', doc', pm', an', cdv', ct', osl', e2, l2, _⟩ := F'.ex
    rw [l1] at l2
    cases l2
    exact G'
/-- what law(script) promises, the tables cs empty when it is asked -/
def spLawT (K : PySem.W.Frag) (cs : List (Addr × Addr)) : Sp := fun vs H Q _ => ∃ (a : Addr) (ns : List Int), vs = [.ref a] ∧ SqL K H a (ns.map V.int) ∧ ns.length ≤ 63 ∧
  (∀ p ∈ cs, H p.2 = some (.tbl #[])) ∧ ∀ H', Q (.bl true) H'
/-- what the law asks at one hand, one table tb -/
def spRightT (tb : Addr) : Sp := fun vs H Q _ => ∃ (a : Addr), vs = [.ref a] ∧ Hand 0 H a ∧ GxR.TabG H tb ∧ ∀ (H' : Hp), Kp [a, tb] H H' → GxR.TabG H' tb → Q (.bl true) H'
theorem tabEmpty {H : Hp} {tb : Addr} (h : H tb = some (.tbl #[])) : GxR.TabG H tb := ⟨#[], h, True.intro⟩
theorem TabG.loose {H : Hp} {tb : Addr} (h : GxR.TabG H tb) : Loose H tb := by
  obtain ⟨ps, e, _⟩ := h
  exact ⟨(fun xs z => by rw [e] at z; cases z), (fun o u z => by rw [e] at z; cases z)⟩
theorem TabG.keep {ms : List Addr} {H H' : Hp} {tb : Addr} (h : GxR.TabG H tb) (k : Kp ms H H') (n : tb ∉ ms) : GxR.TabG H' tb := by
  obtain ⟨ps, e, t⟩ := h
  exact ⟨ps, k tb _ n e, t⟩
theorem Tabbed.kp {H H' : Hp} {tb : Addr} (h : GxR.Tabbed tb H H') : Kp [tb] H H' := fun c o n e => by
  rw [h.2 c (by simpa using n)]; exact e
end Ah

namespace Ah
open PySem PySem.Spec PyProof.Rows L2
/-! ## data apart from a set of addresses -/
def kD : Key → PyData
  | .inl i => .int i
  | .inr s => .str s
mutual
inductive Dz (K : PySem.W.Frag) (S : Addr → Prop) (H : Hp) : V → PyData → Prop
  | non : Dz K S H .non .none
  | bl (b : Bool) : Dz K S H (.bl b) (.bool b)
  | int (i : Int) : Dz K S H (.int i) (.int i)
  | str (x : Str) : Dz K S H (.str x) (.str x)
  | lst {a : Addr} {xs : List V} {ds : List PyData} : ¬ S a → H a = some (.lst xs) → Dzs K S H xs ds → Dz K S H (.ref a) (.list ds)
  | dic {a : Addr} {xs : List (Key × V)} {ds : List (PyData × PyData)} : ¬ S a → H a = some (.dK xs) → Dzk K S H xs ds → Dz K S H (.ref a) (.dict ds)
  | tup {a : Addr} {xs : List V} {ds : List PyData} : SqT K H a xs → Dzs K S H xs ds → Dz K S H (.ref a) (.tuple ds)
inductive Dzs (K : PySem.W.Frag) (S : Addr → Prop) (H : Hp) : List V → List PyData → Prop
  | nil : Dzs K S H [] []
  | cons {v : V} {vs : List V} {d : PyData} {ds : List PyData} : Dz K S H v d → Dzs K S H vs ds → Dzs K S H (v :: vs) (d :: ds)
inductive Dzk (K : PySem.W.Frag) (S : Addr → Prop) (H : Hp) : List (Key × V) → List (PyData × PyData) → Prop
  | nil : Dzk K S H [] []
  | cons {k : Key} {v : V} {vs : List (Key × V)} {d : PyData} {ds : List (PyData × PyData)} : Dz K S H v d → Dzk K S H vs ds → Dzk K S H ((k, v) :: vs) ((kD k, d) :: ds)
end
section
variable {K : PySem.W.Frag} {S S' : Addr → Prop} {H H' : Hp}
mutual
theorem Dz.map (hk : ∀ a o, ¬ S a → H a = some o → H' a = some o) (ht : ∀ a xs, SqT K H a xs → SqT K H' a xs) (hs : ∀ a, S' a → S a ∨ H a = none) : ∀ {v : V} {d : PyData}, Dz K S H v d → Dz K S' H' v d
  | _, _, .non => .non
  | _, _, .bl b => .bl b
  | _, _, .int i => .int i
  | _, _, .str x => .str x
  | _, _, .lst a b c => .lst (fun z => by rcases hs _ z with h | h; exact a h; rw [h] at b; cases b) (hk _ _ a b) (Dzs.map hk ht hs c)
  | _, _, .dic a b c => .dic (fun z => by rcases hs _ z with h | h; exact a h; rw [h] at b; cases b) (hk _ _ a b) (Dzk.map hk ht hs c)
  | _, _, .tup b c => .tup (ht _ _ b) (Dzs.map hk ht hs c)
theorem Dzs.map (hk : ∀ a o, ¬ S a → H a = some o → H' a = some o) (ht : ∀ a xs, SqT K H a xs → SqT K H' a xs) (hs : ∀ a, S' a → S a ∨ H a = none) : ∀ {v : List V} {d : List PyData}, Dzs K S H v d → Dzs K S' H' v d
  | _, _, .nil => .nil
  | _, _, .cons a b => .cons (Dz.map hk ht hs a) (Dzs.map hk ht hs b)
theorem Dzk.map (hk : ∀ a o, ¬ S a → H a = some o → H' a = some o) (ht : ∀ a xs, SqT K H a xs → SqT K H' a xs) (hs : ∀ a, S' a → S a ∨ H a = none) : ∀ {v : List (Key × V)} {d : List (PyData × PyData)}, Dzk K S H v d → Dzk K S' H' v d
  | _, _, .nil => .nil
  | _, _, .cons a b => .cons (Dz.map hk ht hs a) (Dzk.map hk ht hs b)
end
theorem Dz.weak (h : Dz K S H v d) (hs : ∀ a, S' a → S a ∨ H a = none) : Dz K S' H v d := Dz.map (fun _ _ _ h => h) (fun _ _ h => h) hs h
theorem Dzs.weak (h : Dzs K S H v d) (hs : ∀ a, S' a → S a ∨ H a = none) : Dzs K S' H v d := Dzs.map (fun _ _ _ h => h) (fun _ _ h => h) hs h
theorem Dzk.weak (h : Dzk K S H v d) (hs : ∀ a, S' a → S a ∨ H a = none) : Dzk K S' H v d := Dzk.map (fun _ _ _ h => h) (fun _ _ h => h) hs h
theorem Dzs.append : ∀ {vs us : List V} {ds es : List PyData}, Dzs K S H vs ds → Dzs K S H us es → Dzs K S H (vs ++ us) (ds ++ es)
  | _, _, _, _, .nil, s => s
  | _, _, _, _, .cons a r, s => .cons a (Dzs.append r s)
theorem Dzs.length : ∀ {vs : List V} {ds : List PyData}, Dzs K S H vs ds → vs.length = ds.length
  | _, _, .nil => rfl
  | _, _, .cons _ r => by rw [List.length_cons, List.length_cons, Dzs.length r]
theorem Dzs.take : ∀ {vs : List V} {ds : List PyData} (i : Nat), Dzs K S H vs ds → Dzs K S H (vs.take i) (ds.take i)
  | _, _, 0, _ => .nil
  | _, _, _ + 1, .nil => .nil
  | _, _, i + 1, .cons a r => .cons a (Dzs.take i r)
theorem Dzs.drop : ∀ {vs : List V} {ds : List PyData} (i : Nat), Dzs K S H vs ds → Dzs K S H (vs.drop i) (ds.drop i)
  | _, _, 0, r => r
  | _, _, _ + 1, .nil => .nil
  | _, _, i + 1, .cons _ r => Dzs.drop i r
theorem Dzs.reverse : ∀ {vs : List V} {ds : List PyData}, Dzs K S H vs ds → Dzs K S H vs.reverse ds.reverse
  | _, _, .nil => .nil
  | _, _, .cons a r => by
    rw [List.reverse_cons, List.reverse_cons]
    exact Dzs.append (Dzs.reverse r) (.cons a .nil)
theorem Dzs.get : ∀ {vs : List V} {ds : List PyData} {i : Nat} {v : V}, Dzs K S H vs ds → vs[i]? = some v → ∃ d, ds[i]? = some d ∧ Dz K S H v d
  | _, _, 0, _, .cons a r, e => by cases e; exact ⟨_, rfl, a⟩
  | _, _, i + 1, _, .cons a r, e => Dzs.get (i := i) r e
theorem Dzs.get' : ∀ {vs : List V} {ds : List PyData} {i : Nat} {d : PyData}, Dzs K S H vs ds → ds[i]? = some d → ∃ v, vs[i]? = some v ∧ Dz K S H v d
  | _, _, 0, _, .cons a r, e => by cases e; exact ⟨_, rfl, a⟩
  | _, _, i + 1, _, .cons a r, e => Dzs.get' (i := i) r e
theorem Dz.ty (h : Dz K S H v d) : TyB K H v (kindD d) := by
  cases h with
  | non => exact .non
  | bl b => exact .bl b
  | int i => exact .int i
  | str x => exact .str x
  | lst a b c => exact .lst (SqL.of b)
  | dic a b c => exact .dK b
  | tup a b => exact .tup a
end
/-- the dict at a, by tuples of numbers and texts: its entries, each with its key's address and its value -/
abbrev dTX (w : World) (a : Addr) (xs : List (List Key × Addr × Value)) : HO := .ext fun h => (a == sysModules) = false ∧ xs.length ≤ sizeLine ∧ ∃ (P : Program) (o : Obj) (es : Array DictEntry) (ep : Nat), h.get? a = some o ∧ o.ExactDict ∧ o.data = .dict es ep ∧ es.toList = xs.map (entryOfKey (tupleKind (mixKind P w))) ∧ (xs.map (·.1)).Nodup
/-- .. its data key by key -/
inductive Dzt (K : PySem.W.Frag) (S : Addr → Prop) (H : Hp) : List (List Key × Addr × Value) → List (List Key × PyData) → Prop
  | nil : Dzt K S H [] []
  | cons {k : List Key} {b : Addr} {u : Value} {v : V} {vs : List (List Key × Addr × Value)} {d : PyData} {ds : List (List Key × PyData)} : SqT K H b (k.map kV) → RelV v u → Dz K S H v d → Dzt K S H vs ds → Dzt K S H ((k, b, u) :: vs) ((k, d) :: ds)
theorem Dzt.map {K : PySem.W.Frag} {S S' : Addr → Prop} {H H' : Hp} (hk : ∀ a o, ¬ S a → H a = some o → H' a = some o) (ht : ∀ a xs, SqT K H a xs → SqT K H' a xs) (hs : ∀ a, S' a → S a ∨ H a = none) : ∀ {v : List (List Key × Addr × Value)} {d : List (List Key × PyData)}, Dzt K S H v d → Dzt K S' H' v d
  | _, _, .nil => .nil
  | _, _, .cons t r a b => .cons (ht _ _ t) r (Dz.map hk ht hs a) (Dzt.map hk ht hs b)
theorem Dzt.weak {K : PySem.W.Frag} {S S' : Addr → Prop} {H : Hp} {v : List (List Key × Addr × Value)} {d : List (List Key × PyData)} (h : Dzt K S H v d) (hs : ∀ a, S' a → S a ∨ H a = none) : Dzt K S' H v d := Dzt.map (fun _ _ _ h => h) (fun _ _ h => h) hs h
/-! ## what is abstract: the slots' kinds -/
inductive A where
  /-- data, apart from all that may change -/
  | d (x : PyData)
  /-- the hand -/
  | hd
  /-- a list that this frame alone has -/
  | ol (xs : List PyData)
  /-- a dict that this frame alone has -/
  | od (xs : List (PyData × PyData))
  /-- a dict by tuples of numbers and texts that this frame alone has -/
  | ot (w : World) (xs : List (List Key × PyData))
  /-- what stands in slot i -/
  | at (i : Nat)
  /-- a built-in class -/
  | ty (s : String)
  /-- the very object at f -/
  | rf (f : Addr) (ks : List (Addr × HO)) (ps : List (V × PyData))
abbrev AEnv := List (Option A)
def A.own : A → Prop
  | .ol _ => True
  | .od _ => True
  | .ot _ _ => True
  | _ => False
/-- what is handed about and changed: the draws' hand, or another thing of which a number tells the state -/
structure HandP where
  P : Nat → Hp → Addr → Prop
  loose : ∀ {n H a}, P n H a → Loose H a
  there : ∀ {n H a}, P n H a → H a ≠ none
  code : ∀ {n H a q}, P n H a → H a ≠ some (LamX.CodeO a q)
  tbl : ∀ {n H a ps}, P n H a → H a ≠ some (.tbl ps)
  keep : ∀ {n ms H H' a}, P n H a → Kp ms H H' → a ∉ ms → (∀ m ∈ ms, Loose H m) → P n H' a
theorem codeO_ext {c : Addr} {q : Str} {p : Heap → Prop} (h : LamX.CodeO c q = .ext p) : ∀ hh, p hh → ∃ (oc : Obj) (vs : Array Value), hh.get? c = some oc ∧ oc.data = .fields vs := by
  intro hh hp
  unfold LamX.CodeO at h
  injection h with h
  rw [← h] at hp
  obtain ⟨oc, vs, t, h1, h2, _⟩ := hp
  exact ⟨oc, vs, h1, h2⟩
def drawsHP : HandP where
  P := Hand
  loose h := h.loose
  there h z := by obtain ⟨xs, e⟩ := h.there; rw [e] at z; cases z
  code h z := by
    obtain ⟨xs, e⟩ := h.there
    rw [e] at z
    unfold LamX.CodeO at z
    cases z
  tbl h z := by
    obtain ⟨xs, e⟩ := h.there
    rw [e] at z
    cases z
  keep h k n _ := Hand.keep h k n
/-- the tables of code objects: what they tell of lambdas bears their names -/
def TabX (lt : List NdefX.NTab) (H : Hp) (t : Addr) : Prop := GxR.TabG H t ∧ ∀ p ∈ lt, p.1 = t → NdefX.TabN H t p.2
theorem TabX.loose {lt : List NdefX.NTab} {H : Hp} {t : Addr} (h : TabX lt H t) : Loose H t := TabG.loose h.1
theorem TabX.keep {lt : List NdefX.NTab} {ms : List Addr} {H H' : Hp} {t : Addr} (h : TabX lt H t) (k : Kp ms H H') (n : t ∉ ms) (hc : ∀ m ∈ ms, ∀ q, H m ≠ some (LamX.CodeO m q)) : TabX lt H' t := by
  refine ⟨TabG.keep h.1 k n, fun p hp e => ?_⟩
  obtain ⟨ps, e1, e2, e3⟩ := h.2 p hp e
  refine ⟨ps, k t _ n e1, e2, fun pos cv hcv => ?_⟩
  obtain ⟨c, f1, f2⟩ := e3 pos cv hcv
  exact ⟨c, f1, k c _ (fun z => hc c z _ f2) f2⟩
structure Amb where
  K : PySem.W.Frag
  H0 : Hp
  S0 : Addr → Prop
  hand : Option Addr
  tabs : List Addr
  pins : List (V × PyData)
  st : Bool
  lt : List NdefX.NTab := []
  hp : HandP := drawsHP
def Amb.hs (M : Amb) : List Addr := M.hand.toList ++ M.tabs
structure Amb.Ok (M : Amb) (n : Nat) (H : Hp) : Prop where
  hand : ∀ h, M.hand = some h → M.hp.P n H h
  tabs : ∀ t ∈ M.tabs, TabX M.lt H t
/-- the addresses of the frame's own lists -/
def OwnS (σ : L2.St) (e : AEnv) (a : Addr) : Prop := ∃ (i : Nat) (x : A), σ[i]? = some (some (.ref a)) ∧ e[i]? = some (some x) ∧ x.own
def Amb.S (M : Amb) (σ : L2.St) (e : AEnv) (a : Addr) : Prop := OwnS σ e a ∨ a ∈ M.hs ∨ M.S0 a
/-- the very object at f, what stands at some places apart, some values' data -/
def RfOk (K : PySem.W.Frag) (S : Addr → Prop) (H : Hp) (v : V) (f : Addr) (ks : List (Addr × HO)) (ps : List (V × PyData)) : Prop :=
  v = .ref f ∧ (∀ p ∈ ks, (¬ S p.1 ∨ ∃ q, p.2 = LamX.CodeO p.1 q) ∧ H p.1 = some p.2) ∧ ∀ p ∈ ps, Dz K S H p.1 p.2
theorem RfOk.map {K : PySem.W.Frag} {S S' : Addr → Prop} {H H' : Hp} {v : V} {f : Addr} {ks : List (Addr × HO)} {ps : List (V × PyData)} (hc : ∀ c q, H c = some (LamX.CodeO c q) → H' c = some (LamX.CodeO c q)) (hk : ∀ a o, ¬ S a → H a = some o → H' a = some o) (ht : ∀ a xs, SqT K H a xs → SqT K H' a xs) (hs : ∀ a, S' a → S a ∨ H a = none) (h : RfOk K S H v f ks ps) : RfOk K S' H' v f ks ps :=
  ⟨h.1, fun p hp => by
    obtain ⟨h1, h2⟩ := h.2.1 p hp
    rcases h1 with h1 | ⟨q, h1⟩
    · exact ⟨.inl fun z => (hs _ z).elim (fun z => h1 z) (fun z => by rw [h2] at z; cases z), hk _ _ h1 h2⟩
    · exact ⟨.inr ⟨q, h1⟩, by rw [h1] at h2 ⊢; exact hc _ _ h2⟩, fun p hp => Dz.map hk ht hs (h.2.2 p hp)⟩
theorem RfOk.weak {K : PySem.W.Frag} {S S' : Addr → Prop} {H : Hp} {v : V} {f : Addr} {ks : List (Addr × HO)} {ps : List (V × PyData)} (h : RfOk K S H v f ks ps) (hs : ∀ a, S' a → S a ∨ H a = none) : RfOk K S' H v f ks ps := RfOk.map (fun _ _ h => h) (fun _ _ _ h => h) (fun _ _ h => h) hs h
def SlotOk (M : Amb) (S : Addr → Prop) (H : Hp) (v : V) : A → Prop
  | .d x => Dz M.K S H v x
  | .hd => ∃ h, M.hand = some h ∧ v = .ref h
  | .ol xs => ∃ a vs, v = .ref a ∧ M.H0 a = none ∧ H a = some (.lst vs) ∧ Dzs M.K S H vs xs
  | .od xs => ∃ a vs, v = .ref a ∧ M.H0 a = none ∧ H a = some (.dK vs) ∧ Dzk M.K S H vs xs
  | .ot w xs => ∃ a vs, v = .ref a ∧ M.H0 a = none ∧ H a = some (dTX w a vs) ∧ Dzt M.K S H vs xs
  | .at _ => False
  | .ty _ => False
  | .rf f ks ps => RfOk M.K S H v f ks ps
structure Rep (M : Amb) (n : Nat) (H : Hp) (σ : L2.St) (e : AEnv) : Prop where
  len : σ.length = e.length
  slot : ∀ (i : Nat) (a : A), e[i]? = some (some a) → ∃ v, σ[i]? = some (some v) ∧ SlotOk M (M.S σ e) H v a
  inj : ∀ (i j : Nat) (x y : A) (a : Addr), σ[i]? = some (some (.ref a)) → e[i]? = some (some x) → x.own → σ[j]? = some (some (.ref a)) → e[j]? = some (some y) → y.own → i = j
  ok : M.Ok n H
  kp : Kp M.hs M.H0 H
  s0 : ∀ a, M.S0 a → H a ≠ none
  hs0 : ∀ a ∈ M.hs, M.H0 a ≠ none
  sep : M.st = true → ∀ a, OwnS σ e a → ¬ M.S0 a
  pin : ∀ p ∈ M.pins, Dz M.K (M.S σ e) H p.1 p.2
section
variable {M : Amb} {n m : Nat} {H H' : Hp} {σ : L2.St} {e : AEnv}
theorem Amb.Ok.loose (h : M.Ok n H) : ∀ a ∈ M.hs, Loose H a := by
  intro a ha
  rcases List.mem_append.mp ha with ha | ha
  · cases q : M.hand with
    | none => rw [q] at ha; cases ha
    | some b =>
      rw [q] at ha
      obtain rfl : a = b := List.mem_singleton.mp ha
      exact M.hp.loose (h.hand _ q)
  · exact TabX.loose (h.tabs a ha)
theorem Amb.Ok.there (h : M.Ok n H) : ∀ a ∈ M.hs, H a ≠ none := by
  intro a ha
  rcases List.mem_append.mp ha with ha | ha
  · cases q : M.hand with
    | none => rw [q] at ha; cases ha
    | some b =>
      rw [q] at ha
      obtain rfl : a = b := List.mem_singleton.mp ha
      exact M.hp.there (h.hand _ q)
  · obtain ⟨⟨ps, e, _⟩, _⟩ := h.tabs a ha
    rw [e]; intro z; cases z
theorem Rep.ownThere (R : Rep M n H σ e) {a : Addr} (h : OwnS σ e a) : (∃ vs, H a = some (.lst vs)) ∨ (∃ vs, H a = some (.dK vs)) ∨ ∃ w vs, H a = some (dTX w a vs) := by
  obtain ⟨i, x, h1, h2, h3⟩ := h
  obtain ⟨v, h4, h5⟩ := R.slot i x h2
  rw [h1] at h4; cases h4
  cases x with
  | ol xs => obtain ⟨b, vs, e1, _, e3, _⟩ := h5; cases e1; exact .inl ⟨vs, e3⟩
  | od xs => obtain ⟨b, vs, e1, _, e3, _⟩ := h5; cases e1; exact .inr (.inl ⟨vs, e3⟩)
  | ot w xs => obtain ⟨b, vs, e1, _, e3, _⟩ := h5; cases e1; exact .inr (.inr ⟨w, vs, e3⟩)
  | d x => exact h3.elim
  | hd => exact h3.elim
  | «at» i => exact h3.elim
  | ty s => exact h3.elim
  | rf _ _ _ => exact h3.elim
theorem repGet {o : Obj} (hd : o.data ≠ .freed) (n b : Nat) : ({ objs := Array.replicate n o, life := {} } : Heap).get? b = if b < n then some o else none := by
  unfold Heap.get?
  simp only [Array.getElem?_replicate]
  by_cases h : b < n
  · simp only [if_pos h]
    obtain ⟨c, d, e, f⟩ := o
    cases e <;> first | rfl | exact (hd rfl).elim
  · simp only [if_neg h]
theorem dTX_code {w : World} {a c : Addr} {xs : List (List Key × Addr × Value)} {q : Str} : dTX w a xs ≠ LamX.CodeO c q := by
  intro z
  have hg := repGet (o := { cls := .none, data := .fields #[.none, .str q default] }) (by intro z; cases z) (c + 1)
  generalize hh : ({ objs := Array.replicate (c + 1) ({ cls := .none, data := .fields #[.none, .str q default] } : Obj), life := {} } : Heap) = h at hg
  unfold LamX.CodeO at z
  injection z with z
  have hp : ∃ (oc : Obj) (vs : Array Value) (t : Tok), h.get? c = some oc ∧ oc.data = .fields vs ∧ vs[1]? = some (.str q t) := ⟨_, _, default, by rw [hg, if_pos (by omega)], rfl, rfl⟩
  have e := congrFun z h
  have hp2 := e.mpr hp
  obtain ⟨_, _, _, o2, es, ep, h1, _, h3, _⟩ := hp2
  rw [hg] at h1
  split at h1
  · cases h1; cases h3
  · cases h1
theorem Rep.ownNoCode (R : Rep M n H σ e) {a : Addr} (h : OwnS σ e a) (q : Str) : H a ≠ some (LamX.CodeO a q) := by
  rcases R.ownThere h with ⟨vs, e⟩ | ⟨vs, e⟩ | ⟨w, vs, e⟩ <;> rw [e] <;> intro z
  · unfold LamX.CodeO at z; cases z
  · unfold LamX.CodeO at z; cases z
  · exact dTX_code (Option.some.inj z)
theorem Rep.ownLoose (R : Rep M n H σ e) {a : Addr} (h : OwnS σ e a) : Loose H a := by
  rcases R.ownThere h with ⟨vs, e⟩ | ⟨vs, e⟩ | ⟨w, vs, e⟩ <;> exact ⟨fun xs => by rw [e]; simp, fun o u => by rw [e]; simp⟩
theorem lstNoCode {a : Addr} {vs : List V} (h : H a = some (.lst vs)) (q : Str) : H a ≠ some (LamX.CodeO a q) := by
  rw [h]; intro z; unfold LamX.CodeO at z; cases z
theorem dKNoCode {a : Addr} {vs : List (Key × V)} (h : H a = some (.dK vs)) (q : Str) : H a ≠ some (LamX.CodeO a q) := by
  rw [h]; intro z; unfold LamX.CodeO at z; cases z
theorem one1 {c : Addr} {P : Addr → Prop} (h : P c) : ∀ m ∈ [c], P m := fun m hm => by rw [List.mem_singleton.mp hm]; exact h
theorem none0 {P : Addr → Prop} : ∀ m ∈ ([] : List Addr), P m := fun m hm => by cases hm
theorem Rep.own_new (R : Rep M n H σ e) {a : Addr} (h : OwnS σ e a) : M.H0 a = none := by
  obtain ⟨i, x, h1, h2, h3⟩ := h
  obtain ⟨v, h4, h5⟩ := R.slot i x h2
  rw [h1] at h4; cases h4
  cases x with
  | ol xs => obtain ⟨b, vs, e1, e2, e3, _⟩ := h5; cases e1; exact e2
  | od xs => obtain ⟨b, vs, e1, e2, e3, _⟩ := h5; cases e1; exact e2
  | ot w xs => obtain ⟨b, vs, e1, e2, e3, _⟩ := h5; cases e1; exact e2
  | d x => exact h3.elim
  | hd => exact h3.elim
  | «at» i => exact h3.elim
  | ty s => exact h3.elim
  | rf _ _ _ => exact h3.elim
/-- what stands in S is there -/
theorem Rep.there (R : Rep M n H σ e) {a : Addr} (h : M.S σ e a) : H a ≠ none := by
  rcases h with h | h | h
  · rcases R.ownThere h with ⟨vs, e⟩ | ⟨vs, e⟩ | ⟨w, vs, e⟩ <;> rw [e] <;> intro z <;> cases z
  · exact R.ok.there a h
  · exact R.s0 a h
theorem sqT_kp {K : PySem.W.Frag} {hs : List Addr} (k : Kp hs H H') (l : ∀ a ∈ hs, Loose H a) : ∀ a xs, SqT K H a xs → SqT K H' a xs := fun _ _ h => SqT.kp k l h
/-- a step that keeps all but the hand and the tables -/
theorem Dz.step {S S' : Addr → Prop} {v : V} {x : PyData} (O : M.Ok n H) (k : Kp M.hs H H') (hS : ∀ a ∈ M.hs, S a) (h : Dz M.K S H v x) (hs : ∀ a, S' a → S a ∨ H a = none) : Dz M.K S' H' v x :=
  Dz.map (fun a o na e => k a o (fun z => na (hS a z)) e) (sqT_kp k O.loose) hs h
theorem Amb.Ok.noCode (h : M.Ok n H) {c : Addr} {q : Str} (e : H c = some (LamX.CodeO c q)) : c ∉ M.hs := by
  intro hc
  rcases List.mem_append.mp hc with hc | hc
  · cases z : M.hand with
    | none => rw [z] at hc; cases hc
    | some b =>
      rw [z] at hc
      obtain rfl : c = b := List.mem_singleton.mp hc
      exact M.hp.code (h.hand _ z) e
  · obtain ⟨⟨ps, e2, _⟩, _⟩ := h.tabs c hc
    rw [e] at e2
    unfold LamX.CodeO at e2
    cases e2
theorem RfOk.step {S S' : Addr → Prop} {v : V} {f : Addr} {ks : List (Addr × HO)} {ps : List (V × PyData)} (O : M.Ok n H) (k : Kp M.hs H H') (hS : ∀ a ∈ M.hs, S a) (h : RfOk M.K S H v f ks ps) (hs : ∀ a, S' a → S a ∨ H a = none) : RfOk M.K S' H' v f ks ps :=
  RfOk.map (fun c q e => k c _ (O.noCode e) e) (fun a o na e => k a o (fun z => na (hS a z)) e) (sqT_kp k O.loose) hs h
theorem Dzs.step {S S' : Addr → Prop} {v : List V} {x : List PyData} (O : M.Ok n H) (k : Kp M.hs H H') (hS : ∀ a ∈ M.hs, S a) (h : Dzs M.K S H v x) (hs : ∀ a, S' a → S a ∨ H a = none) : Dzs M.K S' H' v x :=
  Dzs.map (fun a o na e => k a o (fun z => na (hS a z)) e) (sqT_kp k O.loose) hs h
theorem Dzk.step {S S' : Addr → Prop} {v : List (Key × V)} {x : List (PyData × PyData)} (O : M.Ok n H) (k : Kp M.hs H H') (hS : ∀ a ∈ M.hs, S a) (h : Dzk M.K S H v x) (hs : ∀ a, S' a → S a ∨ H a = none) : Dzk M.K S' H' v x :=
  Dzk.map (fun a o na e => k a o (fun z => na (hS a z)) e) (sqT_kp k O.loose) hs h
theorem Dzt.step {S S' : Addr → Prop} {v : List (List Key × Addr × Value)} {x : List (List Key × PyData)} (O : M.Ok n H) (k : Kp M.hs H H') (hS : ∀ a ∈ M.hs, S a) (h : Dzt M.K S H v x) (hs : ∀ a, S' a → S a ∨ H a = none) : Dzt M.K S' H' v x :=
  Dzt.map (fun a o na e => k a o (fun z => na (hS a z)) e) (sqT_kp k O.loose) hs h
theorem Amb.sub {M : Amb} {σ : L2.St} {e : AEnv} : ∀ a ∈ M.hs, M.S σ e a := fun a h => .inr (.inl h)
theorem Rep.own_hs (R : Rep M n H σ e) {a : Addr} (h : OwnS σ e a) : a ∉ M.hs := fun z => R.hs0 a z (R.own_new h)
end
end Ah

namespace Ah
open PySem PySem.Spec PyProof.Rows L2
/-! ## what an expression gives -/
/-- v is a; what is new was not there in Hs -/
def RelR (M : Amb) (S : Addr → Prop) (Hs H : Hp) (σ : L2.St) (e : AEnv) (v : V) : A → Prop
  | .d x => Dz M.K S H v x
  | .hd => ∃ h, M.hand = some h ∧ v = .ref h
  | .ol xs => ∃ a vs, v = .ref a ∧ Hs a = none ∧ ¬ S a ∧ H a = some (.lst vs) ∧ Dzs M.K (fun b => b = a ∨ S b) H vs xs
  | .od xs => ∃ a vs, v = .ref a ∧ Hs a = none ∧ ¬ S a ∧ H a = some (.dK vs) ∧ Dzk M.K (fun b => b = a ∨ S b) H vs xs
  | .ot w xs => ∃ a vs, v = .ref a ∧ Hs a = none ∧ ¬ S a ∧ H a = some (dTX w a vs) ∧ Dzt M.K (fun b => b = a ∨ S b) H vs xs
  | .at i => σ[i]? = some (some v) ∧ ∃ x, e[i]? = some (some x) ∧ x.own
  | .ty s => v = .ty s
  | .rf f ks ps => RfOk M.K S H v f ks ps
abbrev AQ := A → Nat → Prop
abbrev AW := AEnv → Nat → AQ → Prop
abbrev ATW := AEnv → Nat → (Bool → Nat → Prop) → Prop
abbrev AAW := AEnv → Nat → (List A → Nat → Prop) → Prop
def PostE (M : Amb) (H : Hp) (σ : L2.St) (e : AEnv) (q : AQ) (Q : VK) : Prop :=
  ∀ v H' a m, q a m → Rep M m H' σ e → Kp M.hs H H' → RelR M (M.S σ e) H H' σ e v a → Q v H'
def PostT (M : Amb) (H : Hp) (σ : L2.St) (e : AEnv) (q : Bool → Nat → Prop) (Q : Bool → Hp → Prop) : Prop :=
  ∀ b H' m, q b m → Rep M m H' σ e → Kp M.hs H H' → Q b H'
inductive RelRs (M : Amb) (S : Addr → Prop) (Hs H : Hp) (σ : L2.St) (e : AEnv) : List V → List A → Prop
  | nil : RelRs M S Hs H σ e [] []
  | cons {v vs a as} : RelR M S Hs H σ e v a → RelRs M S Hs H σ e vs as → RelRs M S Hs H σ e (v :: vs) (a :: as)
def PostA (M : Amb) (H : Hp) (σ : L2.St) (e : AEnv) (q : List A → Nat → Prop) (Q : List V → Hp → Prop) : Prop :=
  ∀ vs H' as m, q as m → Rep M m H' σ e → Kp M.hs H H' → RelRs M (M.S σ e) H H' σ e vs as → Q vs H'
/-- the tables of code objects, and what they tell of lambdas -/
structure TBs where
  g : List Addr := []
  l : List NdefX.NTab := []
structure La where
  K : PySem.W.Frag
  tb : TBs
  hp : HandP
abbrev lw (K : PySem.W.Frag) (tb : TBs) : La := ⟨K, tb, drawsHP⟩
def La.Of (L : La) (M : Amb) : Prop := M.K = L.K ∧ M.tabs = L.tb.g ∧ M.lt = L.tb.l ∧ M.hp = L.hp
def AbE (L : La) (t : TE) (w : AW) : Prop := ∀ M n H σ e q Q, L.Of M → Rep M n H σ e → w e n q → PostE M H σ e q Q → t σ H Q
def AbT (L : La) (t : TT) (w : ATW) : Prop := ∀ M n H σ e q Q, L.Of M → Rep M n H σ e → w e n q → PostT M H σ e q Q → t σ H Q
def AbA (L : La) (t : TA) (w : AAW) : Prop := ∀ M n H σ e q Q, L.Of M → Rep M n H σ e → w e n q → PostA M H σ e q Q → t σ H Q
section
variable {L : La} {M : Amb} {n m : Nat} {H Hs H' : Hp} {σ : L2.St} {e : AEnv} {v : V} {a : A}
theorem RelR.step (O : M.Ok n H) (k : Kp M.hs H H') (h : RelR M (M.S σ e) Hs H σ e v a) (O2 : ∀ b ∈ M.hs, Hs b ≠ none) : RelR M (M.S σ e) Hs H' σ e v a := by
  cases a with
  | d x => exact Dz.step O k Amb.sub h fun _ z => .inl z
  | hd => exact h
  | ol xs =>
    obtain ⟨a, vs, e1, e2, e3, e4, e5⟩ := h
    refine ⟨a, vs, e1, e2, e3, k a _ (fun z => e3 (Amb.sub a z)) e4, Dzs.step O k (fun b hb => .inr (Amb.sub b hb)) e5 fun _ z => .inl z⟩
  | od xs =>
    obtain ⟨a, vs, e1, e2, e3, e4, e5⟩ := h
    refine ⟨a, vs, e1, e2, e3, k a _ (fun z => e3 (Amb.sub a z)) e4, Dzk.step O k (fun b hb => .inr (Amb.sub b hb)) e5 fun _ z => .inl z⟩
  | ot w xs =>
    obtain ⟨a, vs, e1, e2, e3, e4, e5⟩ := h
    refine ⟨a, vs, e1, e2, e3, k a _ (fun z => e3 (Amb.sub a z)) e4, Dzt.step O k (fun b hb => .inr (Amb.sub b hb)) e5 fun _ z => .inl z⟩
  | «at» i => exact h
  | ty s => exact h
  | rf _ _ _ => exact RfOk.step O k Amb.sub h fun _ z => .inl z
theorem RelRs.step {vs : List V} {as : List A} (O : M.Ok n H) (k : Kp M.hs H H') (h : RelRs M (M.S σ e) Hs H σ e vs as) (O2 : ∀ b ∈ M.hs, Hs b ≠ none) : RelRs M (M.S σ e) Hs H' σ e vs as := by
  induction h with
  | nil => exact .nil
  | cons a _ ih => exact .cons (a.step O k O2) ih
/-- what was new later is new -/
theorem RelR.from (O : M.Ok n Hs) (k : Kp M.hs Hs H) (h : RelR M (M.S σ e) H H' σ e v a) : RelR M (M.S σ e) Hs H' σ e v a := by
  cases a with
  | d x => exact h
  | hd => exact h
  | ol xs =>
    obtain ⟨a, vs, e1, e2, e3, e4, e5⟩ := h
    exact ⟨a, vs, e1, k.free e2 (fun z => e3 (Amb.sub a z)), e3, e4, e5⟩
  | od xs =>
    obtain ⟨a, vs, e1, e2, e3, e4, e5⟩ := h
    exact ⟨a, vs, e1, k.free e2 (fun z => e3 (Amb.sub a z)), e3, e4, e5⟩
  | ot w xs =>
    obtain ⟨a, vs, e1, e2, e3, e4, e5⟩ := h
    exact ⟨a, vs, e1, k.free e2 (fun z => e3 (Amb.sub a z)), e3, e4, e5⟩
  | «at» i => exact h
  | ty s => exact h
  | rf _ _ _ => exact h
theorem PostE.from {q : AQ} {Q : VK} (O : M.Ok n H) (k : Kp M.hs H H') (h : PostE M H σ e q Q) : PostE M H' σ e q Q :=
  fun v H2 a m qa R k2 r => h v H2 a m qa R (k.trans k2) (r.from O k)
theorem PostT.from {q : Bool → Nat → Prop} {Q : Bool → Hp → Prop} (k : Kp M.hs H H') (h : PostT M H σ e q Q) : PostT M H' σ e q Q :=
  fun b H2 m qa R k2 => h b H2 m qa R (k.trans k2)
theorem Rep.thereH (R : Rep M n H σ e) : ∀ b ∈ M.hs, H b ≠ none := R.ok.there
/-- a step that keeps all but the hand and the tables -/
theorem Rep.step (R : Rep M n H σ e) (k : Kp M.hs H H') (O : M.Ok m H') : Rep M m H' σ e := by
  have get : ∀ a, H a ≠ none → a ∉ M.hs → H' a ≠ none := fun a h1 h2 => by
    cases q : H a with
    | none => exact (h1 q).elim
    | some o => rw [k a o h2 q]; intro z; cases z
  refine ⟨R.len, fun i a ha => ?_, R.inj, O, R.kp.trans k, fun a ha => ?_, R.hs0, R.sep, fun p hp => Dz.step R.ok k Amb.sub (R.pin p hp) fun _ z => .inl z⟩
  · obtain ⟨v, h1, h2⟩ := R.slot i a ha
    refine ⟨v, h1, ?_⟩
    cases a with
    | d x => exact Dz.step R.ok k Amb.sub h2 fun _ z => .inl z
    | hd => exact h2
    | ol xs =>
      obtain ⟨a, vs, e1, e2, e3, e4⟩ := h2
      subst e1
      exact ⟨a, vs, rfl, e2, k a _ (R.own_hs ⟨i, _, h1, ha, trivial⟩) e3, Dzs.step R.ok k Amb.sub e4 fun _ z => .inl z⟩
    | od xs =>
      obtain ⟨a, vs, e1, e2, e3, e4⟩ := h2
      subst e1
      exact ⟨a, vs, rfl, e2, k a _ (R.own_hs ⟨i, _, h1, ha, trivial⟩) e3, Dzk.step R.ok k Amb.sub e4 fun _ z => .inl z⟩
    | ot w xs =>
      obtain ⟨a, vs, e1, e2, e3, e4⟩ := h2
      subst e1
      exact ⟨a, vs, rfl, e2, k a _ (R.own_hs ⟨i, _, h1, ha, trivial⟩) e3, Dzt.step R.ok k Amb.sub e4 fun _ z => .inl z⟩
    | «at» i => exact h2
    | ty s => exact h2
    | rf _ _ _ => exact RfOk.step R.ok k Amb.sub h2 fun _ z => .inl z
  · by_cases hh : a ∈ M.hs
    · exact O.there a hh
    · exact get a (R.s0 a ha) hh
theorem Amb.Ok.new {p : Addr} {o : HO} (O : M.Ok n H) (hp : H p = none) : M.Ok n (upd H p o) := by
  refine ⟨fun h q => M.hp.keep (O.hand h q) (Kp.new (ms := []) hp) (by simp) none0, fun t ht => ?_⟩
  exact TabX.keep (O.tabs t ht) (Kp.new (ms := []) hp) (by simp) none0
theorem Rep.new {p : Addr} {o : HO} (R : Rep M n H σ e) (hp : H p = none) : Rep M n (upd H p o) σ e := R.step (Kp.new hp) (R.ok.new hp)
theorem Rep.nS (R : Rep M n H σ e) {p : Addr} (hp : H p = none) : ¬ M.S σ e p := fun z => R.there z hp
/-! ### views -/
def A.rd (e : AEnv) : A → Option PyData
  | .d x => some x
  | .ot _ _ => none
  | .ol xs => some (.list xs)
  | .od xs => some (.dict xs)
  | .hd => none
  | .ty _ => none
  | .rf _ _ _ => none
  | .at i => match e[i]? with
    | some (some (.ol xs)) => some (.list xs)
    | some (some (.od xs)) => some (.dict xs)
    | _ => none
def A.sto : A → Option PyData
  | .d x => some x
  | .ot _ _ => none
  | .ol xs => some (.list xs)
  | .od xs => some (.dict xs)
  | .hd => none
  | .ty _ => none
  | .rf _ _ _ => none
  | .at _ => none
/-- data that may be read: a list, a dict of which the parts are apart -/
def Rdv (K : PySem.W.Frag) (S : Addr → Prop) (H : Hp) (v : V) (x : PyData) : Prop :=
  (∃ a vs ds, x = .list ds ∧ v = .ref a ∧ H a = some (.lst vs) ∧ Dzs K S H vs ds) ∨ (∃ a vs ds, x = .dict ds ∧ v = .ref a ∧ H a = some (.dK vs) ∧ Dzk K S H vs ds) ∨ Dz K S H v x
theorem RelR.rdv (R : Rep M n H σ e) (h : RelR M (M.S σ e) Hs H σ e v a) {x : PyData} (hx : a.rd e = some x) : Rdv M.K (M.S σ e) H v x := by
  cases a with
  | d y => cases hx; exact .inr (.inr h)
  | hd => cases hx
  | ol xs =>
    obtain ⟨a, vs, e1, e2, e3, e4, e5⟩ := h
    cases hx
    exact .inl ⟨a, vs, xs, rfl, e1, e4, e5.weak fun _ z => .inl (.inr z)⟩
  | od xs =>
    obtain ⟨a, vs, e1, e2, e3, e4, e5⟩ := h
    cases hx
    exact .inr (.inl ⟨a, vs, xs, rfl, e1, e4, e5.weak fun _ z => .inl (.inr z)⟩)
  | ot w xs => cases hx
  | ty s => cases hx
  | rf _ _ _ => cases hx
  | «at» i =>
    obtain ⟨h1, y, h2, h3⟩ := h
    rw [A.rd, h2] at hx
    obtain ⟨w, h4, h5⟩ := R.slot i y h2
    rw [h1] at h4; cases h4
    cases y with
    | ol xs =>
      cases hx
      obtain ⟨a, vs, e1, _, e3, e4⟩ := h5
      exact .inl ⟨a, vs, xs, rfl, e1, e3, e4⟩
    | od xs =>
      cases hx
      obtain ⟨a, vs, e1, _, e3, e4⟩ := h5
      exact .inr (.inl ⟨a, vs, xs, rfl, e1, e3, e4⟩)
    | ot w xs => cases hx
    | d x => exact h3.elim
    | hd => exact h3.elim
    | «at» i => exact h3.elim
    | ty s => exact h3.elim
    | rf _ _ _ => exact h3.elim
theorem RelR.sto (h : RelR M (M.S σ e) Hs H σ e v a) {x : PyData} (hx : a.sto = some x) : Dz M.K (M.S σ e) H v x := by
  cases a with
  | d y => cases hx; exact h
  | hd => cases hx
  | ol xs =>
    obtain ⟨a, vs, e1, e2, e3, e4, e5⟩ := h
    cases hx
    subst e1
    exact .lst e3 e4 (e5.weak fun _ z => .inl (.inr z))
  | od xs =>
    obtain ⟨a, vs, e1, e2, e3, e4, e5⟩ := h
    cases hx
    subst e1
    exact .dic e3 e4 (e5.weak fun _ z => .inl (.inr z))
  | ot w xs => cases hx
  | «at» i => cases hx
  | ty s => cases hx
  | rf _ _ _ => cases hx
/-- .. even apart from one that came later -/
theorem Rdv.all {K : PySem.W.Frag} {S : Addr → Prop} {x : PyData} (h : Rdv K S H v x) : Dz K (fun _ => False) H v x := by
  rcases h with ⟨a, vs, ds, rfl, rfl, h1, h2⟩ | ⟨a, vs, ds, rfl, rfl, h1, h2⟩ | h
  · exact .lst (fun z => z) h1 (h2.weak fun _ z => z.elim)
  · exact .dic (fun z => z) h1 (h2.weak fun _ z => z.elim)
  · exact h.weak fun _ z => z.elim
theorem Rdv.list {K : PySem.W.Frag} {S : Addr → Prop} {ds : List PyData} (h : Rdv K S H v (.list ds)) : ∃ a vs, v = .ref a ∧ H a = some (.lst vs) ∧ Dzs K S H vs ds := by
  rcases h with ⟨a, vs, ds', e, rfl, h1, h2⟩ | ⟨a, vs, ds, e, rfl, h1, h2⟩ | h
  · cases e; exact ⟨a, vs, rfl, h1, h2⟩
  · cases e
  · cases h with
    | lst a b c => exact ⟨_, _, rfl, b, c⟩
theorem Rdv.tuple {K : PySem.W.Frag} {S : Addr → Prop} {ds : List PyData} (h : Rdv K S H v (.tuple ds)) : ∃ a vs, v = .ref a ∧ SqT K H a vs ∧ Dzs K S H vs ds := by
  rcases h with ⟨a, vs, ds', e, rfl, h1, h2⟩ | ⟨a, vs, ds, e, rfl, h1, h2⟩ | h
  · cases e
  · cases e
  · cases h with
    | tup b c => exact ⟨_, _, rfl, b, c⟩
theorem Rdv.dict {K : PySem.W.Frag} {S : Addr → Prop} {ds : List (PyData × PyData)} (h : Rdv K S H v (.dict ds)) : ∃ a vs, v = .ref a ∧ H a = some (.dK vs) ∧ Dzk K S H vs ds := by
  rcases h with ⟨a, vs, ds', e, rfl, h1, h2⟩ | ⟨a, vs, ds', e, rfl, h1, h2⟩ | h
  · cases e
  · cases e; exact ⟨a, vs, rfl, h1, h2⟩
  · cases h with
    | dic a b c => exact ⟨_, _, rfl, b, c⟩
theorem Rdv.dz {K : PySem.W.Frag} {S : Addr → Prop} {x : PyData} (h : Rdv K S H v x) (n1 : ∀ ds, x ≠ .list ds) (n2 : ∀ ds, x ≠ .dict ds) : Dz K S H v x := by
  rcases h with ⟨a, vs, ds', e, rfl, h1, h2⟩ | ⟨a, vs, ds', e, rfl, h1, h2⟩ | h
  · exact (n1 _ e).elim
  · exact (n2 _ e).elim
  · exact h
/-! ### names, constants -/
def aVar (i : Nat) : AW := fun e n q => ∃ a, e[i]? = some (some a) ∧ q (match a with | .ol _ => .at i | .od _ => .at i | .ot _ _ => .at i | a => a) n
theorem ab_var {i : Nat} : AbE L (tVar i) (aVar i) := by
  intro M n H σ e q Q _ R h p
  obtain ⟨a, h1, h2⟩ := h
  obtain ⟨v, h3, h4⟩ := R.slot i a h1
  refine ⟨v, h3, p v H _ n h2 R (Kp.refl _ _) ?_⟩
  cases a with
  | d x => exact h4
  | hd => exact h4
  | ol xs => exact ⟨h3, _, h1, trivial⟩
  | od xs => exact ⟨h3, _, h1, trivial⟩
  | ot w xs => exact ⟨h3, _, h1, trivial⟩
  | «at» i => exact h4.elim
  | ty s => exact h4.elim
  | rf _ _ _ => exact h4
def aC (x : PyData) : AW := fun _ n q => q (.d x) n
theorem ab_int {i : Int} : AbE L (tC (.int i)) (aC (.int i)) := fun M n H σ e q Q _ R h p => p _ H _ n h R (Kp.refl _ _) (.int i)
theorem ab_str {i : Str} : AbE L (tC (.str i)) (aC (.str i)) := fun M n H σ e q Q _ R h p => p _ H _ n h R (Kp.refl _ _) (.str i)
theorem ab_bl {i : Bool} : AbE L (tC (.bl i)) (aC (.bool i)) := fun M n H σ e q Q _ R h p => p _ H _ n h R (Kp.refl _ _) (.bl i)
theorem ab_non : AbE L (tC .non) (aC .none) := fun M n H σ e q Q _ R h p => p _ H _ n h R (Kp.refl _ _) .non
/-! ### two-place operations by values -/
def OpA (L : La) (r : R2) (f : A → A → AW) : Prop := ∀ M n H Hs σ e x y a b q Q, L.Of M → Rep M n H σ e → RelR M (M.S σ e) Hs H σ e x a → RelR M (M.S σ e) Hs H σ e y b → f a b e n q → PostE M H σ e q Q → r x y H Q
def aOp (f : A → A → AW) (wa wb : AW) : AW := fun e n q => wa e n fun a m => wb e m fun b k => f a b e k q
theorem ab_op {r : R2} {f : A → A → AW} {ta tb : TE} {wa wb : AW} (o : OpA L r f) (ha : AbE L ta wa) (hb : AbE L tb wb) : AbE L (tOp r ta tb) (aOp f wa wb) := by
  intro M n H σ e q Q l R h p
  refine ha M n H σ e _ _ l R h fun x H1 a m h1 R1 k1 r1 => ?_
  refine hb M m H1 σ e _ _ l R1 h1 fun y H2 b k h2 R2 k2 r2 => ?_
  exact o M k H2 H σ e x y a b q Q l R2 (r1.step R1.ok k2 R.ok.there) (r2.from R.ok k1) h2 (p.from R.ok (k1.trans k2))
/-! ### tests -/
def aTest (w : AW) : ATW := fun e n q => w e n fun a m => ∃ b, a = .d (.bool b) ∧ q b m
theorem relBool {b : Bool} (h : RelR M (M.S σ e) Hs H σ e v (.d (.bool b))) : v = .bl b := by cases h; rfl
theorem ab_test {t : TE} {w : AW} (h : AbE L t w) : AbT L (tTest t) (aTest w) := by
  intro M n H σ e q Q l R hw p
  refine h M n H σ e _ _ l R hw fun x H1 a m h1 R1 k1 r1 => ?_
  obtain ⟨b, rfl, h1⟩ := h1
  exact ⟨b, relBool r1, p b H1 m h1 R1 k1⟩
theorem ab_tB {t : TE} {w : AW} (h : AbE L t w) : AbT L (tB t) (aTest w) := by
  intro M n H σ e q Q l R hw p
  refine h M n H σ e _ _ l R hw fun x H1 a m h1 R1 k1 r1 => ?_
  obtain ⟨b, rfl, h1⟩ := h1
  exact ⟨b, relBool r1, p b H1 m h1 R1 k1⟩
/-- truth of data -/
def truD : PyData → Bool
  | .none => false
  | .bool b => b
  | .int i => i != 0
  | .str s => (s.length : Int) != 0
  | .list xs => !xs.isEmpty
  | .tuple xs => !xs.isEmpty
  | .dict xs => !xs.isEmpty
def truOk : PyData → Prop
  | .str s => s.length ≤ sizeLine
  | .dict _ => False
  | _ => True
def aTru (w : AW) : ATW := fun e n q => w e n fun a m => ∃ x, a.rd e = some x ∧ truOk x ∧ q (truD x) m
theorem Dzs.isEmpty {K : PySem.W.Frag} {S : Addr → Prop} {vs : List V} {ds : List PyData} (h : Dzs K S H vs ds) : vs.isEmpty = ds.isEmpty := by cases h <;> rfl
theorem ab_tru {t : TE} {w : AW} (h : AbE L t w) : AbT L (fun σ H Q => t σ H fun x H' => ∃ k, TruV L.K x H' k ∧ Q k H') (aTru w) := by
  intro M n H σ e q Q l R hw p
  refine h M n H σ e _ _ l R hw fun v H1 a m h1 R1 k1 r1 => ?_
  obtain ⟨x, h2, h3, h4⟩ := h1
  have rv := r1.rdv R1 h2
  refine ⟨truD x, ?_, p _ H1 m h4 R1 k1⟩
  rw [l.1] at rv
  cases x with
  | list ds => obtain ⟨a, vs, rfl, g1, g2⟩ := rv.list; exact .inl ⟨_, SqL.of g1, by rw [g2.isEmpty]; rfl⟩
  | tuple ds => obtain ⟨a, vs, rfl, g1, g2⟩ := rv.tuple; exact .inr (.inl ⟨_, g1, by rw [g2.isEmpty]; rfl⟩)
  | dict ds => exact h3.elim
  | none => cases rv.dz (by simp) (by simp); rfl
  | bool b => cases rv.dz (by simp) (by simp); rfl
  | int b => cases rv.dz (by simp) (by simp); rfl
  | str b => cases rv.dz (by simp) (by simp); exact ⟨h3, rfl⟩
def aAnd (t u : ATW) : ATW := fun e n q => t e n fun c m => if c = true then u e m q else q false m
def aOr (t u : ATW) : ATW := fun e n q => t e n fun c m => if c = true then q true m else u e m q
def aNot (t : ATW) : ATW := fun e n q => t e n fun c m => q (!c) m
theorem ab_and {t u : TT} {w x : ATW} (h : AbT L t w) (h' : AbT L u x) : AbT L (tAnd t u) (aAnd w x) := by
  intro M n H σ e q Q l R hw p
  refine h M n H σ e _ _ l R hw fun b H1 m h1 R1 k1 => ?_
  cases b with
  | true => exact h' M m H1 σ e q Q l R1 h1 (p.from k1)
  | false => exact p _ _ m h1 R1 k1
theorem ab_or {t u : TT} {w x : ATW} (h : AbT L t w) (h' : AbT L u x) : AbT L (tOr t u) (aOr w x) := by
  intro M n H σ e q Q l R hw p
  refine h M n H σ e _ _ l R hw fun b H1 m h1 R1 k1 => ?_
  cases b with
  | false => exact h' M m H1 σ e q Q l R1 h1 (p.from k1)
  | true => exact p _ _ m h1 R1 k1
theorem ab_not {t : TT} {w : ATW} (h : AbT L t w) : AbT L (tNot t) (aNot w) := by
  intro M n H σ e q Q l R hw p
  exact h M n H σ e _ _ l R hw fun b H1 m h1 R1 k1 => p _ _ m h1 R1 k1
def aAndV (t u : AW) : AW := fun e n q => t e n fun a m => ∃ c, a = .d (.bool c) ∧ if c = true then u e m q else q (.d (.bool false)) m
def aOrV (t u : AW) : AW := fun e n q => t e n fun a m => ∃ c, a = .d (.bool c) ∧ if c = true then q (.d (.bool true)) m else u e m q
def aNotV (t : AW) : AW := fun e n q => t e n fun a m => ∃ c, a = .d (.bool c) ∧ q (.d (.bool (!c))) m
theorem ab_andV {t u : TE} {w x : AW} (h : AbE L t w) (h' : AbE L u x) : AbE L (tAndV t u) (aAndV w x) := by
  intro M n H σ e q Q l R hw p
  refine h M n H σ e _ _ l R hw fun v H1 a m h1 R1 k1 r1 => ?_
  obtain ⟨c, rfl, h1⟩ := h1
  refine ⟨c, relBool r1, ?_⟩
  cases c with
  | true => exact h' M m H1 σ e q Q l R1 h1 (p.from R.ok k1)
  | false => exact p _ _ _ m h1 R1 k1 (.bl false)
theorem ab_orV {t u : TE} {w x : AW} (h : AbE L t w) (h' : AbE L u x) : AbE L (tOrV t u) (aOrV w x) := by
  intro M n H σ e q Q l R hw p
  refine h M n H σ e _ _ l R hw fun v H1 a m h1 R1 k1 r1 => ?_
  obtain ⟨c, rfl, h1⟩ := h1
  refine ⟨c, relBool r1, ?_⟩
  cases c with
  | false => exact h' M m H1 σ e q Q l R1 h1 (p.from R.ok k1)
  | true => exact p _ _ _ m h1 R1 k1 (.bl true)
theorem ab_notV {t : TE} {w : AW} (h : AbE L t w) : AbE L (tNotV t) (aNotV w) := by
  intro M n H σ e q Q l R hw p
  refine h M n H σ e _ _ l R hw fun v H1 a m h1 R1 k1 r1 => ?_
  obtain ⟨c, rfl, h1⟩ := h1
  exact ⟨c, relBool r1, p _ _ _ m h1 R1 k1 (.bl _)⟩
def aIf (t : ATW) (u x : AW) : AW := fun e n q => t e n fun c m => if c = true then u e m q else x e m q
theorem ab_if {t : TT} {ta tb : TE} {w : ATW} {wa wb : AW} (h : AbT L t w) (ha : AbE L ta wa) (hb : AbE L tb wb) : AbE L (tIf t ta tb) (aIf w wa wb) := by
  intro M n H σ e q Q l R hw p
  refine h M n H σ e _ _ l R hw fun b H1 m h1 R1 k1 => ?_
  cases b with
  | true => exact ha M m H1 σ e q Q l R1 h1 (p.from R.ok k1)
  | false => exact hb M m H1 σ e q Q l R1 h1 (p.from R.ok k1)
def aChain (f g : A → A → AW) (wa wb wc : AW) : AW := fun e n q => wa e n fun a m => wb e m fun b k => f a b e k fun c k2 => ∃ x, c = .d (.bool x) ∧ if x = true then wc e k2 fun d k3 => g b d e k3 q else q (.d (.bool false)) k2
/-! ### arguments -/
def aNil : AAW := fun _ n q => q [] n
def aCons (w : AW) (r : AAW) : AAW := fun e n q => w e n fun a m => r e m fun as k => q (a :: as) k
theorem ab_nil : AbA L tNil aNil := fun M n H σ e q Q l R hw p => p [] H [] n hw R (Kp.refl _ _) .nil
theorem ab_cons {t : TE} {r : TA} {w : AW} {x : AAW} (h : AbE L t w) (h' : AbA L r x) : AbA L (tCons t r) (aCons w x) := by
  intro M n H σ e q Q l R hw p
  refine h M n H σ e _ _ l R hw fun v H1 a m h1 R1 k1 r1 => ?_
  refine h' M m H1 σ e _ _ l R1 h1 fun vs H2 as k h2 R2 k2 r2 => ?_
  refine p _ _ _ k h2 R2 (k1.trans k2) (.cons (r1.step R1.ok k2 R.ok.there) ?_)
  clear h2 p
  induction r2 with
  | nil => exact .nil
  | cons a _ ih => exact .cons (a.from R.ok k1) ih
def stos : List A → Option (List PyData)
  | [] => some []
  | a :: r => match a.sto, stos r with
    | some x, some xs => some (x :: xs)
    | _, _ => none
theorem RelRs.sto {vs : List V} {as : List A} (h : RelRs M (M.S σ e) Hs H σ e vs as) : ∀ {xs : List PyData}, stos as = some xs → Dzs M.K (M.S σ e) H vs xs := by
  induction h with
  | nil => intro xs hx; cases hx; exact .nil
  | @cons v vs a as r _ ih =>
    intro xs hx
    rw [stos] at hx
    cases h1 : a.sto with
    | none => rw [h1] at hx; cases hx
    | some x =>
      cases h2 : stos as with
      | none => rw [h1, h2] at hx; cases hx
      | some ys =>
        rw [h1, h2] at hx
        cases hx
        exact .cons (r.sto h1) (ih h2)
def aTup (w : AAW) : AW := fun e n q => w e n fun as m => ∃ xs, stos as = some xs ∧ xs.length ≤ sizeLine ∧ q (.d (.tuple xs)) m
def aLst (w : AAW) : AW := fun e n q => w e n fun as m => ∃ xs, stos as = some xs ∧ xs.length ≤ sizeLine ∧ q (.ol xs) m
/-- a new list -/
theorem Dzs.fresh {S : Addr → Prop} {vs : List V} {xs : List PyData} {p : Addr} {o : HO} (R : Rep M n H σ e) (hp : H p = none) (h : Dzs M.K (M.S σ e) H vs xs) : Dzs M.K (fun b => b = p ∨ M.S σ e b) (upd H p o) vs xs :=
  Dzs.step R.ok (Kp.new hp) Amb.sub h fun a z => by rcases z with rfl | z; exact .inr hp; exact .inl z
theorem Dzk.fresh {S : Addr → Prop} {vs : List (Key × V)} {xs : List (PyData × PyData)} {p : Addr} {o : HO} (R : Rep M n H σ e) (hp : H p = none) (h : Dzk M.K (M.S σ e) H vs xs) : Dzk M.K (fun b => b = p ∨ M.S σ e b) (upd H p o) vs xs :=
  Dzk.step R.ok (Kp.new hp) Amb.sub h fun a z => by rcases z with rfl | z; exact .inr hp; exact .inl z
theorem relNewL {vs : List V} {xs : List PyData} {p : Addr} (R : Rep M n H σ e) (hp : H p = none) (h : Dzs M.K (M.S σ e) H vs xs) : RelR M (M.S σ e) H (upd H p (.lst vs)) σ e (.ref p) (.ol xs) :=
  ⟨p, vs, rfl, hp, R.nS hp, upd_same, h.fresh (S := M.S σ e) R hp⟩
theorem relNewT {vs : List V} {xs : List PyData} {p : Addr} (R : Rep M n H σ e) (hp : H p = none) (h : Dzs M.K (M.S σ e) H vs xs) : RelR M (M.S σ e) H (upd H p (.tup vs)) σ e (.ref p) (.d (.tuple xs)) :=
  .tup (SqT.of upd_same) ((h.fresh (S := M.S σ e) R hp).weak fun _ z => .inl (.inr z))
theorem ab_tup {t : TA} {w : AAW} (h : AbA L t w) : AbE L (tTup t) (aTup w) := by
  intro M n H σ e q Q l R hw p
  refine h M n H σ e _ _ l R hw fun vs H1 as m h1 R1 k1 r1 => ?_
  obtain ⟨xs, h2, h3, h4⟩ := h1
  have hz := r1.sto h2
  refine ⟨by rw [hz.length]; exact h3, fun p' hp => ?_⟩
  exact p.from R.ok k1 _ _ _ m h4 (R1.new hp) (Kp.new hp) (relNewT R1 hp hz)
theorem ab_lst {t : TA} {w : AAW} (h : AbA L t w) : AbE L (tLst t) (aLst w) := by
  intro M n H σ e q Q l R hw p
  refine h M n H σ e _ _ l R hw fun vs H1 as m h1 R1 k1 r1 => ?_
  obtain ⟨xs, h2, h3, h4⟩ := h1
  have hz := r1.sto h2
  refine ⟨by rw [hz.length]; exact h3, fun p' hp => ?_⟩
  exact p.from R.ok k1 _ _ _ m h4 (R1.new hp) (Kp.new hp) (relNewL R1 hp hz)
/-! ### calls of built-ins by values -/
def CbA (L : La) (r : List V → Hp → VK → Prop) (f : List A → AW) : Prop := ∀ M n H Hs σ e vs as q Q, L.Of M → Rep M n H σ e → RelRs M (M.S σ e) Hs H σ e vs as → f as e n q → PostE M H σ e q Q → r vs H Q
def aCB (f : List A → AW) (w : AAW) : AW := fun e n q => w e n fun as m => f as e m q
theorem ab_cb {r : List V → Hp → VK → Prop} {f : List A → AW} {t : TA} {w : AAW} (o : CbA L r f) (h : AbA L t w) : AbE L (tCB r t) (aCB f w) := by
  intro M n H σ e q Q l R hw p
  refine h M n H σ e _ _ l R hw fun vs H1 as m h1 R1 k1 r1 => ?_
  exact o M m H1 H σ e vs as q Q l R1 r1 h1 (p.from R.ok k1)
/-! ### defs -/
abbrev FS := List A → Nat → AQ → Prop
inductive ArgsOk (M : Amb) (H : Hp) : List V → List A → Prop
  | nil : ArgsOk M H [] []
  | d {v vs x as} : Dz M.K (fun a => a ∈ M.hs ∨ M.S0 a) H v x → ArgsOk M H vs as → ArgsOk M H (v :: vs) (.d x :: as)
  | hd {h vs as} : M.hand = some h → ArgsOk M H vs as → ArgsOk M H (.ref h :: vs) (.hd :: as)
  | rf {v f ks ps vs as} : RfOk M.K (fun a => a ∈ M.hs ∨ M.S0 a) H v f ks ps → ArgsOk M H vs as → ArgsOk M H (v :: vs) (.rf f ks ps :: as)
def RetOk (M : Amb) (H0 H : Hp) (v : V) : A → Prop
  | .d x => Dz M.K (fun a => a ∈ M.hs ∨ M.S0 a) H v x
  | .ol xs => ∃ a vs, v = .ref a ∧ H0 a = none ∧ H a = some (.lst vs) ∧ Dzs M.K (fun b => b = a ∨ b ∈ M.hs ∨ M.S0 b) H vs xs
  | .od xs => ∃ a vs, v = .ref a ∧ H0 a = none ∧ H a = some (.dK vs) ∧ Dzk M.K (fun b => b = a ∨ b ∈ M.hs ∨ M.S0 b) H vs xs
  | .ot w xs => ∃ a vs, v = .ref a ∧ H0 a = none ∧ H a = some (dTX w a vs) ∧ Dzt M.K (fun b => b = a ∨ b ∈ M.hs ∨ M.S0 b) H vs xs
  | _ => False
/-- what a def promises, told of data -/
def spA (L : La) (F : FS) : Sp := fun vs H Q _ => ∃ (M : Amb) (as : List A) (n : Nat) (q : AQ), L.Of M ∧ M.H0 = H ∧ (∀ a, M.S0 a → H a ≠ none) ∧ M.Ok n H ∧ M.pins = [] ∧ M.st = true ∧ ArgsOk M H vs as ∧ F as n q ∧
  ∀ v H' a m, q a m → Kp M.hs H H' → M.Ok m H' → RetOk M H H' v a → Q v H'
def args : List A → Option (List A)
  | [] => some []
  | .hd :: r => (args r).map (.hd :: ·)
  | .rf f ks ps :: r => (args r).map (.rf f ks ps :: ·)
  | a :: r => match a.sto, args r with
    | some x, some xs => some (.d x :: xs)
    | _, _ => none
theorem argsOf {S0 : Addr → Prop} {N : Amb} {vs : List V} {as : List A} (R : Rep M n H σ e) (h : RelRs M (M.S σ e) Hs H σ e vs as) (e1 : N.K = M.K) (e2 : N.hand = M.hand) (e3 : N.tabs = M.tabs) (e4 : ∀ a, N.S0 a → M.S σ e a) :
    ∀ {bs : List A}, args as = some bs → ArgsOk N H vs bs := by
  have hs : N.hs = M.hs := by unfold Amb.hs; rw [e2, e3]
  have sub : ∀ a, (a ∈ N.hs ∨ N.S0 a) → M.S σ e a := fun a z => by
    rcases z with z | z
    · rw [hs] at z; exact Amb.sub a z
    · exact e4 a z
  induction h with
  | nil => intro bs hb; cases hb; exact .nil
  | @cons v vs a as r _ ih =>
    intro bs hb
    cases a with
    | hd =>
      rw [args] at hb
      obtain ⟨cs, h1, rfl⟩ := Option.map_eq_some_iff.mp hb
      obtain ⟨h, h2, rfl⟩ := r
      exact .hd (by rw [e2]; exact h2) (ih h1)
    | rf f ks ps =>
      rw [args] at hb
      obtain ⟨cs, h1, rfl⟩ := Option.map_eq_some_iff.mp hb
      refine .rf ?_ (ih h1)
      rw [e1]
      exact RfOk.weak r fun a z => .inl (sub a z)
    | «at» i => simp [args, A.sto] at hb
    | ty s => simp [args, A.sto] at hb
    | d x =>
      simp only [args, A.sto] at hb
      cases h1 : args as with
      | none => rw [h1] at hb; cases hb
      | some cs =>
        rw [h1] at hb
        cases hb
        refine .d ?_ (ih h1)
        rw [e1]
        exact Dz.weak r fun a z => .inl (sub a z)
    | ol x =>
      simp only [args, A.sto] at hb
      cases h1 : args as with
      | none => rw [h1] at hb; cases hb
      | some cs =>
        rw [h1] at hb
        cases hb
        refine .d ?_ (ih h1)
        rw [e1]
        exact Dz.weak (RelR.sto r rfl) fun a z => .inl (sub a z)
    | od x =>
      simp only [args, A.sto] at hb
      cases h1 : args as with
      | none => rw [h1] at hb; cases hb
      | some cs =>
        rw [h1] at hb
        cases hb
        refine .d ?_ (ih h1)
        rw [e1]
        exact Dz.weak (RelR.sto r rfl) fun a z => .inl (sub a z)
    | ot w x => simp [args, A.sto] at hb
def aCall (F : FS) (w : AAW) : AW := fun e n q => w e n fun as m => ∃ bs, args as = some bs ∧ F bs m q
/-- the ambience in which a callee runs -/
def Amb.sub' (M : Amb) (H : Hp) (S : Addr → Prop) : Amb := { K := M.K, H0 := H, S0 := S, hand := M.hand, tabs := M.tabs, pins := [], st := true, lt := M.lt, hp := M.hp }
theorem retRel {N : Amb} (R : Rep M n H σ e) (e1 : N.K = M.K) (hs : N.hs = M.hs) (e4 : ∀ a, M.S σ e a → a ∈ N.hs ∨ N.S0 a) (h : RetOk N H H' v a) : RelR M (M.S σ e) H H' σ e v a := by
  cases a with
  | d x => have h : Dz N.K _ H' v x := h; rw [e1] at h; exact h.weak fun a z => .inl (e4 a z)
  | hd => exact h.elim
  | «at» i => exact h.elim
  | ty s => exact h.elim
  | rf _ _ _ => exact h.elim
  | ol xs =>
    obtain ⟨a, vs, h1, h2, h3, h4⟩ := h
    refine ⟨a, vs, h1, h2, R.nS h2, h3, ?_⟩
    rw [e1] at h4
    exact h4.weak fun a z => .inl (by rcases z with z | z; exact .inl z; exact .inr (e4 a z))
  | od xs =>
    obtain ⟨a, vs, h1, h2, h3, h4⟩ := h
    refine ⟨a, vs, h1, h2, R.nS h2, h3, ?_⟩
    rw [e1] at h4
    exact h4.weak fun a z => .inl (by rcases z with z | z; exact .inl z; exact .inr (e4 a z))
  | ot w xs =>
    obtain ⟨a, vs, h1, h2, h3, h4⟩ := h
    refine ⟨a, vs, h1, h2, R.nS h2, h3, ?_⟩
    rw [e1] at h4
    exact h4.weak fun a z => .inl (by rcases z with z | z; exact .inl z; exact .inr (e4 a z))
theorem ab_call {F : FS} {t : TA} {w : AAW} {E : XK} (h : AbA L t w) : AbE L (tCall (spA L F) [] E t) (aCall F w) := by
  intro M n H σ e q Q l R hw p
  refine h M n H σ e _ _ l R hw fun vs H1 as m h1 R1 k1 r1 => ?_
  obtain ⟨bs, h2, h3⟩ := h1
  show spA L F (vs ++ []) H1 Q E
  rw [List.append_nil]
  refine ⟨M.sub' H1 (M.S σ e), bs, m, q, l, rfl, fun a z => R1.there z, ⟨R1.ok.hand, R1.ok.tabs⟩, rfl, rfl, argsOf (S0 := M.S σ e) (N := M.sub' H1 (M.S σ e)) R1 r1 rfl rfl rfl (fun a z => z) h2, h3, fun v H2 a k h4 k2 O2 r2 => ?_⟩
  have O3 : M.Ok k H2 := ⟨O2.hand, O2.tabs⟩
  exact p.from R.ok k1 v H2 a k h4 (R1.step k2 O3) k2 (retRel (N := M.sub' H1 (M.S σ e)) R1 rfl rfl (fun a z => .inr z) r2)
end
end Ah

namespace Ah
open PySem PySem.Spec PyProof.Rows L2
/-! ## slots set -/
section
variable {L : La} {M : Amb} {n m : Nat} {H Hs H' : Hp} {σ : L2.St} {e : AEnv} {v : V} {a : A} {i : Nat}
theorem getSet {α : Type} {l : List α} {i j : Nat} {x y : α} (h : (l.set i x)[j]? = some y) : (j = i ∧ y = x ∧ i < l.length) ∨ (j ≠ i ∧ l[j]? = some y) := by
  rw [List.getElem?_set] at h
  by_cases hj : i = j
  · rw [if_pos hj] at h
    subst hj
    by_cases hl : i < l.length
    · rw [if_pos hl] at h
      cases h
      exact .inl ⟨rfl, rfl, hl⟩
    · rw [if_neg hl] at h; cases h
  · rw [if_neg hj] at h
    exact .inr ⟨fun z => hj z.symm, h⟩
theorem setNe {α : Type} {l : List α} {i j : Nat} {x : α} (h : j ≠ i) : (l.set i x)[j]? = l[j]? := by rw [List.getElem?_set, if_neg (fun z => h z.symm)]
theorem setAt {α : Type} {l : List α} {i : Nat} {x : α} (h : i < l.length) : (l.set i x)[i]? = some x := by rw [List.getElem?_set, if_pos rfl, if_pos h]
/-- a slot set to what is no list of its own -/
theorem ownSet {x : Option A} {w : Option V} (hx : ∀ y, x = some y → ¬ y.own) {b : Addr} (h : OwnS (σ.set i w) (e.set i x) b) : OwnS σ e b := by
  obtain ⟨j, y, h1, h2, h3⟩ := h
  rcases getSet h2 with ⟨rfl, rfl, _⟩ | ⟨nj, h2⟩
  · exact (hx _ rfl h3).elim
  · rw [setNe nj] at h1
    exact ⟨j, y, h1, h2, h3⟩
theorem SetS {x : Option A} {w : Option V} (hx : ∀ y, x = some y → ¬ y.own) {b : Addr} (h : M.S (σ.set i w) (e.set i x) b) : M.S σ e b := by
  rcases h with h | h
  · exact .inl (ownSet hx h)
  · exact .inr h
theorem SlotOk.weak {S S' : Addr → Prop} (h : SlotOk M S H v a) (hs : ∀ b, S' b → S b) : SlotOk M S' H v a := by
  cases a with
  | d x => exact Dz.weak h fun b z => .inl (hs b z)
  | hd => exact h
  | ol xs => obtain ⟨a, vs, h1, h2, h3, h4⟩ := h; exact ⟨a, vs, h1, h2, h3, h4.weak fun b z => .inl (hs b z)⟩
  | od xs => obtain ⟨a, vs, h1, h2, h3, h4⟩ := h; exact ⟨a, vs, h1, h2, h3, h4.weak fun b z => .inl (hs b z)⟩
  | ot w xs => obtain ⟨a, vs, h1, h2, h3, h4⟩ := h; exact ⟨a, vs, h1, h2, h3, h4.weak fun b z => .inl (hs b z)⟩
  | «at» i => exact h
  | ty s => exact h
  | rf _ _ _ => exact RfOk.weak h fun b z => .inl (hs b z)
theorem Rep.set0 (R : Rep M n H σ e) {x : Option A} {w : Option V} (hx : ∀ y, x = some y → ¬ y.own ∧ ∃ v, w = some v ∧ SlotOk M (M.S σ e) H v y) :
    Rep M n H (σ.set i w) (e.set i x) := by
  have hn := fun y q => (hx y q).1
  refine ⟨by rw [List.length_set, List.length_set]; exact R.len, fun j a ha => ?_, fun j k y z a h1 h2 h3 h4 h5 h6 => ?_, R.ok, R.kp, R.s0, R.hs0, fun q b z => R.sep q b (ownSet hn z), fun p hp => (R.pin p hp).weak fun b z => .inl (SetS hn z)⟩
  · rcases getSet ha with ⟨rfl, rfl, hl⟩ | ⟨nj, ha⟩
    · obtain ⟨_, v, rfl, ok⟩ := hx a rfl
      exact ⟨v, setAt (by rw [R.len]; exact hl), ok.weak fun b z => SetS hn z⟩
    · obtain ⟨v, h1, h2⟩ := R.slot j a ha
      exact ⟨v, by rw [setNe nj]; exact h1, h2.weak fun b z => SetS hn z⟩
  · rcases getSet h2 with ⟨rfl, rfl, _⟩ | ⟨nj, h2⟩
    · exact (hn _ rfl h3).elim
    · rcases getSet h5 with ⟨rfl, rfl, _⟩ | ⟨nk, h5⟩
      · exact (hn _ rfl h6).elim
      · rw [setNe nj] at h1
        rw [setNe nk] at h4
        exact R.inj j k y z a h1 h2 h3 h4 h5 h6
theorem Rep.setD (R : Rep M n H σ e) {x : PyData} (h : Dz M.K (M.S σ e) H v x) : Rep M n H (σ.set i (some v)) (e.set i (some (.d x))) :=
  R.set0 fun y q => by cases q; exact ⟨fun z => z, v, rfl, h⟩
theorem Rep.setHd (R : Rep M n H σ e) (h : ∃ h, M.hand = some h ∧ v = .ref h) : Rep M n H (σ.set i (some v)) (e.set i (some .hd)) :=
  R.set0 fun y q => by cases q; exact ⟨fun z => z, v, rfl, h⟩
theorem Rep.setN (R : Rep M n H σ e) {w : Option V} : Rep M n H (σ.set i w) (e.set i none) := R.set0 fun y q => by cases q
/-- a slot set to a new list, a new dict -/
theorem Rep.setO (R0 : Rep M n Hs σ e) (k : Kp M.hs Hs H) (R : Rep M m H σ e) {c : Addr} (hv : v = .ref c) (h0 : Hs c = none) (hn : ¬ M.S σ e c) (ho : a.own)
    (hs : SlotOk M (fun b => b = c ∨ M.S σ e b) H v a) : Rep M m H (σ.set i (some v)) (e.set i (some a)) := by
  subst hv
  have own : ∀ b, OwnS (σ.set i (some (.ref c))) (e.set i (some a)) b → b = c ∨ OwnS σ e b := by
    rintro b ⟨j, y, h1, h2, h3⟩
    rcases getSet h2 with ⟨rfl, _, hl⟩ | ⟨nj, h2⟩
    · rw [setAt (by rw [R.len]; exact hl)] at h1
      cases h1
      exact .inl rfl
    · rw [setNe nj] at h1
      exact .inr ⟨j, y, h1, h2, h3⟩
  have sS : ∀ b, M.S (σ.set i (some (.ref c))) (e.set i (some a)) b → b = c ∨ M.S σ e b := by
    rintro b (h | h)
    · rcases own b h with h | h
      · exact .inl h
      · exact .inr (.inl h)
    · exact .inr (.inr h)
  have sH : ∀ b, M.S (σ.set i (some (.ref c))) (e.set i (some a)) b → M.S σ e b ∨ Hs b = none := fun b z => by
    rcases sS b z with rfl | z
    · exact .inr h0
    · exact .inl z
  refine ⟨by rw [List.length_set, List.length_set]; exact R.len, fun j x hx => ?_, fun j k y z b h1 h2 h3 h4 h5 h6 => ?_, R.ok, R.kp, R.s0, R.hs0, fun q b z => by rcases own b z with rfl | z; exact fun y => hn (.inr (.inr y)); exact R.sep q b z, fun p hp => Dz.step R0.ok k Amb.sub (R0.pin p hp) sH⟩
  · rcases getSet hx with ⟨rfl, e1, hl⟩ | ⟨nj, hx⟩
    · cases e1
      exact ⟨.ref c, setAt (by rw [R.len]; exact hl), hs.weak sS⟩
    · obtain ⟨w, h1, h2⟩ := R0.slot j x hx
      refine ⟨w, by rw [setNe nj]; exact h1, ?_⟩
      cases x with
      | d x => exact Dz.step R0.ok k Amb.sub h2 sH
      | hd => exact h2
      | ol xs =>
        obtain ⟨a, vs, e1, e2, e3, e4⟩ := h2
        subst e1
        exact ⟨a, vs, rfl, e2, k a _ (R0.own_hs ⟨j, _, h1, hx, trivial⟩) e3, Dzs.step R0.ok k Amb.sub e4 sH⟩
      | od xs =>
        obtain ⟨a, vs, e1, e2, e3, e4⟩ := h2
        subst e1
        exact ⟨a, vs, rfl, e2, k a _ (R0.own_hs ⟨j, _, h1, hx, trivial⟩) e3, Dzk.step R0.ok k Amb.sub e4 sH⟩
      | ot w xs =>
        obtain ⟨a, vs, e1, e2, e3, e4⟩ := h2
        subst e1
        exact ⟨a, vs, rfl, e2, k a _ (R0.own_hs ⟨j, _, h1, hx, trivial⟩) e3, Dzt.step R0.ok k Amb.sub e4 sH⟩
      | «at» i => exact h2
      | ty s => exact h2
      | rf _ _ _ => exact RfOk.step R0.ok k Amb.sub h2 sH
  · rcases getSet h2 with ⟨rfl, _, l2⟩ | ⟨nj, h2⟩
    · rcases getSet h5 with ⟨rfl, _, _⟩ | ⟨nk, h5⟩
      · rfl
      · rw [setAt (by rw [R.len]; exact l2)] at h1
        cases h1
        rw [setNe nk] at h4
        exact (hn (.inl ⟨k, z, h4, h5, h6⟩)).elim
    · rcases getSet h5 with ⟨ek, _, l5⟩ | ⟨nk, h5⟩
      · rw [ek, setAt (by rw [R.len]; exact l5)] at h4
        cases h4
        rw [setNe nj] at h1
        exact (hn (.inl ⟨j, y, h1, h2, h3⟩)).elim
      · rw [setNe nj] at h1
        rw [setNe nk] at h4
        exact R.inj j k y z b h1 h2 h3 h4 h5 h6
/-- the own list, the own dict in slot i otherwise filled -/
theorem Rep.putO (R : Rep M n H σ e) {c : Addr} {o : HO} {x : A} (h1 : σ[i]? = some (some (.ref c))) (h2 : e[i]? = some (some x)) (h3 : x.own) (ho : a.own) (hl : ∀ xs, o ≠ .tup xs) (hf : ∀ q u, o ≠ .frz q u)
    (hs : SlotOk M (M.S σ e) (upd H c o) (.ref c) a) : Rep M n (upd H c o) σ (e.set i (some a)) := by
  have oc : OwnS σ e c := ⟨i, x, h1, h2, h3⟩
  have sc : M.S σ e c := .inl oc
  have chs := R.own_hs oc
  have nc := R.own_new oc
  have il : i < e.length := by
    rw [List.getElem?_eq_some_iff] at h2
    exact h2.1
  have keep : ∀ b q, ¬ M.S σ e b → H b = some q → upd H c o b = some q := fun b q hb hq => by
    rw [upd_ne (fun z => hb (by rw [z]; exact sc))]; exact hq
  have isL : ∀ u, H c ≠ some (.tup u) ∧ ∀ q w, H c ≠ some (.frz q w) := fun u => by
    rcases R.ownThere oc with ⟨vs, e⟩ | ⟨vs, e⟩ | ⟨w, vs, e⟩ <;> rw [e] <;> exact ⟨by simp, by simp⟩
  have tup : ∀ b xs, SqT M.K H b xs → SqT M.K (upd H c o) b xs := fun b xs hb => by
    refine SqT.kp (ms := [c]) (Kp.put (by simp)) (fun q hq => ?_) hb
    rw [List.mem_singleton.mp hq]
    exact ⟨fun xs => (isL xs).1, fun q u => (isL []).2 q u⟩
  have own : ∀ b, OwnS σ (e.set i (some a)) b → OwnS σ e b := by
    rintro b ⟨j, y, q1, q2, q3⟩
    rcases getSet q2 with ⟨rfl, _, _⟩ | ⟨nj, q2⟩
    · rw [h1] at q1; cases q1; exact oc
    · exact ⟨j, y, q1, q2, q3⟩
  have sS : ∀ b, M.S σ (e.set i (some a)) b → M.S σ e b := fun b z => by
    rcases z with z | z
    · exact .inl (own b z)
    · exact .inr z
  have ne : ∀ {h}, h ∈ M.hs → h ≠ c := fun {h} hh z => chs (by rw [← z]; exact hh)
  refine ⟨by rw [List.length_set]; exact R.len, fun j y hy => ?_, fun j k y z b q1 q2 q3 q4 q5 q6 => ?_, ⟨fun h q => ?_, fun t ht => ?_⟩, R.kp.put0 nc, fun b hb => ?_, R.hs0, fun q b z => R.sep q b (own b z), fun p hp => Dz.map keep tup (fun b z => .inl (sS b z)) (R.pin p hp)⟩
  · rcases getSet hy with ⟨rfl, e1, _⟩ | ⟨nj, hy⟩
    · cases e1
      exact ⟨.ref c, h1, hs.weak sS⟩
    · obtain ⟨w, q1, q2⟩ := R.slot j y hy
      refine ⟨w, q1, ?_⟩
      cases y with
      | d x => exact Dz.map keep tup (fun b z => .inl (sS b z)) q2
      | hd => exact q2
      | ol xs =>
        obtain ⟨b, vs, e1, e2, e3, e4⟩ := q2
        subst e1
        have nb : b ≠ c := fun z => nj (R.inj j i _ _ b q1 hy trivial (by rw [z]; exact h1) h2 h3)
        exact ⟨b, vs, rfl, e2, by rw [upd_ne nb]; exact e3, Dzs.map keep tup (fun b z => .inl (sS b z)) e4⟩
      | od xs =>
        obtain ⟨b, vs, e1, e2, e3, e4⟩ := q2
        subst e1
        have nb : b ≠ c := fun z => nj (R.inj j i _ _ b q1 hy trivial (by rw [z]; exact h1) h2 h3)
        exact ⟨b, vs, rfl, e2, by rw [upd_ne nb]; exact e3, Dzk.map keep tup (fun b z => .inl (sS b z)) e4⟩
      | ot w xs =>
        obtain ⟨b, vs, e1, e2, e3, e4⟩ := q2
        subst e1
        have nb : b ≠ c := fun z => nj (R.inj j i _ _ b q1 hy trivial (by rw [z]; exact h1) h2 h3)
        exact ⟨b, vs, rfl, e2, by rw [upd_ne nb]; exact e3, Dzt.map keep tup (fun b z => .inl (sS b z)) e4⟩
      | «at» i => exact q2
      | ty s => exact q2
      | rf _ _ _ => exact RfOk.map (fun d q e => by rw [upd_ne (fun z => R.ownNoCode oc q (by rw [← z]; exact e))]; exact e) keep tup (fun b z => .inl (sS b z)) q2
  · have old : ∀ (j : Nat) (y : A), (e.set i (some a))[j]? = some (some y) → y.own → ∃ y' : A, e[j]? = some (some y') ∧ y'.own := fun j y g1 g2 => by
      rcases getSet g1 with ⟨rfl, _, _⟩ | ⟨_, g1⟩
      · exact ⟨x, h2, h3⟩
      · exact ⟨y, g1, g2⟩
    obtain ⟨y', g1, g2⟩ := old j y q2 q3
    obtain ⟨z', g3, g4⟩ := old k z q5 q6
    exact R.inj j k y' z' b q1 g1 g2 q4 g3 g4
  · refine M.hp.keep (ms := [c]) (R.ok.hand h q) (Kp.put (by simp)) ?_ (one1 (R.ownLoose oc))
    have : h ∈ M.hs := List.mem_append_left _ (by rw [q]; exact List.mem_singleton.mpr rfl)
    simpa using ne this
  · refine TabX.keep (R.ok.tabs t ht) (ms := [c]) (Kp.put (by simp)) ?_ (one1 (R.ownNoCode oc))
    simpa using ne (List.mem_append_right _ ht)
  · by_cases hb' : b = c
    · rw [hb', upd_same]; intro z; cases z
    · rw [upd_ne hb']; exact R.s0 b hb
end
/-! ## targets -/
inductive Tg where
  | nm (i : Nat)
  | tp (ts : List Tg)
mutual
def putT : Tg → PyData → AEnv → (AEnv → Prop) → Prop
  | .nm i, x, e, q => q (e.set i (some (.d x)))
  | .tp ts, x, e, q => ∃ xs, x = .tuple xs ∧ xs.length = ts.length ∧ putTs ts xs e q
def putTs : List Tg → List PyData → AEnv → (AEnv → Prop) → Prop
  | [], [], e, q => q e
  | t :: ts, x :: xs, e, q => putT t x e fun e' => putTs ts xs e' q
  | _, _, _, _ => False
end
mutual
def Tg.slots : Tg → List Nat
  | .nm i => [i]
  | .tp ts => tslots ts
def tslots : List Tg → List Nat
  | [] => []
  | t :: ts => t.slots ++ tslots ts
end
def Chg (is : List Nat) (σ σ' : L2.St) : Prop := σ'.length = σ.length ∧ ∀ j, j ∉ is → σ'[j]? = σ[j]?
theorem Chg.refl (is : List Nat) (σ : L2.St) : Chg is σ σ := ⟨rfl, fun _ _ => rfl⟩
theorem Chg.trans {is js : List Nat} {σ σ1 σ2 : L2.St} (a : Chg is σ σ1) (b : Chg js σ1 σ2) : Chg (is ++ js) σ σ2 :=
  ⟨b.1.trans a.1, fun j hj => (b.2 j (fun z => hj (List.mem_append_right _ z))).trans (a.2 j (fun z => hj (List.mem_append_left _ z)))⟩
def AbG (L : La) (g : TG) (T : Tg) : Prop := ∀ M n H σ e v x q Q, L.Of M → Rep M n H σ e → Dz M.K (M.S σ e) H v x → putT T x e q →
  (∀ σ' e', q e' → Rep M n H σ' e' → Chg T.slots σ σ' → (∀ b, M.S σ' e' b → M.S σ e b) → Q σ' H) → g v σ H Q
def AbGs (L : La) (g : TGs) (Ts : List Tg) : Prop := ∀ M n H σ e v x q Q, L.Of M → Rep M n H σ e → Dzs M.K (M.S σ e) H v x → putTs Ts x e q →
  (∀ σ' e', q e' → Rep M n H σ' e' → Chg (tslots Ts) σ σ' → (∀ b, M.S σ' e' b → M.S σ e b) → Q σ' H) → g v σ H Q
section
variable {L : La}
theorem ab_gname {i : Nat} : AbG L (gName i) (.nm i) := by
  intro M n H σ e v x q Q l R h hp k
  rw [putT] at hp
  refine k _ _ hp (R.setD h) ⟨List.length_set, fun j hj => setNe (by simpa [Tg.slots] using hj)⟩ fun b z => SetS (fun y q => by cases q; exact fun z => z) z
theorem ab_gnil : AbGs L gNil [] := by
  intro M n H σ e v x q Q l R h hp k
  cases h with
  | nil => rw [putTs] at hp; exact ⟨rfl, k _ _ hp R (Chg.refl _ _) fun _ z => z⟩
  | cons a b => simp [putTs] at hp
theorem ab_gcons {g : TG} {gs : TGs} {T : Tg} {Ts : List Tg} (h1 : AbG L g T) (h2 : AbGs L gs Ts) : AbGs L (gCons g gs) (T :: Ts) := by
  intro M n H σ e v x q Q l R h hp k
  cases h with
  | nil => simp [putTs] at hp
  | @cons v vs d ds a b =>
    rw [putTs] at hp
    refine ⟨v, vs, rfl, h1 M n H σ e v d _ _ l R a hp fun σ1 e1 h3 R1 c1 s1 => ?_⟩
    refine h2 M n H σ1 e1 vs ds q Q l R1 (b.weak fun b z => .inl (s1 b z)) h3 fun σ2 e2 h4 R2 c2 s2 => ?_
    exact k _ _ h4 R2 (by rw [tslots]; exact c1.trans c2) fun b z => s1 b (s2 b z)
theorem ab_gtup {gs : TGs} {Ts : List Tg} {k : Nat} (hk : Ts.length = k) (h : AbGs L gs Ts) : AbG L (gTup L.K k gs) (.tp Ts) := by
  intro M n H σ e v x q Q l R hd hp kk
  rw [putT] at hp
  obtain ⟨xs, rfl, hl, hp⟩ := hp
  cases hd with
  | tup a b =>
    rw [l.1] at a
    exact ⟨_, _, rfl, a, by rw [b.length, hl, hk], h M n H σ e _ xs q Q l R b hp fun σ1 e1 h3 R1 c1 s1 => kk σ1 e1 h3 R1 (by rw [Tg.slots]; exact c1) s1⟩
end
section
variable {L : La} {a b c d : Tg} {gs : TGs}
theorem ab_gtup2 (h : AbGs L gs [a, b]) : AbG L (gTup L.K 2 gs) (.tp [a, b]) := ab_gtup rfl h
theorem ab_gtup3 (h : AbGs L gs [a, b, c]) : AbG L (gTup L.K 3 gs) (.tp [a, b, c]) := ab_gtup rfl h
theorem ab_gtup4 (h : AbGs L gs [a, b, c, d]) : AbG L (gTup L.K 4 gs) (.tp [a, b, c, d]) := ab_gtup rfl h
end
/-! ## statements -/
structure AD where
  nx : AEnv → Nat → Prop
  rt : AQ
  bk : AEnv → Nat → Prop := fun _ _ => False
  ct : AEnv → Nat → Prop := fun _ _ => False
structure EOk (M : Amb) (D : Ends) (d : AD) : Prop where
  nx : ∀ σ e H n, d.nx e n → Rep M n H σ e → D.nx σ H
  bk : ∀ σ e H n, d.bk e n → Rep M n H σ e → D.bk σ H
  ct : ∀ σ e H n, d.ct e n → Rep M n H σ e → D.ct σ H
  rt : ∀ v H a n, d.rt a n → Kp M.hs M.H0 H → M.Ok n H → RetOk M M.H0 H v a → D.rt v H
abbrev ASW := AD → AEnv → Nat → Prop
def AbS (L : La) (t : TS) (w : ASW) : Prop := ∀ M n H σ e D d, L.Of M ∧ M.st = true → Rep M n H σ e → w d e n → EOk M D d → t D σ H
section
variable {L : La} {M : Amb} {n m : Nat} {H Hs H' : Hp} {σ : L2.St} {e : AEnv} {v : V} {a : A} {i : Nat}
def aNext : ASW := fun d e n => d.nx e n
@[irreducible] def aSeq (t u : ASW) : ASW := fun d e n => t { d with nx := u d } e n
theorem seqI {t u : ASW} {d : AD} {e : AEnv} {n : Nat} (h : t { d with nx := u d } e n) : aSeq t u d e n := by unfold aSeq; exact h
theorem as_next : AbS L tNext aNext := fun M n H σ e D d l R h k => k.nx _ _ _ _ h R
theorem as_seq {t u : TS} {w x : ASW} (h : AbS L t w) (h' : AbS L u x) : AbS L (tSeq t u) (aSeq w x) := by
  intro M n H σ e D d l R hw k
  unfold aSeq at hw
  exact h M n H σ e _ _ l R hw ⟨fun σ' e' H' n' q R' => h' M n' H' σ' e' D d l R' q k, k.bk, k.ct, k.rt⟩
theorem as_break : AbS L tBreak (fun d e n => d.bk e n) := fun M n H σ e D d l R h k => k.bk _ _ _ _ h R
theorem as_cont : AbS L tCont (fun d e n => d.ct e n) := fun M n H σ e D d l R h k => k.ct _ _ _ _ h R
def aDrop (w : AW) : ASW := fun d e n => w e n fun _ m => d.nx e m
theorem as_drop {t : TE} {w : AW} (h : AbE L t w) : AbS L (tDrop t) (aDrop w) := by
  intro M n H σ e D d l R hw k
  exact h M n H σ e _ _ l.1 R hw fun v H1 a m h1 R1 k1 r1 => k.nx _ _ _ _ h1 R1
/-- what is returned: an own list goes out -/
def A.ret : A → Prop
  | .hd => False
  | .ty _ => False
  | .rf _ _ _ => False
  | _ => True
def A.out (e : AEnv) : A → A
  | .at i => (e[i]?.getD none).getD .hd
  | a => a
theorem retOf {n m : Nat} (R0 : Rep M n Hs σ e) (R : Rep M m H σ e) (h : RelR M (M.S σ e) Hs H σ e v a) (ha : a.ret) : RetOk M M.H0 H v (a.out e) := by
  have sub : ∀ b, (b ∈ M.hs ∨ M.S0 b) → M.S σ e b := fun b z => .inr z
  cases a with
  | d x => exact Dz.weak h fun b z => .inl (sub b z)
  | hd => exact ha.elim
  | ty s => exact ha.elim
  | rf _ _ _ => exact ha.elim
  | ol xs =>
    obtain ⟨a, vs, e1, e2, e3, e4, e5⟩ := h
    exact ⟨a, vs, e1, R0.kp.free e2 (fun z => e3 (Amb.sub a z)), e4, e5.weak fun b z => .inl (by rcases z with z | z; exact .inl z; exact .inr (sub b z))⟩
  | od xs =>
    obtain ⟨a, vs, e1, e2, e3, e4, e5⟩ := h
    exact ⟨a, vs, e1, R0.kp.free e2 (fun z => e3 (Amb.sub a z)), e4, e5.weak fun b z => .inl (by rcases z with z | z; exact .inl z; exact .inr (sub b z))⟩
  | ot w xs =>
    obtain ⟨a, vs, e1, e2, e3, e4, e5⟩ := h
    exact ⟨a, vs, e1, R0.kp.free e2 (fun z => e3 (Amb.sub a z)), e4, e5.weak fun b z => .inl (by rcases z with z | z; exact .inl z; exact .inr (sub b z))⟩
  | «at» i =>
    obtain ⟨h1, x, h2, h3⟩ := h
    rw [A.out, h2]
    obtain ⟨w, h4, h5⟩ := R.slot i x h2
    rw [h1] at h4; cases h4
    cases x with
    | ol xs =>
      obtain ⟨a, vs, e1, e2, e3, e4⟩ := h5
      subst e1
      exact ⟨a, vs, rfl, e2, e3, e4.weak fun b z => .inl (by rcases z with rfl | z; exact .inl ⟨i, _, h1, h2, trivial⟩; exact sub b z)⟩
    | od xs =>
      obtain ⟨a, vs, e1, e2, e3, e4⟩ := h5
      subst e1
      exact ⟨a, vs, rfl, e2, e3, e4.weak fun b z => .inl (by rcases z with rfl | z; exact .inl ⟨i, _, h1, h2, trivial⟩; exact sub b z)⟩
    | ot w xs =>
      obtain ⟨a, vs, e1, e2, e3, e4⟩ := h5
      subst e1
      exact ⟨a, vs, rfl, e2, e3, e4.weak fun b z => .inl (by rcases z with rfl | z; exact .inl ⟨i, _, h1, h2, trivial⟩; exact sub b z)⟩
    | d x => exact h3.elim
    | hd => exact h3.elim
    | «at» i => exact h3.elim
    | ty s => exact h3.elim
    | rf _ _ _ => exact h3.elim
def aRet (w : AW) : ASW := fun d e n => w e n fun a m => a.ret ∧ d.rt (a.out e) m
theorem as_ret {t : TE} {w : AW} (h : AbE L t w) : AbS L (tRet t) (aRet w) := by
  intro M n H σ e D d l R hw k
  exact h M n H σ e _ _ l.1 R hw fun v H1 a m h1 R1 k1 r1 => k.rt _ _ _ _ h1.2 R1.kp R1.ok (retOf R R1 r1 h1.1)
def aRetN : ASW := fun d e n => d.rt (.d .none) n
theorem as_retN : AbS L tRetN aRetN := fun M n H σ e D d l R h k => k.rt _ _ _ _ h R.kp R.ok .non
def aIfS (c : ATW) (t u : ASW) : ASW := fun d e n => c e n fun b m => if b = true then t d e m else u d e m
theorem as_if {c : TT} {t u : TS} {w : ATW} {x y : ASW} (hc : AbT L c w) (ht : AbS L t x) (hu : AbS L u y) : AbS L (tIfS c t u) (aIfS w x y) := by
  intro M n H σ e D d l R hw k
  refine hc M n H σ e _ _ l.1 R hw fun b H1 m h1 R1 k1 => ?_
  cases b with
  | true => exact ht M m H1 σ e D d l R1 h1 k
  | false => exact hu M m H1 σ e D d l R1 h1 k
/-- name = value -/
def A.set : A → Prop
  | .at _ => False
  | .ty _ => False
  | .rf _ _ _ => False
  | _ => True
def aSet (i : Nat) (w : AW) : ASW := fun d e n => w e n fun a m => a.set ∧ d.nx (e.set i (some a)) m
theorem as_set {t : TE} {w : AW} (h : AbE L t w) : AbS L (tAsg t (gName i)) (aSet i w) := by
  intro M n H σ e D d l R hw k
  refine h M n H σ e _ _ l.1 R hw fun v H1 a m h1 R1 k1 r1 => ?_
  show D.nx _ _
  obtain ⟨ha, h1⟩ := h1
  refine k.nx _ _ _ _ h1 ?_
  cases a with
  | d x => exact R1.setD r1
  | hd => exact R1.setHd r1
  | ol xs =>
    obtain ⟨a, vs, e1, e2, e3, e4, e5⟩ := r1
    exact Rep.setO R k1 R1 e1 e2 e3 trivial ⟨a, vs, e1, R.kp.free e2 (fun z => e3 (Amb.sub a z)), e4, e5⟩
  | od xs =>
    obtain ⟨a, vs, e1, e2, e3, e4, e5⟩ := r1
    exact Rep.setO R k1 R1 e1 e2 e3 trivial ⟨a, vs, e1, R.kp.free e2 (fun z => e3 (Amb.sub a z)), e4, e5⟩
  | ot w xs =>
    obtain ⟨a, vs, e1, e2, e3, e4, e5⟩ := r1
    exact Rep.setO R k1 R1 e1 e2 e3 trivial ⟨a, vs, e1, R.kp.free e2 (fun z => e3 (Amb.sub a z)), e4, e5⟩
  | «at» i => exact ha.elim
  | ty s => exact ha.elim
  | rf _ _ _ => exact ha.elim
/-- target = value -/
def aAsg (T : Tg) (w : AW) : ASW := fun d e n => w e n fun a m => ∃ x, a.sto = some x ∧ putT T x e fun e' => d.nx e' m
theorem as_asg {t : TE} {w : AW} {g : TG} {T : Tg} (h : AbE L t w) (hg : AbG L g T) : AbS L (tAsg t g) (aAsg T w) := by
  intro M n H σ e D d l R hw k
  refine h M n H σ e _ _ l.1 R hw fun v H1 a m h1 R1 k1 r1 => ?_
  obtain ⟨x, hx, h1⟩ := h1
  exact hg M m H1 σ e v x _ _ l.1 R1 (r1.sto hx) h1 fun σ' e' h2 R2 _ _ => k.nx _ _ _ _ h2 R2
/-- an own list, kept from now on: it may be handed on -/
theorem Rep.freeze {xs : List PyData} (R : Rep M n H σ e) (st : M.st = true) (h : e[i]? = some (some (.ol xs))) : Rep M n H σ (e.set i (some (.d (.list xs)))) := by
  obtain ⟨v, h1, h2⟩ := R.slot i _ h
  obtain ⟨a, vs, rfl, h3, h4, h5⟩ := h2
  have own : ∀ b, OwnS σ (e.set i (some (.d (.list xs)))) b → OwnS σ e b ∧ b ≠ a := by
    rintro b ⟨j, y, q1, q2, q3⟩
    rcases getSet q2 with ⟨rfl, e1, _⟩ | ⟨nj, q2⟩
    · cases e1; exact q3.elim
    · exact ⟨⟨j, y, q1, q2, q3⟩, fun z => nj (R.inj j i _ _ b q1 q2 q3 (by rw [z]; exact h1) h trivial)⟩
  have oa : OwnS σ e a := ⟨i, _, h1, h, trivial⟩
  have sS : ∀ b, M.S σ (e.set i (some (.d (.list xs)))) b → M.S σ e b := fun b z => by
    rcases z with z | z
    · exact .inl (own b z).1
    · exact .inr z
  refine ⟨by rw [List.length_set]; exact R.len, fun j y hy => ?_, fun j k y z b q1 q2 q3 q4 q5 q6 => ?_, R.ok, R.kp, R.s0, R.hs0, fun q b z => R.sep q b (own b z).1, fun p hp => (R.pin p hp).weak fun b z => .inl (sS b z)⟩
  · rcases getSet hy with ⟨rfl, e1, _⟩ | ⟨nj, hy⟩
    · cases e1
      refine ⟨.ref a, h1, .lst (fun z => ?_) h4 (h5.weak fun b z => .inl (sS b z))⟩
      rcases z with z | z | z
      · exact (own a z).2 rfl
      · exact R.own_hs oa z
      · exact R.sep st a oa z
    · obtain ⟨w, q1, q2⟩ := R.slot j y hy
      exact ⟨w, q1, q2.weak sS⟩
  · rcases getSet q2 with ⟨rfl, e1, _⟩ | ⟨nj, q2⟩
    · cases e1; exact q3.elim
    · rcases getSet q5 with ⟨rfl, e1, _⟩ | ⟨nk, q5⟩
      · cases e1; exact q6.elim
      · exact R.inj j k y z b q1 q2 q3 q4 q5 q6
end
end Ah

namespace Ah
open PySem PySem.Spec PyProof.Rows L2
@[irreducible] def Hold (p : Prop) : Prop := p
theorem hold {p : Prop} (h : p) : Hold p := by unfold Hold; exact h
theorem unhold {p : Prop} (h : Hold p) : p := by unfold Hold at h; exact h
/-! ## what is walked -/
structure WalkA (K : PySem.W.Frag) (J : It) (xs : List PyData) (P0 : List (V × PyData)) : Prop where
  goes : ∀ i H, i < xs.length → (∀ p ∈ P0, Dz K (fun _ => False) H p.1 p.2) → J.go i H
  stops : ∀ H, (∀ p ∈ P0, Dz K (fun _ => False) H p.1 p.2) → J.stop xs.length H
  yields : ∀ i H x H', i < xs.length → (∀ p ∈ P0, Dz K (fun _ => False) H p.1 p.2) → J.yld i H x H' → Kp [] H H' ∧
    ∀ S : Addr → Prop, (∀ p ∈ P0, Dz K S H p.1 p.2) → (∀ b, S b → H b ≠ none) → ∃ d, xs[i]? = some d ∧ Dz K S H' x d
abbrev AIW := AEnv → Nat → (List PyData → Nat → Prop) → Prop
def AbI (L : La) (wi : TI) (w : AIW) : Prop := ∀ M n H σ e q R, L.Of M → Rep M n H σ e → w e n q →
  (∀ J H' xs m P0, q xs m → Rep M m H' σ e → Kp M.hs H H' → (∀ p ∈ P0, Dz M.K (M.S σ e) H' p.1 p.2) → WalkA M.K J xs P0 → R J H') → wi σ H R
section
variable {L : La} {M : Amb} {n m : Nat} {H Hs H' : Hp} {σ : L2.St} {e : AEnv} {v : V} {a : A} {i : Nat}
/-- a list, a tuple -/
def aSeqI (k : List PyData → PyData) (w : AW) : AIW := fun e n q => w e n fun a m => ∃ xs, a.sto = some (k xs) ∧ q xs m
theorem walkL {K : PySem.W.Frag} {b : Addr} {vs : List V} {xs : List PyData} (h : vs.length = xs.length) (hh : ∀ H, Dz K (fun _ => False) H (.ref b) (.list xs) → ∃ us, H b = some (.lst us)) : WalkA K (Itl K b) xs [(.ref b, .list xs)] := by
  have get : ∀ {S : Addr → Prop} {H : Hp}, Dz K S H (.ref b) (.list xs) → ∃ us, H b = some (.lst us) ∧ Dzs K S H us xs := fun {S H} z => by cases z with | lst p q r => exact ⟨_, q, r⟩
  refine ⟨fun i H hi z => ?_, fun H z => ?_, fun i H x H' hi z y => ?_⟩
  · obtain ⟨us, h1, h2⟩ := get (z _ (List.mem_cons_self ..))
    have := h2.length
    exact ⟨us, us[i]'(by omega), SqL.of h1, by simp [this, hi]⟩
  · obtain ⟨us, h1, h2⟩ := get (z _ (List.mem_cons_self ..))
    exact ⟨us, SqL.of h1, by rw [h2.length]; exact Nat.le_refl _⟩
  · obtain ⟨y1, y2⟩ := y
    subst y1
    refine ⟨Kp.refl _ _, fun S hS _ => ?_⟩
    obtain ⟨us, h1, h2⟩ := get (hS _ (List.mem_cons_self ..))
    exact h2.get (y2 us (SqL.of h1))
theorem SqT.det {X : Cx} {pins : List (Addr × Obj)} {s : Shared} {us vs : List V} {b : Addr} (I : Inv X pins σ H s) (h1 : SqT X.K H b us) (h2 : SqT X.K H b vs) : us = vs := I.tuple_inj h1 h2
theorem walkT' {K : PySem.W.Frag} {b : Addr} {xs : List PyData} : WalkA K (Itt K b) xs [(.ref b, .tuple xs)] := by
  have get : ∀ {S : Addr → Prop} {H : Hp}, Dz K S H (.ref b) (.tuple xs) → ∃ us, SqT K H b us ∧ Dzs K S H us xs := fun {S H} z => by cases z with | tup q r => exact ⟨_, q, r⟩
  refine ⟨fun i H hi z => ?_, fun H z => ?_, fun i H x H' hi z y => ?_⟩
  · obtain ⟨us, h1, h2⟩ := get (z _ (List.mem_cons_self ..))
    have := h2.length
    exact ⟨us, us[i]'(by omega), h1, by simp [this, hi]⟩
  · obtain ⟨us, h1, h2⟩ := get (z _ (List.mem_cons_self ..))
    exact ⟨us, h1, by rw [h2.length]; exact Nat.le_refl _⟩
  · obtain ⟨y1, y2⟩ := y
    subst y1
    refine ⟨Kp.refl _ _, fun S hS _ => ?_⟩
    obtain ⟨us, h1, h2⟩ := get (hS _ (List.mem_cons_self ..))
    exact h2.get (y2 us h1)
theorem ab_ilist {t : TE} {w : AW} (h : AbE L t w) : AbI L (iList L.K t) (aSeqI .list w) := by
  intro M n H σ e q R l Rp hw p
  refine h M n H σ e _ _ l Rp hw fun v H1 a m h1 R1 k1 r1 => ?_
  obtain ⟨xs, hx, h1⟩ := h1
  have z := r1.sto hx
  cases z with
  | @lst b vs _ g1 g2 g3 =>
    refine ⟨b, rfl, ⟨vs, SqL.of g2⟩, ?_⟩
    rw [← l.1]
    refine p _ H1 xs m [(.ref b, .list xs)] h1 R1 k1 (fun p hp => ?_) (walkL g3.length fun H z => by cases z; exact ⟨_, by assumption⟩)
    rw [List.mem_singleton.mp hp]
    exact .lst g1 g2 g3
theorem ab_itup {t : TE} {w : AW} (h : AbE L t w) : AbI L (iTup L.K t) (aSeqI .tuple w) := by
  intro M n H σ e q R l Rp hw p
  refine h M n H σ e _ _ l Rp hw fun v H1 a m h1 R1 k1 r1 => ?_
  obtain ⟨xs, hx, h1⟩ := h1
  have z := r1.sto hx
  cases z with
  | @tup b vs _ g2 g3 =>
    rw [l.1] at g2
    refine ⟨b, rfl, ⟨vs, g2⟩, ?_⟩
    rw [← l.1] at g2 ⊢
    refine p _ H1 xs m [(.ref b, .tuple xs)] h1 R1 k1 (fun p hp => ?_) walkT'
    rw [List.mem_singleton.mp hp]
    exact .tup g2 g3
/-- range(n) -/
def rngD (lo : Int) (n : Nat) : List PyData := (List.range n).map fun i : Nat => .int (lo + (i : Int))
def aRng1 (w : AAW) : AIW := fun e n q => w e n fun as m => ∃ j : Int, as = [.d (.int j)] ∧ -(2 ^ 62) ≤ j ∧ j < 2 ^ 62 ∧ q (rngD 0 j.toNat) m
def aRng2 (w : AAW) : AIW := fun e n q => w e n fun as m => ∃ i j : Int, as = [.d (.int i), .d (.int j)] ∧ (-(2 ^ 62) ≤ i ∧ i < 2 ^ 62 ∧ -(2 ^ 62) ≤ j ∧ j < 2 ^ 62) ∧ q (rngD i (j - i).toNat) m
theorem walkR {K : PySem.W.Frag} {lo : Int} {k : Nat} : WalkA K (Itr lo k) (rngD lo k) [] := by
  have len : (rngD lo k).length = k := by simp [rngD]
  refine ⟨fun i H hi z => by rw [len] at hi; exact hi, fun H z => by rw [len]; exact Nat.le_refl _, fun i H x H' hi z y => ?_⟩
  obtain ⟨rfl, rfl⟩ := y
  refine ⟨Kp.refl _ _, fun S _ _ => ⟨_, ?_, .int _⟩⟩
  rw [len] at hi
  simp [rngD, hi]
theorem RelRs.ints1 {vs : List V} {j : Int} (h : RelRs M (M.S σ e) Hs H σ e vs [.d (.int j)]) : vs = [.int j] := by
  cases h with
  | cons a b => cases a; cases b; rfl
theorem ab_irng1 {t : TA} {w : AAW} (h : AbA L t w) : AbI L (iRng1 t) (aRng1 w) := by
  intro M n H σ e q R l Rp hw p
  refine h M n H σ e _ _ l Rp hw fun vs H1 as m h1 R1 k1 r1 => ?_
  obtain ⟨j, rfl, b1, b2, h1⟩ := h1
  exact ⟨j, r1.ints1, b1, b2, p _ H1 _ m [] h1 R1 k1 (fun _ z => by cases z) walkR⟩
theorem ab_irng2 {t : TA} {w : AAW} (h : AbA L t w) : AbI L (iRng2 t) (aRng2 w) := by
  intro M n H σ e q R l Rp hw p
  refine h M n H σ e _ _ l Rp hw fun vs H1 as m h1 R1 k1 r1 => ?_
  obtain ⟨i, j, rfl, b1, h1⟩ := h1
  have : vs = [.int i, .int j] := by
    cases r1 with
    | cons a b => cases a; rw [b.ints1]
  exact ⟨i, j, this, b1, p _ H1 _ m [] h1 R1 k1 (fun _ z => by cases z) walkR⟩
/-- a text, sign by sign -/
def signsD (z : Str) : List PyData := z.cps.toList.map fun c => .str ⟨#[c]⟩
def aStrI (w : AW) : AIW := fun e n q => w e n fun a m => ∃ z, a = .d (.str z) ∧ q (signsD z) m
theorem ab_istr {t : TE} {w : AW} (h : AbE L t w) : AbI L (iStr t) (aStrI w) := by
  intro M n H σ e q R l Rp hw p
  refine h M n H σ e _ _ l Rp hw fun v H1 a m h1 R1 k1 r1 => ?_
  obtain ⟨z, rfl, h1⟩ := h1
  cases r1
  have len : (signsD z).length = z.cps.size := by simp [signsD]
  refine ⟨z, rfl, p _ H1 _ m [] h1 R1 k1 (fun _ z => by cases z) ⟨fun i H hi _ => by rw [len] at hi; exact walk_str.goes i H hi trivial, fun H _ => by rw [len]; exact walk_str.stops H trivial, fun i H x H' hi _ y => ?_⟩⟩
  rw [len] at hi
  obtain ⟨rfl, c, hc, rfl⟩ := walk_str.yields i H x H' hi trivial y
  refine ⟨Kp.refl _ _, fun S _ _ => ⟨.str ⟨#[c]⟩, ?_, .str _⟩⟩
  simp [signsD, hc]
/-- pairs -/
def aEnumI (k : List PyData → PyData) (w : AAW) : AIW := fun e n q => w e n fun as m => ∃ xs, stos as = some [k xs] ∧ q (xs.zipIdx.map fun p => .tuple [.int ((p.2 : Nat) : Int), p.1]) m
theorem pairD' {K : PySem.W.Frag} {S : Addr → Prop} {T : Addr} {x y : V} {d d' : PyData} (hT : H T = none) (hS : ∀ b, S b → H b ≠ none) (h1 : Dz K S H x d) (h2 : Dz K S H y d') : Dz K S (upd H T (.tup [x, y])) (.ref T) (.tuple [d, d']) := by
  have st : ∀ {v d}, Dz K S H v d → Dz K S (upd H T (.tup [x, y])) v d := fun h =>
    Dz.map (fun a o _ e => Kp.new (ms := []) hT a o (by simp) e) (fun a xs h => SqT.kp (ms := []) (Kp.new hT) (by simp) h) (fun _ z => .inl z) h
  exact .tup (SqT.of upd_same) (.cons (st h1) (.cons (st h2) .nil))
theorem ab_ienum {t : TA} {w : AAW} (h : AbA L t w) : AbI L (iEnum L.K t) (aEnumI .list w) := by
  intro M n H σ e q R l Rp hw p
  refine h M n H σ e _ _ l Rp hw fun vs H1 as m h1 R1 k1 r1 => ?_
  obtain ⟨xs, hx, h1⟩ := h1
  have z := r1.sto hx
  cases z with
  | cons z1 z2 =>
  cases z2
  cases z1 with
  | @lst b us _ g1 g2 g3 =>
    refine ⟨b, us, rfl, SqL.of g2, ?_⟩
    rw [← l.1]
    have get : ∀ {S : Addr → Prop} {H : Hp}, Dz M.K S H (.ref b) (.list xs) → ∃ us, H b = some (.lst us) ∧ Dzs M.K S H us xs := fun {S H} z => by cases z with | lst p q r => exact ⟨_, q, r⟩
    have len : (xs.zipIdx.map fun p : PyData × Nat => PyData.tuple [.int ((p.2 : Nat) : Int), p.1]).length = xs.length := by simp
    refine p _ H1 _ m [(.ref b, .list xs)] h1 R1 k1 (fun p hp => ?_) ⟨fun i H hi z => ?_, fun H z => ?_, fun i H x H' hi z y => ?_⟩
    · rw [List.mem_singleton.mp hp]; exact .lst g1 g2 g3
    · obtain ⟨us, h1, h2⟩ := get (z _ (List.mem_cons_self ..))
      rw [len] at hi
      exact walk_enum.goes i H (by rw [h2.length]; exact hi) (SqL.of h1)
    · obtain ⟨us, h1, h2⟩ := get (z _ (List.mem_cons_self ..))
      rw [len, ← h2.length]
      exact walk_enum.stops H (SqL.of h1)
    · obtain ⟨us, h1, h2⟩ := get (z _ (List.mem_cons_self ..))
      rw [len] at hi
      obtain ⟨T, x1, x2, rfl, hT, rfl, e1, e2⟩ := walk_enum.yields i H x H' (by rw [h2.length]; exact hi) (SqL.of h1) y
      cases e1
      refine ⟨Kp.new hT, fun S hS hS2 => ?_⟩
      obtain ⟨us', h1', h2'⟩ := get (hS _ (List.mem_cons_self ..))
      rw [h1] at h1'; cases h1'
      obtain ⟨d, hd, hz⟩ := h2'.get e2
      refine ⟨.tuple [.int ((i : Nat) : Int), d], ?_, pairD' hT hS2 (.int _) hz⟩
      rw [List.getElem?_map, List.getElem?_zipIdx, hd]
      simp
theorem ab_ienumT {t : TA} {w : AAW} (h : AbA L t w) : AbI L (iEnumT L.K t) (aEnumI .tuple w) := by
  intro M n H σ e q R l Rp hw p
  refine h M n H σ e _ _ l Rp hw fun vs H1 as m h1 R1 k1 r1 => ?_
  obtain ⟨xs, hx, h1⟩ := h1
  have z := r1.sto hx
  cases z with
  | cons z1 z2 =>
  cases z2
  cases z1 with
  | @tup b us _ g2 g3 =>
    rw [l.1] at g2
    refine ⟨b, us, rfl, g2, ?_⟩
    rw [← l.1] at g2 ⊢
    have get : ∀ {S : Addr → Prop} {H : Hp}, Dz M.K S H (.ref b) (.tuple xs) → ∃ us, SqT M.K H b us ∧ Dzs M.K S H us xs := fun {S H} z => by cases z with | tup q r => exact ⟨_, q, r⟩
    have len : (xs.zipIdx.map fun p : PyData × Nat => PyData.tuple [.int ((p.2 : Nat) : Int), p.1]).length = xs.length := by simp
    refine p _ H1 _ m [(.ref b, .tuple xs)] h1 R1 k1 (fun p hp => ?_) ⟨fun i H hi z => ?_, fun H z => ?_, fun i H x H' hi z y => ?_⟩
    · rw [List.mem_singleton.mp hp]; exact .tup g2 g3
    · obtain ⟨us, h1, h2⟩ := get (z _ (List.mem_cons_self ..))
      rw [len] at hi
      exact walk_enumT.goes i H (by rw [h2.length]; exact hi) h1
    · obtain ⟨us, h1, h2⟩ := get (z _ (List.mem_cons_self ..))
      rw [len, ← h2.length]
      exact walk_enumT.stops H h1
    · obtain ⟨us, h1, h2⟩ := get (z _ (List.mem_cons_self ..))
      rw [len] at hi
      obtain ⟨T, x1, x2, rfl, hT, rfl, e1, e2⟩ := walk_enumT.yields i H x H' (by rw [h2.length]; exact hi) h1 y
      cases e1
      refine ⟨Kp.new hT, fun S hS hS2 => ?_⟩
      obtain ⟨us', h1', h2'⟩ := get (hS _ (List.mem_cons_self ..))
      obtain ⟨T', y1, y2, q1, hT', q2, q3, q4⟩ := walk_enumT.yields i H _ _ (by rw [h2'.length]; exact hi) h1' y
      cases q3
      cases q1
      have : x2 = y2 := by
        have := congrFun q2 T
        rw [upd_same, upd_same] at this
        simpa using this
      subst this
      obtain ⟨d, hd, hz⟩ := h2'.get q4
      refine ⟨.tuple [.int ((i : Nat) : Int), d], ?_, pairD' hT hS2 (.int _) hz⟩
      rw [List.getElem?_map, List.getElem?_zipIdx, hd]
      simp
/-! ## for -/
def aLoop (T : Tg) (wb : ASW) (d : AD) : List PyData → AEnv → Nat → Prop
  | [], e, n => d.nx e n
  | x :: r, e, n => putT T x e fun e' => wb { d with nx := aLoop T wb d r, ct := aLoop T wb d r, bk := d.nx } e' n
def aFor (src : AIW) (T : Tg) (wb : ASW) : ASW := fun d e n => src e n fun xs m => Hold (aLoop T wb d xs e m)
/-- more is pinned -/
def Amb.pin (M : Amb) (P : List (V × PyData)) : Amb := { M with pins := P ++ M.pins }
theorem Rep.pinned {P : List (V × PyData)} (R : Rep M n H σ e) (h : ∀ p ∈ P, Dz M.K (M.S σ e) H p.1 p.2) : Rep (M.pin P) n H σ e :=
  ⟨R.len, fun i a ha => by
    obtain ⟨v, h1, h2⟩ := R.slot i a ha
    refine ⟨v, h1, ?_⟩
    cases a <;> exact h2, R.inj, ⟨R.ok.hand, R.ok.tabs⟩, R.kp, R.s0, R.hs0, R.sep, fun p hp => by
    rcases List.mem_append.mp hp with hp | hp
    · exact h p hp
    · exact R.pin p hp⟩
theorem Rep.unpinned {P : List (V × PyData)} (R : Rep (M.pin P) n H σ e) : Rep M n H σ e :=
  ⟨R.len, fun i a ha => by
    obtain ⟨v, h1, h2⟩ := R.slot i a ha
    refine ⟨v, h1, ?_⟩
    cases a <;> exact h2, R.inj, ⟨R.ok.hand, R.ok.tabs⟩, R.kp, R.s0, R.hs0, R.sep, fun p hp => R.pin p (List.mem_append_right _ hp)⟩
theorem Amb.Ok.kp0 (O : M.Ok n H) (k : Kp [] H H') : M.Ok n H' := ⟨fun h q => M.hp.keep (O.hand h q) k (by simp) none0, fun t ht => TabX.keep (O.tabs t ht) k (by simp) none0⟩
theorem as_for {wi : TI} {g : TG} {tb : TS} {w : AIW} {T : Tg} {wb : ASW} (hi : AbI L wi w) (hg : AbG L g T) (hb : AbS L tb wb) : AbS L (tFor wi g tb) (aFor w T wb) := by
  intro M n H σ e D d l R hw k
  refine hi M n H σ e _ _ l.1 R hw fun J H1 xs m P0 h1 R1 k1 hP W => ?_
  replace h1 := unhold h1
  have weak : ∀ {H σ e n}, Rep (M.pin P0) n H σ e → ∀ p ∈ P0, Dz M.K (fun _ => False) H p.1 p.2 := fun {H σ e n} R p hp => (R.pin p (List.mem_append_left _ hp)).weak fun _ z => z.elim
  refine ⟨fun i c σ H => c = xs.length - i ∧ i ≤ xs.length ∧ ∃ e n, Rep (M.pin P0) n H σ e ∧ aLoop T wb d (xs.drop i) e n, ⟨xs.length, rfl, Nat.zero_le _, e, m, R1.pinned hP, h1⟩, ?_⟩
  rintro i c σ2 H2 ⟨rfl, hi, e2, n2, R2, h2⟩
  by_cases hlt : i < xs.length
  · rw [List.drop_eq_getElem_cons hlt, aLoop] at h2
    refine .inr ⟨W.goes i H2 hlt (weak R2), fun σ H => ∃ e n, Rep (M.pin P0) n H σ e ∧ aLoop T wb d (xs.drop (i + 1)) e n, fun σ' H' h => ⟨_, by omega, rfl, hlt, h⟩, fun x H3 y => ?_⟩
    obtain ⟨kk, yy⟩ := W.yields i H2 x H3 hlt (weak R2) y
    have R3 : Rep (M.pin P0) n2 H3 σ2 e2 := R2.step (kk.wide (by simp)) (R2.ok.kp0 kk)
    obtain ⟨dd, h3, h4⟩ := yy ((M.pin P0).S σ2 e2) (fun p hp => R2.pin p (List.mem_append_left _ hp)) fun b z => R2.there z
    rw [List.getElem?_eq_getElem hlt] at h3
    cases h3
    refine hg (M.pin P0) n2 H3 σ2 e2 x _ _ _ l.1 R3 h4 h2 fun σ4 e4 h5 R4 _ _ => ?_
    refine hb (M.pin P0) n2 H3 σ4 e4 _ _ l R4 h5 ⟨fun σ' e' H' n' h R' => ⟨e', n', R', h⟩, fun σ' e' H' n' h R' => k.nx _ _ _ _ h R'.unpinned, fun σ' e' H' n' h R' => ⟨e', n', R', h⟩, fun v H' a n' h k' O' r' => ?_⟩
    refine k.rt v H' a n' h k' ⟨O'.hand, O'.tabs⟩ ?_
    cases a <;> exact r'
  · have e0 : i = xs.length := by omega
    subst e0
    rw [List.drop_length, aLoop] at h2
    exact .inl ⟨W.stops H2 (weak R2), k.nx _ _ _ _ h2 R2.unpinned⟩
/-! ## while -/
def aIter (wt : ATW) (wb : ASW) (d : AD) : Nat → AEnv → Nat → Prop
  | 0, _, _ => False
  | k + 1, e, n => wt e n fun b m => if b = true then wb { d with nx := aIter wt wb d k, ct := aIter wt wb d k, bk := d.nx } e m else d.nx e m
def aWhile (wt : ATW) (wb : ASW) : ASW := fun d e n => ∃ k, aIter wt wb d k e n
theorem as_while {c : TT} {tb : TS} {wt : ATW} {wb : ASW} (hc : AbT L c wt) (hb : AbS L tb wb) : AbS L (tWhile c tb) (aWhile wt wb) := by
  intro M n H σ e D d l R hw k
  obtain ⟨j, hw⟩ := hw
  refine ⟨fun j σ H => ∃ e n, Rep M n H σ e ∧ aIter wt wb d j e n, ⟨j, e, n, R, hw⟩, ?_⟩
  rintro j σ1 H1 ⟨e1, n1, R1, h1⟩
  cases j with
  | zero => exact h1.elim
  | succ j =>
    rw [aIter] at h1
    refine hc M n1 H1 σ1 e1 _ _ l.1 R1 h1 fun b H2 m h2 R2 k2 => ?_
    cases b with
    | false => exact k.nx _ _ _ _ h2 R2
    | true =>
      refine ⟨fun σ H => ∃ e n, Rep M n H σ e ∧ aIter wt wb d j e n, fun σ' H' h => ⟨j, Nat.lt_succ_self _, h⟩, ?_⟩
      exact hb M m H2 σ1 e1 _ _ l R2 h2 ⟨fun σ' e' H' n' h R' => ⟨e', n', R', h⟩, fun σ' e' H' n' h R' => k.nx _ _ _ _ h R', fun σ' e' H' n' h R' => ⟨e', n', R', h⟩, k.rt⟩
end
/-! ## list comprehensions -/
def wipeA (e : AEnv) : List Nat → AEnv
  | [] => e
  | v :: vs => (wipeA e vs).set v none
def aGo (T : Tg) (wt : ATW) (wv : AW) (e0 : AEnv) (q : AQ) : List PyData → List PyData → Nat → Prop
  | [], acc, n => q (.ol acc) n
  | x :: r, acc, n => putT T x e0 fun e' => wt e' n fun b m => if b = true then wv e' m fun a k => ∃ y, a.sto = some y ∧ acc.length < sizeLine ∧ aGo T wt wv e0 q r (acc ++ [y]) k else aGo T wt wv e0 q r acc m
def aLc (src : AIW) (T : Tg) (wt : ATW) (wv : AW) (vs : List Nat) : AW := fun e n q => src e n fun xs m => Hold (aGo T wt wv (wipeA e vs) q xs [] m)
def aYes : ATW := fun _ n q => q true n
section
variable {L : La} {M : Amb} {n m : Nat} {H Hs H' : Hp} {σ : L2.St} {e : AEnv} {v : V} {a : A} {i : Nat}
theorem ab_yes : AbT L tYes aYes := fun M n H σ e q Q l R h p => p true H n h R (Kp.refl _ _)
theorem Rep.wipe (R : Rep M n H σ e) : ∀ vs : List Nat, Rep M n H (wipe σ vs) (wipeA e vs)
  | [] => R
  | v :: vs => by
    rw [L2.wipe, wipeA]
    exact (R.wipe vs).setN
theorem ownWipe {b : Addr} : ∀ (vs : List Nat), OwnS (wipe σ vs) (wipeA e vs) b → OwnS σ e b
  | [], h => h
  | v :: vs, h => by
    rw [L2.wipe, wipeA] at h
    exact ownWipe vs (ownSet (fun y q => by cases q) h)
theorem wipeLen {α : Type} : ∀ (vs : List Nat), (wipe σ vs).length = σ.length
  | [] => rfl
  | v :: vs => by rw [L2.wipe, List.length_set, wipeLen (α := α) vs]
theorem wipeGet : ∀ (vs : List Nat) (j : Nat), (wipe σ vs)[j]? = if j ∈ vs then (σ[j]?).map (fun _ => none) else σ[j]?
  | [], j => by simp [L2.wipe]
  | v :: vs, j => by
    rw [L2.wipe, List.getElem?_set]
    by_cases hj : v = j
    · subst hj
      simp only [List.mem_cons, true_or, if_true]
      have hl : (wipe σ vs).length = σ.length := wipeLen (α := Nat) vs
      rw [hl]
      by_cases h : v < σ.length
      · rw [if_pos h, List.getElem?_eq_getElem h]; rfl
      · rw [if_neg h, List.getElem?_eq_none (by omega)]; rfl
    · rw [if_neg hj, wipeGet vs j]
      simp only [List.mem_cons]
      by_cases h : j ∈ vs
      · rw [if_pos h, if_pos (.inr h)]
      · rw [if_neg h, if_neg]
        rintro (z | z)
        · exact hj z.symm
        · exact h z
theorem wipeChg {is vs : List Nat} {σ2 : L2.St} (hs : ∀ j ∈ is, j ∈ vs) (h : Chg is (wipe σ vs) σ2) : wipe σ2 vs = wipe σ vs := by
  apply List.ext_getElem?
  intro j
  have hl : σ2.length = σ.length := h.1.trans (wipeLen (α := Nat) vs)
  rw [wipeGet, wipeGet]
  by_cases hj : j ∈ vs
  · rw [if_pos hj, if_pos hj]
    by_cases hb : j < σ.length
    · rw [List.getElem?_eq_getElem (by omega), List.getElem?_eq_getElem hb]; rfl
    · rw [List.getElem?_eq_none (by omega), List.getElem?_eq_none (by omega)]
  · rw [if_neg hj, if_neg hj, h.2 j (fun z => hj (hs j z)), wipeGet, if_neg hj]
/-- the ambience of a comprehension's block: its list D is apart, too -/
def Amb.blk (M : Amb) (D : Addr) (S : Addr → Prop) (P : List (V × PyData)) : Amb := { M with S0 := fun b => b = D ∨ S b, pins := P, st := false }
theorem Rep.blk {D : Addr} {S : Addr → Prop} {P : List (V × PyData)} {o : HO} (R : Rep M n H σ e) (hD : H D = none) (hS : ∀ b, S b → H b ≠ none) (sub : ∀ b, M.S σ e b → S b)
    (sl : ∀ (i : Nat) (a : A), e[i]? = some (some a) → ∃ v, σ[i]? = some (some v) ∧ SlotOk M S H v a) (hP : ∀ p ∈ P, Dz M.K S H p.1 p.2) : Rep (M.blk D S P) n (upd H D o) σ e := by
  have kk : Kp M.hs H (upd H D o) := Kp.new hD
  have hsS : ∀ b ∈ M.hs, S b := fun b z => sub b (Amb.sub b z)
  have sS : ∀ b, (M.blk D S P).S σ e b → S b ∨ H b = none := fun b z => by
    rcases z with z | z | z | z
    · exact .inl (sub b (.inl z))
    · exact .inl (hsS b z)
    · exact .inr (by rw [z]; exact hD)
    · exact .inl z
  refine ⟨R.len, fun i a ha => ?_, R.inj, ⟨(R.ok.new hD).hand, (R.ok.new hD).tabs⟩, R.kp.trans kk, fun b hb => ?_, R.hs0, (fun z => by cases z), fun p hp => Dz.step (M := M) R.ok kk hsS (hP p hp) sS⟩
  · obtain ⟨v, h1, h2⟩ := sl i a ha
    refine ⟨v, h1, ?_⟩
    cases a with
    | d x => exact Dz.step (M := M) R.ok kk hsS h2 sS
    | hd => exact h2
    | ol xs =>
      obtain ⟨b, vs, e1, e2, e3, e4⟩ := h2
      exact ⟨b, vs, e1, e2, Kp.new (ms := []) hD b _ (by simp) e3, Dzs.step (M := M) R.ok kk hsS e4 sS⟩
    | od xs =>
      obtain ⟨b, vs, e1, e2, e3, e4⟩ := h2
      exact ⟨b, vs, e1, e2, Kp.new (ms := []) hD b _ (by simp) e3, Dzk.step (M := M) R.ok kk hsS e4 sS⟩
    | ot w xs =>
      obtain ⟨b, vs, e1, e2, e3, e4⟩ := h2
      exact ⟨b, vs, e1, e2, Kp.new (ms := []) hD b _ (by simp) e3, Dzt.step (M := M) R.ok kk hsS e4 sS⟩
    | «at» i => exact h2
    | ty s => exact h2
    | rf _ _ _ => exact RfOk.step (M := M) R.ok kk hsS h2 sS
  · rcases hb with rfl | hb
    · rw [upd_same]; intro z; cases z
    · by_cases h : b = D
      · rw [h, upd_same]; intro z; cases z
      · rw [upd_ne h]; exact hS b hb
/-- the list D otherwise filled -/
theorem Rep.blkPut {D : Addr} {S : Addr → Prop} {P : List (V × PyData)} {us vs : List V} (R : Rep (M.blk D S P) n H σ e) (hD : H D = some (.lst us)) (h0 : M.H0 D = none) (hS : ¬ S D) (sub : ∀ b, M.S σ e b → S b) :
    Rep (M.blk D S P) n (upd H D (.lst vs)) σ e := by
  have sD : (M.blk D S P).S σ e D := .inr (.inr (.inl rfl))
  have keep : ∀ b q, ¬ (M.blk D S P).S σ e b → H b = some q → upd H D (.lst vs) b = some q := fun b q hb hq => by
    rw [upd_ne (fun z => hb (by rw [z]; exact sD))]; exact hq
  have tup : ∀ b xs, SqT M.K H b xs → SqT M.K (upd H D (.lst vs)) b xs := fun b xs hb =>
    SqT.kp (ms := [D]) (Kp.put (by simp)) (fun q hq => by rw [List.mem_singleton.mp hq]; exact .lst hD) hb
  have dhs : D ∉ M.hs := fun z => hS (sub D (Amb.sub D z))
  have ne : ∀ {h}, h ∈ M.hs → h ≠ D := fun {h} hh z => dhs (by rw [← z]; exact hh)
  have own : ∀ b, OwnS σ e b → b ≠ D := fun b hb z => hS (by rw [← z]; exact sub b (.inl hb))
  refine ⟨R.len, fun i a ha => ?_, R.inj, ⟨fun h q => ?_, fun t ht => ?_⟩, R.kp.put0 h0, fun b hb => ?_, R.hs0, (fun z => by cases z), fun p hp => Dz.map keep tup (fun _ z => .inl z) (R.pin p hp)⟩
  · obtain ⟨v, h1, h2⟩ := R.slot i a ha
    refine ⟨v, h1, ?_⟩
    cases a with
    | d x => exact Dz.map keep tup (fun _ z => .inl z) h2
    | hd => exact h2
    | ol xs =>
      obtain ⟨b, vs, e1, e2, e3, e4⟩ := h2
      subst e1
      exact ⟨b, vs, rfl, e2, by rw [upd_ne (own b ⟨i, _, h1, ha, trivial⟩)]; exact e3, Dzs.map keep tup (fun _ z => .inl z) e4⟩
    | od xs =>
      obtain ⟨b, vs, e1, e2, e3, e4⟩ := h2
      subst e1
      exact ⟨b, vs, rfl, e2, by rw [upd_ne (own b ⟨i, _, h1, ha, trivial⟩)]; exact e3, Dzk.map keep tup (fun _ z => .inl z) e4⟩
    | ot w xs =>
      obtain ⟨b, vs, e1, e2, e3, e4⟩ := h2
      subst e1
      exact ⟨b, vs, rfl, e2, by rw [upd_ne (own b ⟨i, _, h1, ha, trivial⟩)]; exact e3, Dzt.map keep tup (fun _ z => .inl z) e4⟩
    | «at» i => exact h2
    | ty s => exact h2
    | rf _ _ _ => exact RfOk.map (fun d q e => by rw [upd_ne (fun z => lstNoCode hD q (by rw [← z]; exact e))]; exact e) keep tup (fun _ z => .inl z) h2
  · refine M.hp.keep (ms := [D]) (R.ok.hand h q) (Kp.put (by simp)) ?_ (one1 (Loose.lst hD))
    have : h ∈ M.hs := List.mem_append_left _ (by rw [show M.hand = some h from q]; exact List.mem_singleton.mpr rfl)
    simpa using ne this
  · refine TabX.keep (R.ok.tabs t ht) (ms := [D]) (Kp.put (by simp)) ?_ (one1 (lstNoCode hD))
    simpa using ne (List.mem_append_right _ ht)
  · by_cases h : b = D
    · rw [h, upd_same]; intro z; cases z
    · rw [upd_ne h]; exact R.s0 b hb
theorem ab_lc {wi : TI} {g : TG} {tt : TT} {te : TE} {w : AIW} {T : Tg} {wt : ATW} {wv : AW} {vs : List Nat} (hi : AbI L wi w) (hg : AbG L g T) (ht : AbT L tt wt) (hv : AbE L te wv) (hs' : (T.slots.all fun j => vs.contains j) = true) :
    AbE L (tLc wi g tt te vs) (aLc w T wt wv vs) := by
  have hs : ∀ j ∈ T.slots, j ∈ vs := fun j hj => by simpa using List.all_eq_true.mp hs' j hj
  intro M n H σ e q Q l R hw p
  refine hi M n H σ e _ _ l R hw fun J H1 xs m P0 h1 R1 k1 hP W => ?_
  replace h1 := unhold h1
  intro D hD
  have nS : ¬ M.S σ e D := R1.nS hD
  have h0 : M.H0 D = none := R1.kp.free hD fun z => nS (Amb.sub D z)
  have hsD : D ∉ M.hs := fun z => nS (Amb.sub D z)
  let B : Amb := M.blk D (M.S σ e) P0
  have lB : L.Of B := l
  have sub0 : ∀ b, M.S (wipe σ vs) (wipeA e vs) b → M.S σ e b := fun b z => by
    rcases z with z | z
    · exact .inl (ownWipe vs z)
    · exact .inr z
  have sl0 : ∀ (i : Nat) (a : A), (wipeA e vs)[i]? = some (some a) → ∃ v, (wipe σ vs)[i]? = some (some v) ∧ SlotOk M (M.S σ e) H1 v a := by
    suffices h : ∀ us : List Nat, ∀ (i : Nat) (a : A), (wipeA e us)[i]? = some (some a) → ∃ v, (wipe σ us)[i]? = some (some v) ∧ SlotOk M (M.S σ e) H1 v a from h vs
    intro us
    induction us with
    | nil => exact R1.slot
    | cons u us ih =>
      intro i a ha
      rw [wipeA] at ha
      rcases getSet ha with ⟨_, z, _⟩ | ⟨ni, ha⟩
      · cases z
      · obtain ⟨v, h1, h2⟩ := ih i a ha
        exact ⟨v, by rw [L2.wipe, setNe ni]; exact h1, h2⟩
  have RB : Rep B m (upd H1 D (.lst [])) (wipe σ vs) (wipeA e vs) := (R1.wipe vs).blk hD (fun b z => R1.there z) sub0 sl0 hP
  have weak : ∀ {H σ e n}, Rep B n H σ e → ∀ p ∈ P0, Dz M.K (fun _ => False) H p.1 p.2 := fun {H σ e n} R p hp => (R.pin p hp).weak fun _ z => z.elim
  have S' : ∀ {σ2 e2}, ∀ b, b = D ∨ M.S σ e b → B.S σ2 e2 b := fun b z => .inr (.inr z)
  refine ⟨fun i c H => c = xs.length - i ∧ i ≤ xs.length ∧ ∃ (n : Nat) (acc : List PyData) (us : List V), Rep B n H (wipe σ vs) (wipeA e vs) ∧ Kp M.hs H1 H ∧ H D = some (.lst us) ∧ Dzs M.K (fun b => b = D ∨ M.S σ e b) H us acc ∧ aGo T wt wv (wipeA e vs) q (xs.drop i) acc n,
    ⟨xs.length, rfl, Nat.zero_le _, m, [], [], RB, Kp.new hD, upd_same, .nil, h1⟩, ?_⟩
  rintro i c H2 ⟨rfl, hil, n2, acc, us, R2, k2, hD2, hz2, h2⟩
  by_cases hlt : i < xs.length
  · rw [List.drop_eq_getElem_cons hlt, aGo] at h2
    refine .inr ⟨W.goes i H2 hlt (weak R2), fun H => ∃ (n : Nat) (acc : List PyData) (us : List V), Rep B n H (wipe σ vs) (wipeA e vs) ∧ Kp M.hs H1 H ∧ H D = some (.lst us) ∧ Dzs M.K (fun b => b = D ∨ M.S σ e b) H us acc ∧ aGo T wt wv (wipeA e vs) q (xs.drop (i + 1)) acc n,
      fun H' h => ⟨_, by omega, rfl, hlt, h⟩, fun x H3 y => ?_⟩
    obtain ⟨kk, yy⟩ := W.yields i H2 x H3 hlt (weak R2) y
    have R3 : Rep B n2 H3 (wipe σ vs) (wipeA e vs) := R2.step (kk.wide (by simp)) (R2.ok.kp0 kk)
    obtain ⟨dd, h3, h4⟩ := yy (B.S (wipe σ vs) (wipeA e vs)) (fun p hp => R2.pin p hp) fun b z => R2.there z
    rw [List.getElem?_eq_getElem hlt] at h3
    cases h3
    have hsB : ∀ b ∈ B.hs, (b = D ∨ M.S σ e b) := fun b z => .inr (Amb.sub b z)
    refine hg B n2 H3 _ _ x _ _ _ lB R3 h4 h2 fun σ4 e4 h5 R4 c4 s4 => ⟨wipeChg hs c4, ?_⟩
    refine ht B n2 H3 σ4 e4 _ _ lB R4 h5 fun b H5 m5 h6 R5 k5 => ?_
    have hD5 : H5 D = some (.lst us) := k5 D _ hsD (kk D _ (by simp) hD2)
    have hz5 : Dzs M.K (fun b => b = D ∨ M.S σ e b) H5 us acc := Dzs.step (M := B) R3.ok k5 hsB (Dzs.step (M := B) R2.ok (kk.wide (by simp) : Kp B.hs H2 H3) hsB hz2 fun _ z => .inl z) fun _ z => .inl z
    have k15 : Kp M.hs H1 H5 := (k2.trans (kk.wide (by simp))).trans k5
    have R35 : Rep B m5 H5 (wipe σ vs) (wipeA e vs) := R3.step k5 R5.ok
    cases b with
    | false => exact ⟨m5, acc, us, R35, k15, hD5, hz5, h6⟩
    | true =>
      refine hv B m5 H5 σ4 e4 _ _ lB R5 h6 fun v H6 a m6 h7 R6 k6 r6 => ?_
      obtain ⟨y, hy, hlen, h7⟩ := h7
      have zy : Dz M.K (fun b => b = D ∨ M.S σ e b) H6 v y := Dz.weak (r6.sto hy) fun b z => .inl (S' b z)
      have hD6 : H6 D = some (.lst us) := k6 D _ hsD hD5
      have hz6 : Dzs M.K (fun b => b = D ∨ M.S σ e b) H6 us acc := Dzs.step (M := B) R5.ok k6 hsB hz5 fun _ z => .inl z
      have R36 : Rep B m6 H6 (wipe σ vs) (wipeA e vs) := R35.step k6 R6.ok
      have keep : ∀ b q, ¬ (b = D ∨ M.S σ e b) → H6 b = some q → upd H6 D (.lst (us ++ [v])) b = some q := fun b q hb hq => by
        rw [upd_ne (fun z => hb (.inl z))]; exact hq
      have tup : ∀ b xs, SqT M.K H6 b xs → SqT M.K (upd H6 D (.lst (us ++ [v]))) b xs := fun b xs hb =>
        SqT.kp (ms := [D]) (Kp.put (by simp)) (fun q hq => by rw [List.mem_singleton.mp hq]; exact .lst hD6) hb
      refine ⟨us, hD6, by rw [hz6.length]; exact hlen, m6, acc ++ [y], us ++ [v], R36.blkPut hD6 h0 nS sub0, (k15.trans k6).put0 hD, upd_same, ?_, h7⟩
      exact Dzs.append (Dzs.map keep tup (fun _ z => .inl z) hz6) (.cons (Dz.map keep tup (fun _ z => .inl z) zy) .nil)
  · have e0 : i = xs.length := by omega
    subst e0
    rw [List.drop_length, aGo] at h2
    refine .inl ⟨W.stops H2 (weak R2), p.from R.ok k1 _ _ _ n2 h2 (R1.step k2 ⟨R2.ok.hand, R2.ok.tabs⟩) k2 ⟨D, us, rfl, hD, nS, hD2, hz2⟩⟩
end
theorem noxK {CX : CXT} {P : Program} {w : World} {K : PySem.W.Frag} {mg : Str → Option Value} {base : Heap} {N : List Str} {qual : Str} {scope : Scope} {f : Addr} {cd : Value} {A : Around} {outer : List Env} {s : Shared} {H : Hp} {E : XK} :
    (cxOf CX P w K mg base N qual scope f cd A outer s H E).nox.K = K := rfl
end Ah

namespace Ah
open PySem PySem.Spec PyProof.Rows L2
/-! ## data without lists and dicts is apart from all; conversions -/
mutual
/-- the dicts in it are empty -/
def noD : PyData → Bool
  | .none => true
  | .bool _ => true
  | .int _ => true
  | .str _ => true
  | .dict ds => ds.isEmpty
  | .tuple ds => noDs ds
  | .list ds => noDs ds
def noDs : List PyData → Bool
  | [] => true
  | d :: ds => noD d && noDs ds
end
mutual
theorem Dz.dy {K : PySem.W.Frag} {S : Addr → Prop} {H : Hp} : ∀ (d : PyData) {v : V}, noD d = true → Dz K S H v d → Dy K [] H v d
  | .none, _, _, h => by cases h; exact .non
  | .bool b, _, _, h => by cases h; exact .bl b
  | .int i, _, _, h => by cases h; exact .int i
  | .str x, _, _, h => by cases h; exact .str x
  | .list ds, _, f, h => by
    rw [noD] at f
    cases h with
    | lst a b c => exact .lst (by simp) b (Dzs.dy ds f c)
  | .tuple ds, _, f, h => by
    rw [noD] at f
    cases h with
    | tup b c => exact .tup b (Dzs.dy ds f c)
  | .dict ds, _, f, h => by
    rw [noD, List.isEmpty_iff] at f
    subst f
    cases h with
    | dic a b c => cases c; exact .dic (by simp) b
theorem Dzs.dy {K : PySem.W.Frag} {S : Addr → Prop} {H : Hp} : ∀ (ds : List PyData) {vs : List V}, noDs ds = true → Dzs K S H vs ds → Dys K [] H vs ds
  | [], _, _, h => by cases h; exact .nil
  | d :: ds, _, f, h => by
    rw [noDs, Bool.and_eq_true] at f
    cases h with
    | cons a b => exact .cons (Dz.dy d f.1 a) (Dzs.dy ds f.2 b)
end
mutual
theorem Dz.dp {K : PySem.W.Frag} {S : Addr → Prop} {H : Hp} : ∀ (d : PyData) {v : V}, d.hasDict = false → Dz K S H v d → Dp K H v d
  | .none, _, _, h => by cases h; exact .non
  | .bool b, _, _, h => by cases h; exact .bl b
  | .int i, _, _, h => by cases h; exact .int i
  | .str x, _, _, h => by cases h; exact .str x
  | .list ds, _, f, h => by
    simp only [PyData.hasDict] at f
    cases h with
    | lst a b c => exact .lst (SqL.of b) (Dzs.dp ds f c)
  | .tuple ds, _, f, h => by
    simp only [PyData.hasDict] at f
    cases h with
    | tup b c => exact .tup b (Dzs.dp ds f c)
  | .dict ds, _, f, h => by simp [PyData.hasDict] at f
theorem Dzs.dp {K : PySem.W.Frag} {S : Addr → Prop} {H : Hp} : ∀ (ds : List PyData) {vs : List V}, PyData.hasDictAll ds = false → Dzs K S H vs ds → DpAll K H vs ds
  | [], _, _, h => by cases h; exact .nil
  | d :: ds, _, f, h => by
    simp only [PyData.hasDictAll, Bool.or_eq_false_iff] at f
    cases h with
    | cons a b => exact .cons (Dz.dp d f.1 a) (Dzs.dp ds f.2 b)
end
section
variable {L : La} {M : Amb} {n m : Nat} {H Hs H' : Hp} {σ : L2.St} {e : AEnv} {v : V} {a : A} {i : Nat}
/-! ### operators -/
def sV : PyData → Option V
  | .none => some .non
  | .bool b => some (.bl b)
  | .int i => some (.int i)
  | .str s => some (.str s)
  | _ => none
def vD : V → Option PyData
  | .non => some .none
  | .bl b => some (.bool b)
  | .int i => some (.int i)
  | .str s => some (.str s)
  | _ => none
theorem Dz.sV {K : PySem.W.Frag} {S : Addr → Prop} {x : PyData} {w : V} (h : Dz K S H v x) (hs : Ah.sV x = some w) : v = w := by
  cases x <;> first | (cases h; cases hs; rfl) | cases hs
theorem vDz {K : PySem.W.Frag} {S : Addr → Prop} {x : PyData} (h : vD v = some x) : Dz K S H v x := by
  cases v with
  | non => cases h; exact .non
  | bl b => cases h; exact .bl b
  | int i => cases h; exact .int i
  | str s => cases h; exact .str s
  | byt _ => cases h
  | flt _ => cases h
  | ref _ => cases h
  | ty _ => cases h
theorem relI {j : Int} (h : RelR M (M.S σ e) Hs H σ e v (.d (.int j))) : v = .int j := by cases h; rfl
theorem relS {j : Str} (h : RelR M (M.S σ e) Hs H σ e v (.d (.str j))) : v = .str j := by cases h; rfl
theorem okE {q : AQ} {Q : VK} (R : Rep M n H σ e) (p : PostE M H σ e q Q) {x : PyData} (hq : q (.d x) n) (hv : Dz M.K (M.S σ e) H v x) : Q v H := p v H _ n hq R (Kp.refl _ _) hv
def fI (C : Int → Int → Prop) (g : Int → Int → V) (a b : A) : AW := fun e n q => ∃ i j x, a = .d (.int i) ∧ b = .d (.int j) ∧ C i j ∧ vD (g i j) = some x ∧ q (.d x) n
theorem oa_I {C : Int → Int → Prop} {g : Int → Int → V} : OpA L (rI C g) (fI C g) := by
  intro M n H Hs σ e x y a b q Q l R ra rb h p
  obtain ⟨i, j, z, rfl, rfl, hc, hz, hq⟩ := h
  exact ⟨i, j, relI ra, relI rb, hc, okE R p hq (vDz hz)⟩
def fI0 (g : Int → Int → V) (a b : A) : AW := fun e n q => ∃ i j x, a = .d (.int i) ∧ b = .d (.int j) ∧ vD (g i j) = some x ∧ q (.d x) n
theorem oa_I0 {g : Int → Int → V} : OpA L (rI0 g) (fI0 g) := by
  intro M n H Hs σ e x y a b q Q l R ra rb h p
  obtain ⟨i, j, z, rfl, rfl, hz, hq⟩ := h
  exact ⟨i, j, relI ra, relI rb, okE R p hq (vDz hz)⟩
def fEq (f : Bool → Bool) (a b : A) : AW := fun e n q => ∃ x y v w, a = .d x ∧ b = .d y ∧ sV x = some v ∧ sV y = some w ∧ scal v w = true ∧ q (.d (.bool (f (decide (v = w))))) n
theorem oa_eq : OpA L rEq (fEq id) := by
  intro M n H Hs σ e x y a b q Q l R ra rb h p
  obtain ⟨x', y', v, w, rfl, rfl, h1, h2, h3, hq⟩ := h
  obtain rfl := Dz.sV ra h1
  obtain rfl := Dz.sV rb h2
  exact ⟨h3, okE R p hq (.bl _)⟩
theorem oa_ne : OpA L rNe (fEq not) := by
  intro M n H Hs σ e x y a b q Q l R ra rb h p
  obtain ⟨x', y', v, w, rfl, rfl, h1, h2, h3, hq⟩ := h
  obtain rfl := Dz.sV ra h1
  obtain rfl := Dz.sV rb h2
  exact ⟨h3, okE R p hq (.bl _)⟩
def fEqD (f : Bool → Bool) (a b : A) : AW := fun e n q => ∃ x y, a.rd e = some x ∧ b.rd e = some y ∧ SeqAt.shaped x = true ∧ SeqAt.shaped y = true ∧ x.hasDict = false ∧ y.hasDict = false ∧ q (.d (.bool (f (PyData.eqv x y)))) n
theorem oa_eqD : OpA L (rEqD L.K) (fEqD id) := by
  intro M n H Hs σ e x y a b q Q l R ra rb h p
  obtain ⟨x', y', h1, h2, h3, h4, h5, h6, hq⟩ := h
  have g1 := (ra.rdv R h1).all
  have g2 := (rb.rdv R h2).all
  rw [l.1] at g1 g2
  exact ⟨x', y', Dz.dp _ h5 g1, Dz.dp _ h6 g2, h3, h4, okE R p hq (.bl _)⟩
theorem oa_neD : OpA L (rNeD L.K) (fEqD not) := by
  intro M n H Hs σ e x y a b q Q l R ra rb h p
  obtain ⟨x', y', h1, h2, h3, h4, h5, h6, hq⟩ := h
  have g1 := (ra.rdv R h1).all
  have g2 := (rb.rdv R h2).all
  rw [l.1] at g1 g2
  exact ⟨x', y', Dz.dp _ h5 g1, Dz.dp _ h6 g2, h3, h4, okE R p hq (.bl _)⟩
def fIsTy (f : Bool → Bool) (a b : A) : AW := fun e n q => ∃ s t, a = .ty s ∧ b = .ty t ∧ q (.d (.bool (f (decide (s = t))))) n
theorem oa_isTyB : OpA L (fun x y H Q => ∃ a b, x = .ty a ∧ y = .ty b ∧ Q (.bl (decide (a = b))) H) (fIsTy id) := by
  intro M n H Hs σ e x y a b q Q l R ra rb h p
  obtain ⟨s, t, rfl, rfl, hq⟩ := h
  exact ⟨s, t, ra, rb, okE R p hq (.bl _)⟩
theorem oa_notTyB : OpA L (fun x y H Q => ∃ a b, x = .ty a ∧ y = .ty b ∧ Q (.bl (!decide (a = b))) H) (fIsTy not) := by
  intro M n H Hs σ e x y a b q Q l R ra rb h p
  obtain ⟨s, t, rfl, rfl, hq⟩ := h
  exact ⟨s, t, ra, rb, okE R p hq (.bl _)⟩
def fIsN (f : Bool → Bool) (a b : A) : AW := fun e n q => ∃ x, a.rd e = some x ∧ b = .d .none ∧ q (.d (.bool (f (decide (kindD x = "NoneType"))))) n
theorem isNon {K : PySem.W.Frag} {S : Addr → Prop} {x : PyData} (h : Rdv K S H v x) : decide (v = .non) = decide (kindD x = "NoneType") := by
  have z := h.all
  cases z <;> simp [kindD]
theorem oa_isN : OpA L (fun x y H Q => y = .non ∧ Q (.bl (decide (x = .non))) H) (fIsN id) := by
  intro M n H Hs σ e x y a b q Q l R ra rb h p
  obtain ⟨s, h1, rfl, hq⟩ := h
  refine ⟨by cases rb; rfl, ?_⟩
  rw [isNon (ra.rdv R h1)]
  exact okE R p hq (.bl _)
theorem oa_notN : OpA L (fun x y H Q => y = .non ∧ Q (.bl (!decide (x = .non))) H) (fIsN not) := by
  intro M n H Hs σ e x y a b q Q l R ra rb h p
  obtain ⟨s, h1, rfl, hq⟩ := h
  refine ⟨by cases rb; rfl, ?_⟩
  rw [isNon (ra.rdv R h1)]
  exact okE R p hq (.bl _)
def fAddS (a b : A) : AW := fun e n q => ∃ i j, a = .d (.str i) ∧ b = .d (.str j) ∧ i.length + j.length ≤ sizeLine ∧ q (.d (.str (i ++ j))) n
theorem oa_addS : OpA L (fun x y H Q => ∃ i j : Str, x = .str i ∧ y = .str j ∧ i.length + j.length ≤ sizeLine ∧ Q (.str (i ++ j)) H) fAddS := by
  intro M n H Hs σ e x y a b q Q l R ra rb h p
  obtain ⟨i, j, rfl, rfl, hc, hq⟩ := h
  exact ⟨i, j, relS ra, relS rb, hc, okE R p hq (.str _)⟩
def fMulS (a b : A) : AW := fun e n q => ∃ i j, a = .d (.str i) ∧ b = .d (.int j) ∧ MulOk i j ∧ q (.d (.str (Txt.mul i j))) n
theorem oa_mulS : OpA L rMulS fMulS := by
  intro M n H Hs σ e x y a b q Q l R ra rb h p
  obtain ⟨i, j, rfl, rfl, hc, hq⟩ := h
  exact ⟨i, j, relS ra, relI rb, hc, okE R p hq (.str _)⟩
def fCatT (a b : A) : AW := fun e n q => ∃ xs ys, a = .d (.tuple xs) ∧ b = .d (.tuple ys) ∧ xs.length + ys.length ≤ sizeLine ∧ q (.d (.tuple (xs ++ ys))) n
theorem oa_catU : OpA L (rCatU L.K) fCatT := by
  intro M n H Hs σ e x y a b q Q l R ra rb h p
  obtain ⟨xs, ys, rfl, rfl, hc, hq⟩ := h
  have ra : Dz M.K _ H x _ := ra
  have rb : Dz M.K _ H y _ := rb
  cases ra with
  | tup a1 a2 =>
    cases rb with
    | tup b1 b2 =>
      refine ⟨_, _, _, _, rfl, rfl, l.1 ▸ a1, l.1 ▸ b1, by rw [a2.length, b2.length]; exact hc, fun r H1 k1 hr => ?_⟩
      have k2 : Kp M.hs H H1 := k1.wide (by simp)
      refine p _ H1 _ n hq (R.step k2 (R.ok.kp0 k1)) k2 (.tup (by rw [l.1]; exact hr) ?_)
      exact Dzs.step R.ok k2 Amb.sub (Dzs.append a2 b2) fun _ z => .inl z
def fCatL (a b : A) : AW := fun e n q => ∃ xs ys, a.rd e = some (.list xs) ∧ b.rd e = some (.list ys) ∧ xs.length + ys.length ≤ sizeLine ∧ q (.ol (xs ++ ys)) n
theorem oa_cat : OpA L rCat fCatL := by
  intro M n H Hs σ e x y a b q Q l R ra rb h p
  obtain ⟨xs, ys, h1, h2, hc, hq⟩ := h
  obtain ⟨c, us, rfl, c1, c2⟩ := (ra.rdv R h1).list
  obtain ⟨d, vs, rfl, d1, d2⟩ := (rb.rdv R h2).list
  refine ⟨c, d, us, vs, rfl, rfl, c1, d1, by rw [c2.length, d2.length]; exact hc, fun r hr => ?_⟩
  exact p _ _ _ n hq (R.new hr) (Kp.new hr) (relNewL R hr (Dzs.append c2 d2))
def fRepT (a b : A) : AW := fun e n q => ∃ xs k, a = .d (.tuple xs) ∧ b = .d (.int k) ∧ xs ≠ [] ∧ 2 ≤ k ∧ k ≤ 1000 ∧ xs.length ≤ 1000 ∧ q (.d (.tuple (List.replicate k.toNat xs).flatten)) n
theorem Dzs.rep {K : PySem.W.Frag} {S : Addr → Prop} {us : List V} {xs : List PyData} (h : Dzs K S H us xs) : ∀ k : Nat, Dzs K S H (List.replicate k us).flatten (List.replicate k xs).flatten
  | 0 => .nil
  | k + 1 => by
    rw [List.replicate_succ, List.replicate_succ, List.flatten_cons, List.flatten_cons]
    exact Dzs.append h (Dzs.rep h k)
theorem oa_repT : OpA L (rRepT L.K) fRepT := by
  intro M n H Hs σ e x y a b q Q l R ra rb h p
  obtain ⟨xs, k, rfl, rfl, c1, c2, c3, c4, hq⟩ := h
  have ra : Dz M.K _ H x _ := ra
  cases ra with
  | tup a1 a2 =>
    refine ⟨_, k, _, rfl, relI rb, l.1 ▸ a1, ?_, c2, c3, by rw [a2.length]; exact c4, fun r hr => ?_⟩
    · rintro rfl; cases a2; exact c1 rfl
    · exact p _ _ _ n hq (R.new hr) (Kp.new hr) (relNewT R hr (a2.rep _))
def fIx (a b : A) : AW := fun e n q => ∃ x i, a.rd e = some x ∧ b = .d (.int i) ∧ match x with
  | .list xs => ∃ y, atI xs i = some y ∧ q (.d y) n
  | .tuple xs => ∃ y, atI xs i = some y ∧ q (.d y) n
  | .str z => z.length ≤ sizeLine ∧ ∃ c, atI z.cps.toList i = some c ∧ q (.d (.str ⟨#[c]⟩)) n
  | _ => False
theorem Dzs.atI {K : PySem.W.Frag} {S : Addr → Prop} {us : List V} {xs : List PyData} {i : Int} {y : PyData} (h : Dzs K S H us xs) (hy : L2.atI xs i = some y) : ∃ v, L2.atI us i = some v ∧ Dz K S H v y := by
  unfold L2.atI at hy ⊢
  rw [h.length]
  cases hi : ixN xs.length i with
  | none => rw [hi] at hy; cases hy
  | some j =>
    rw [hi] at hy
    exact h.get' hy
theorem LenPos {us : List V} {xs : List PyData} {K : PySem.W.Frag} {S : Addr → Prop} (h : Dzs K S H us xs) : us.length = xs.length := h.length
theorem oa_ixQ : OpA L (rIx L.K) fIx := by
  intro M n H Hs σ e x y a b q Q l R ra rb h p
  obtain ⟨x', i, h1, rfl, h2⟩ := h
  have rv := ra.rdv R h1
  cases x' with
  | list xs =>
    obtain ⟨c, us, rfl, c1, c2⟩ := rv.list
    obtain ⟨y', h2, h3⟩ := h2
    obtain ⟨w, h4, h5⟩ := c2.atI h2
    exact .inl ⟨c, us, i, w, rfl, relI rb, SqL.of c1, h4, okE R p h3 h5⟩
  | tuple xs =>
    obtain ⟨c, us, rfl, c1, c2⟩ := rv.tuple
    obtain ⟨y', h2, h3⟩ := h2
    obtain ⟨w, h4, h5⟩ := c2.atI h2
    exact .inr (.inl ⟨c, us, i, w, rfl, relI rb, l.1 ▸ c1, h4, okE R p h3 h5⟩)
  | str z =>
    obtain ⟨h2, c, h3, h4⟩ := h2
    cases rv.dz (by simp) (by simp)
    exact .inr (.inr ⟨z, i, c, rfl, relI rb, h2, h3, okE R p h4 (.str _)⟩)
  | none => exact h2.elim
  | bool _ => exact h2.elim
  | int _ => exact h2.elim
  | dict _ => exact h2.elim
/-! ### slices -/
def cutL {α : Type} (xs : List α) (lo hi : Option Int) : List α := (xs.drop (HT.sIx xs.length 0 lo)).take (HT.sIx xs.length xs.length hi - HT.sIx xs.length 0 lo)
theorem Dzs.cut {K : PySem.W.Frag} {S : Addr → Prop} {us : List V} {xs : List PyData} (h : Dzs K S H us xs) (lo hi : Option Int) : Dzs K S H (cutV us lo hi) (cutL xs lo hi) := by
  unfold cutV cutL
  rw [h.length]
  exact (h.drop _).take _
abbrev AOW := AEnv → Nat → (Option Int → Nat → Prop) → Prop
def AbO (L : La) (t : TO) (w : AOW) : Prop := ∀ M n H σ e q Q, L.Of M → Rep M n H σ e → w e n q → (∀ b H' m, q b m → Rep M m H' σ e → Kp M.hs H H' → Q b H') → t σ H Q
def aNoPart : AOW := fun _ n q => q none n
def aPart (w : AW) : AOW := fun e n q => w e n fun a m => ∃ i, a = .d (.int i) ∧ q (some i) m
theorem ab_noPart : AbO L tNoPart aNoPart := fun M n H σ e q Q l R h p => p _ H n h R (Kp.refl _ _)
theorem ab_part {t : TE} {w : AW} (h : AbE L t w) : AbO L (tPart t) (aPart w) := by
  intro M n H σ e q Q l R hw p
  refine h M n H σ e _ _ l R hw fun v H1 a m h1 R1 k1 r1 => ?_
  obtain ⟨i, rfl, h1⟩ := h1
  exact ⟨i, relI r1, p _ _ m h1 R1 k1⟩
/-- a list, a tuple, a text -/
def rSlAny (K : PySem.W.Frag) : V → Option Int → Option Int → Hp → VK → Prop := fun x lo hi H Q => rSlL K x lo hi H Q ∨ (rSlU K x lo hi H Q ∨ rSlS x lo hi H Q)
theorem slQ {X : Cx} (K : PySem.W.Frag) (h : X.K = K := by rfl) : SlR X (rSlAny K) := h ▸ (sl_list.or (sl_tupU.or sl_str))
def aSl (wa : AW) (wl wh : AOW) : AW := fun e n q => wa e n fun a m => wl e m fun lo m2 => wh e m2 fun hi m3 => ∃ x, a.rd e = some x ∧ match x with
  | .list xs => q (.ol (cutL xs lo hi)) m3
  | .tuple xs => q (.d (.tuple (cutL xs lo hi))) m3
  | .str z => z.length ≤ sizeLine ∧ q (.d (.str (cutS z lo hi))) m3
  | _ => False
theorem ab_sl {ta : TE} {tl th : TO} {wa : AW} {wl wh : AOW} (ha : AbE L ta wa) (hl : AbO L tl wl) (hh : AbO L th wh) : AbE L (tSl (rSlAny L.K) ta tl th) (aSl wa wl wh) := by
  intro M n H σ e q Q l R hw p
  refine ha M n H σ e _ _ l R hw fun v H1 a m h1 R1 k1 r1 => ?_
  refine hl M m H1 σ e _ _ l R1 h1 fun lo H2 m2 h2 R2 k2 => ?_
  refine hh M m2 H2 σ e _ _ l R2 h2 fun hi H3 m3 h3 R3 k3 => ?_
  obtain ⟨x, hx, h4⟩ := h3
  have r3 := (r1.step R1.ok k2 R.ok.there).step R2.ok k3 R.ok.there
  have rv := r3.rdv R3 hx
  have pp := p.from R.ok ((k1.trans k2).trans k3)
  cases x with
  | list xs =>
    obtain ⟨c, us, rfl, c1, c2⟩ := rv.list
    exact .inl ⟨c, us, rfl, SqL.of c1, fun r hr => pp _ _ _ m3 h4 (R3.new hr) (Kp.new hr) (relNewL R3 hr (c2.cut lo hi))⟩
  | tuple xs =>
    obtain ⟨c, us, rfl, c1, c2⟩ := rv.tuple
    refine .inr (.inl ⟨c, us, rfl, l.1 ▸ c1, fun r H4 k4 hr => ?_⟩)
    have k5 : Kp M.hs H3 H4 := k4.wide (by simp)
    refine pp _ H4 _ m3 h4 (R3.step k5 (R3.ok.kp0 k4)) k5 (.tup (by rw [l.1]; exact hr) (Dzs.step R3.ok k5 Amb.sub (c2.cut lo hi) fun _ z => .inl z))
  | str z =>
    obtain ⟨h2, h4⟩ := h4
    cases rv.dz (by simp) (by simp)
    exact .inr (.inr ⟨z, rfl, h2, okE R3 pp h4 (.str _)⟩)
  | none => exact h4.elim
  | bool _ => exact h4.elim
  | int _ => exact h4.elim
  | dict _ => exact h4.elim
def aBackT (w : AW) : AW := fun e n q => w e n fun a m => ∃ xs, a = .d (.tuple xs) ∧ q (.d (.tuple xs.reverse)) m
theorem ab_backT {t : TE} {w : AW} (h : AbE L t w) : AbE L (tBackT L.K t) (aBackT w) := by
  intro M n H σ e q Q l R hw p
  refine h M n H σ e _ _ l R hw fun v H1 a m h1 R1 k1 r1 => ?_
  obtain ⟨xs, rfl, h1⟩ := h1
  have r1 : Dz M.K _ H1 v _ := r1
  cases r1 with
  | tup a1 a2 => exact ⟨_, _, rfl, l.1 ▸ a1, fun r hr => p.from R.ok k1 _ _ _ m h1 (R1.new hr) (Kp.new hr) (relNewT R1 hr a2.reverse)⟩
def aBack0 (w : AW) : AW := fun e n q => w e n fun a m => ∃ y xs, a = .d (.tuple (y :: xs)) ∧ q (.d (.tuple xs.reverse)) m
theorem ab_back0 {t : TE} {w : AW} (h : AbE L t w) : AbE L (tBack0 L.K t) (aBack0 w) := by
  intro M n H σ e q Q l R hw p
  refine h M n H σ e _ _ l R hw fun v H1 a m h1 R1 k1 r1 => ?_
  obtain ⟨y, xs, rfl, h1⟩ := h1
  have r1 : Dz M.K _ H1 v _ := r1
  cases r1 with
  | tup a1 a2 =>
    cases a2 with
    | cons b1 b2 => exact ⟨_, _, _, rfl, l.1 ▸ a1, fun r hr => p.from R.ok k1 _ _ _ m h1 (R1.new hr) (Kp.new hr) (relNewT R1 hr b2.reverse)⟩
/-! ### + of anything -/
def rAddQ (K : PySem.W.Frag) : R2 := fun x y H Q => rI0 (fun i j => .int (i + j)) x y H Q ∨ ((∃ i j : Str, x = .str i ∧ y = .str j ∧ i.length + j.length ≤ sizeLine ∧ Q (.str (i ++ j)) H) ∨ (rCatU K x y H Q ∨ rCat x y H Q))
theorem addQ {X : Cx} (K : PySem.W.Frag) (h : X.K = K := by rfl) : OpR X (binaryOp .Add) (rAddQ K) := h ▸ (op_add.or (op_add_str.or (op_catU.or op_cat)))
def fAdd (a b : A) : AW := fun e n q => ∃ x y, a.rd e = some x ∧ b.rd e = some y ∧ match x, y with
  | .int i, .int j => q (.d (.int (i + j))) n
  | .str i, .str j => i.length + j.length ≤ sizeLine ∧ q (.d (.str (i ++ j))) n
  | .tuple xs, .tuple ys => xs.length + ys.length ≤ sizeLine ∧ q (.d (.tuple (xs ++ ys))) n
  | .list xs, .list ys => xs.length + ys.length ≤ sizeLine ∧ q (.ol (xs ++ ys)) n
  | _, _ => False
theorem rdD {x : PyData} (h : a.rd e = some x) (n1 : ∀ ds, x ≠ .list ds) (n2 : ∀ ds, x ≠ .dict ds) : a = .d x := by
  cases a with
  | d y => cases h; rfl
  | hd => cases h
  | ty s => cases h
  | rf _ _ _ => cases h
  | ol xs => cases h; exact (n1 _ rfl).elim
  | od xs => cases h; exact (n2 _ rfl).elim
  | ot w xs => cases h
  | «at» i =>
    exfalso
    simp only [A.rd] at h
    split at h
    · exact n1 _ (Option.some.inj h).symm
    · exact n2 _ (Option.some.inj h).symm
    · exact absurd h (by simp)
theorem oa_addQ : OpA L (rAddQ L.K) fAdd := by
  intro M n H Hs σ e x y a b q Q l R ra rb h p
  obtain ⟨x', y', h1, h2, h3⟩ := h
  split at h3
  · refine .inl (oa_I0 M n H Hs σ e x y a b q Q l R ra rb ⟨_, _, _, rdD h1 (by simp) (by simp), rdD h2 (by simp) (by simp), rfl, h3⟩ p)
  · exact .inr (.inl (oa_addS M n H Hs σ e x y a b q Q l R ra rb ⟨_, _, rdD h1 (by simp) (by simp), rdD h2 (by simp) (by simp), h3⟩ p))
  · exact .inr (.inr (.inl (oa_catU M n H Hs σ e x y a b q Q l R ra rb ⟨_, _, rdD h1 (by simp) (by simp), rdD h2 (by simp) (by simp), h3⟩ p)))
  · exact .inr (.inr (.inr (oa_cat M n H Hs σ e x y a b q Q l R ra rb ⟨_, _, h1, h2, h3⟩ p)))
  · exact h3.elim
/-! ### calls of built-ins -/
theorem rels1 {vs : List V} (h : RelRs M (M.S σ e) Hs H σ e vs [a]) : ∃ v, vs = [v] ∧ RelR M (M.S σ e) Hs H σ e v a := by
  cases h with
  | cons r s => cases s; exact ⟨_, rfl, r⟩
theorem rels2 {vs : List V} {b : A} (h : RelRs M (M.S σ e) Hs H σ e vs [a, b]) : ∃ v w, vs = [v, w] ∧ RelR M (M.S σ e) Hs H σ e v a ∧ RelR M (M.S σ e) Hs H σ e w b := by
  cases h with
  | cons r s => obtain ⟨w, rfl, h⟩ := rels1 s; exact ⟨_, w, rfl, r, h⟩
def lenD : PyData → Option Nat
  | .list xs => some xs.length
  | .tuple xs => some xs.length
  | .str z => some z.length
  | _ => none
def fLen : List A → AW := fun as e n q => ∃ a x k, as = [a] ∧ a.rd e = some x ∧ lenD x = some k ∧ (∀ z, x = .str z → z.length ≤ sizeLine) ∧ q (.d (.int (k : Nat))) n
theorem cb_len : CbA L (fun xs H Q => ∃ x n, xs = [x] ∧ LenV L.K x H n ∧ Q (.int n) H) fLen := by
  intro M n H Hs σ e vs as q Q l R ra h p
  obtain ⟨a, x, k, rfl, h1, h2, h3, h4⟩ := h
  obtain ⟨v, rfl, r⟩ := rels1 ra
  have rv := r.rdv R h1
  refine ⟨v, k, rfl, ?_, okE R p h4 (.int _)⟩
  cases x with
  | list xs => obtain ⟨c, us, rfl, c1, c2⟩ := rv.list; cases h2; exact .inl ⟨us, SqL.of c1, c2.length.symm⟩
  | tuple xs => obtain ⟨c, us, rfl, c1, c2⟩ := rv.tuple; cases h2; exact .inr ⟨us, l.1 ▸ c1, c2.length.symm⟩
  | str z => cases rv.dz (by simp) (by simp); cases h2; exact ⟨h3 _ rfl, rfl⟩
  | none => cases h2
  | bool _ => cases h2
  | int _ => cases h2
  | dict _ => cases h2
def fType : List A → AW := fun as e n q => ∃ a x, as = [a] ∧ a.rd e = some x ∧ q (.ty (kindD x)) n
theorem cb_type : CbA L (rTyp L.K) fType := by
  intro M n H Hs σ e vs as q Q l R ra h p
  obtain ⟨a, x, rfl, h1, h4⟩ := h
  obtain ⟨v, rfl, r⟩ := rels1 ra
  have rv := (r.rdv R h1).all.ty
  rw [l.1] at rv
  exact ⟨v, _, rfl, rv, p _ H _ n h4 R (Kp.refl _ _) rfl⟩
theorem ab_ty {s : String} : AbE L (tC (.ty s)) (fun _ n q => q (.ty s) n) := fun M n H σ e q Q _ R h p => p _ H _ n h R (Kp.refl _ _) rfl
theorem isiZ {K : PySem.W.Frag} {S : Addr → Prop} {x : V} {d : PyData} {T : String} (hT : T ∈ ["str", "tuple", "list", "dict"]) (h : Dz K S H x d) : ∃ t, TyX K H x t ∧ PySem.W.kitOne K t (.type T) = some (decide (kindD d = T)) := by
  have go : ∀ k : String, k ∈ ["NoneType", "bool", "int", "str", "list", "dict", "tuple"] → kitB k T = some (decide (k = T)) := by
    simp only [List.mem_cons, List.not_mem_nil, or_false] at hT
    rcases hT with rfl | rfl | rfl | rfl <;> decide +kernel
  cases h with
  | non => exact ⟨.type "NoneType", .base .non, kit_ty (go _ (by decide))⟩
  | bl b => exact ⟨.type "bool", .base (.bl b), kit_ty (go _ (by decide))⟩
  | int i => exact ⟨.type "int", .base (.int i), kit_ty (go _ (by decide))⟩
  | str z => exact ⟨.type "str", .base (.str z), kit_ty (go _ (by decide))⟩
  | lst a b c => exact ⟨.type "list", tyList b, kit_ty (go _ (by decide))⟩
  | dic a b c => exact ⟨.type "dict", tyDict b, kit_ty (go _ (by decide))⟩
  | tup a b => exact ⟨.type "tuple", tyTup a, kit_ty (go _ (by decide))⟩
def fIsi : List A → AW := fun as e n q => ∃ a x T, as = [a, .ty T] ∧ T ∈ ["str", "tuple", "list", "dict"] ∧ a.rd e = some x ∧ q (.d (.bool (decide (kindD x = T)))) n
theorem cb_isi : CbA L (rIsi L.K) fIsi := by
  intro M n H Hs σ e vs as q Q l R ra h p
  obtain ⟨a, x, T, rfl, hT, h1, h4⟩ := h
  obtain ⟨v, w, rfl, r, r2⟩ := rels2 ra
  cases (show w = .ty T from r2)
  obtain ⟨t, h5, h6⟩ := isiZ hT (r.rdv R h1).all
  rw [l.1] at h5 h6
  exact ⟨v, .ty T, t, _, _, rfl, .ty T, h5, h6, okE R p h4 (.bl _)⟩
def fRepr : List A → AW := fun as e n q => ∃ a x, as = [a] ∧ a.rd e = some x ∧ noD x = true ∧ (noL' x = true ∨ x.hasDict = false) ∧ x.showable = true ∧ x.depth ≤ 60 ∧ x.shown.length ≤ sizeLine ∧ q (.d (.str x.shown)) n
theorem cb_repr : CbA L (rReprY L.K) fRepr := by
  intro M n H Hs σ e vs as q Q l R ra h p
  obtain ⟨a, x, rfl, h1, h2, h3, h4, h5, h6, h7⟩ := h
  obtain ⟨v, rfl, r⟩ := rels1 ra
  have z := Dz.dy x h2 (r.rdv R h1).all
  rw [l.1] at z
  exact ⟨v, x, [], rfl, z, h3, h4, h5, h6, okE R p h7 (.str _)⟩
def fListOf : List A → AW := fun as e n q => ∃ a xs, as = [a] ∧ (a.rd e = some (.list xs) ∨ a.rd e = some (.tuple xs)) ∧ q (.ol xs) n
theorem cb_listOf : CbA L (fun xs H Q => ∃ p ys, xs = [.ref p] ∧ (SqL L.K H p ys ∨ SqT L.K H p ys) ∧ ∀ l, H l = none → Q (.ref l) (upd H l (.lst ys))) fListOf := by
  intro M n H Hs σ e vs as q Q l R ra h p
  obtain ⟨a, xs, rfl, h1, h4⟩ := h
  obtain ⟨v, rfl, r⟩ := rels1 ra
  rcases h1 with h1 | h1
  · obtain ⟨c, us, rfl, c1, c2⟩ := (r.rdv R h1).list
    exact ⟨c, us, rfl, .inl (SqL.of c1), fun r hr => p _ _ _ n h4 (R.new hr) (Kp.new hr) (relNewL R hr c2)⟩
  · obtain ⟨c, us, rfl, c1, c2⟩ := (r.rdv R h1).tuple
    exact ⟨c, us, rfl, .inr (l.1 ▸ c1), fun r hr => p _ _ _ n h4 (R.new hr) (Kp.new hr) (relNewL R hr c2)⟩
def fTupOf : List A → AW := fun as e n q => ∃ a xs, as = [a] ∧ (a.rd e = some (.list xs) ∨ a.rd e = some (.tuple xs)) ∧ q (.d (.tuple xs)) n
theorem cb_tupOf : CbA L (fun xs H Q => ∃ p ys, xs = [.ref p] ∧ ((SqL L.K H p ys ∧ ∀ l, H l = none → Q (.ref l) (upd H l (.tup ys))) ∨ (SqT L.K H p ys ∧ Q (.ref p) H))) fTupOf := by
  intro M n H Hs σ e vs as q Q l R ra h p
  obtain ⟨a, xs, rfl, h1, h4⟩ := h
  obtain ⟨v, rfl, r⟩ := rels1 ra
  rcases h1 with h1 | h1
  · obtain ⟨c, us, rfl, c1, c2⟩ := (r.rdv R h1).list
    exact ⟨c, us, rfl, .inl ⟨SqL.of c1, fun r hr => p _ _ _ n h4 (R.new hr) (Kp.new hr) (relNewT R hr c2)⟩⟩
  · obtain ⟨c, us, rfl, c1, c2⟩ := (r.rdv R h1).tuple
    exact ⟨c, us, rfl, .inr ⟨l.1 ▸ c1, okE R p h4 (.tup c1 c2)⟩⟩
def fAll (f : List Bool → Bool) : List A → AW := fun as e n q => ∃ a bs, as = [a] ∧ a.rd e = some (.list (bs.map .bool)) ∧ q (.d (.bool (f bs))) n
theorem boolsOf {K : PySem.W.Frag} {S : Addr → Prop} : ∀ {bs : List Bool} {us : List V}, Dzs K S H us (bs.map PyData.bool) → us = bs.map V.bl
  | [], _, h => by cases h; rfl
  | b :: bs, _, h => by
    cases h with
    | cons a r => cases a; rw [boolsOf r]; rfl
theorem cb_all : CbA L (rAll L.K) (fAll fun bs => bs.all id) := by
  intro M n H Hs σ e vs as q Q l R ra h p
  obtain ⟨a, bs, rfl, h1, h4⟩ := h
  obtain ⟨v, rfl, r⟩ := rels1 ra
  obtain ⟨c, us, rfl, c1, c2⟩ := (r.rdv R h1).list
  rw [boolsOf c2] at c1
  exact ⟨c, bs, rfl, SqL.of c1, okE R p h4 (.bl _)⟩
theorem cb_any : CbA L (rAny L.K) (fAll fun bs => bs.any id) := by
  intro M n H Hs σ e vs as q Q l R ra h p
  obtain ⟨a, bs, rfl, h1, h4⟩ := h
  obtain ⟨v, rfl, r⟩ := rels1 ra
  obtain ⟨c, us, rfl, c1, c2⟩ := (r.rdv R h1).list
  rw [boolsOf c2] at c1
  exact ⟨c, bs, rfl, SqL.of c1, okE R p h4 (.bl _)⟩
/-! ### methods of texts with one argument -/
def MtA (L : La) (r : V → List V → Hp → VK → Prop) (f : A → A → AW) : Prop := ∀ M n H Hs σ e x y a b q Q, L.Of M → Rep M n H σ e → RelR M (M.S σ e) Hs H σ e x a → RelR M (M.S σ e) Hs H σ e y b → f a b e n q → PostE M H σ e q Q → r x [y] H Q
def aM1 (f : A → A → AW) (wa wb : AW) : AW := fun e n q => wa e n fun a m => (∃ z, a = .d (.str z)) ∧ wb e m fun b k => f a b e k q
theorem ab_m1 {r : V → List V → Hp → VK → Prop} {f : A → A → AW} {ta tb : TE} {wa wb : AW} (o : MtA L r f) (ha : AbE L ta wa) (hb : AbE L tb wb) : AbE L (tM1 r ta tb) (aM1 f wa wb) := by
  intro M n H σ e q Q l R hw p
  refine ha M n H σ e _ _ l R hw fun x H1 a m h1 R1 k1 r1 => ?_
  obtain ⟨⟨z, rfl⟩, h1⟩ := h1
  refine ⟨⟨z, relS r1⟩, ?_⟩
  refine hb M m H1 σ e _ _ l R1 h1 fun y H2 b k h2 R2 k2 r2 => ?_
  exact o M k H2 H σ e x y _ b q Q l R2 (r1.step R1.ok k2 R.ok.there) (r2.from R.ok k1) h2 (p.from R.ok (k1.trans k2))
/-- f(k = v, ..) -/
def aCallK (F : FS) (w : AAW) (m : Nat) : AW := fun e n q => w e n fun as k => as.length = m ∧ ∃ bs, args as = some bs ∧ F bs k q
theorem RelRs.len {vs : List V} {as : List A} (h : RelRs M (M.S σ e) Hs H σ e vs as) : vs.length = as.length := by
  induction h with
  | nil => rfl
  | cons _ _ ih => rw [List.length_cons, List.length_cons, ih]
theorem ab_callK {F : FS} {t : TA} {w : AAW} {E : XK} {k : Nat} (h : AbA L t w) : AbE L (tCallN 0 k (spA L F) (fun _ zs => id zs) E tNil t) (aCallK F w k) := by
  intro M n H σ e q Q l R hw p
  show t σ H _
  refine h M n H σ e _ _ l R hw fun vs H1 as m h1 R1 k1 r1 => ?_
  obtain ⟨hl, bs, h2, h3⟩ := h1
  refine ⟨rfl, by rw [r1.len]; exact hl, ?_⟩
  refine ⟨M.sub' H1 (M.S σ e), bs, m, q, l, rfl, fun a z => R1.there z, ⟨R1.ok.hand, R1.ok.tabs⟩, rfl, rfl, argsOf (S0 := M.S σ e) (N := M.sub' H1 (M.S σ e)) R1 r1 rfl rfl rfl (fun a z => z) h2, h3, fun v H2 a k h4 k2 O2 r2 => ?_⟩
  have O3 : M.Ok k H2 := ⟨O2.hand, O2.tabs⟩
  exact p.from R.ok k1 v H2 a k h4 (R1.step k2 O3) k2 (retRel (N := M.sub' H1 (M.S σ e)) R1 rfl rfl (fun a z => .inr z) r2)
end
end Ah

namespace Ah
open PySem PySem.Spec PyProof.Rows L2
section
variable {L : La} {M : Amb} {n m : Nat} {H Hs H' : Hp} {σ : L2.St} {e : AEnv} {v : V} {a : A} {i : Nat}
/-! ## the own lists changed -/
theorem Rep.ol (R : Rep M n H σ e) {xs : List PyData} (h : e[i]? = some (some (.ol xs))) : ∃ c vs, σ[i]? = some (some (.ref c)) ∧ M.S σ e c ∧ H c = some (.lst vs) ∧ Dzs M.K (M.S σ e) H vs xs := by
  obtain ⟨v, h1, h2⟩ := R.slot i _ h
  obtain ⟨c, vs, rfl, h3, h4, h5⟩ := h2
  exact ⟨c, vs, h1, .inl ⟨i, _, h1, h, trivial⟩, h4, h5⟩
theorem Rep.putL (R : Rep M n H σ e) {c : Addr} {xs xs' : List PyData} {vs vs' : List V} (h1 : σ[i]? = some (some (.ref c))) (h2 : e[i]? = some (some (.ol xs))) (h3 : H c = some (.lst vs)) (h : Dzs M.K (M.S σ e) H vs' xs') :
    Rep M n (upd H c (.lst vs')) σ (e.set i (some (.ol xs'))) := by
  have sc : M.S σ e c := .inl ⟨i, _, h1, h2, trivial⟩
  refine R.putO h1 h2 trivial trivial (fun _ => by simp) (fun _ _ => by simp) ⟨c, vs', rfl, R.own_new ⟨i, _, h1, h2, trivial⟩, upd_same, ?_⟩
  exact Dzs.map (fun b q hb hq => by rw [upd_ne (fun z => hb (by rw [z]; exact sc))]; exact hq) (fun b xs hb => SqT.kp (ms := [c]) (Kp.put (by simp)) (fun q hq => by rw [List.mem_singleton.mp hq]; exact .lst h3) hb) (fun _ z => .inl z) h
theorem Rep.putK (R : Rep M n H σ e) {c : Addr} {xs xs' : List (PyData × PyData)} {vs vs' : List (Key × V)} (h1 : σ[i]? = some (some (.ref c))) (h2 : e[i]? = some (some (.od xs))) (h3 : H c = some (.dK vs)) (h : Dzk M.K (M.S σ e) H vs' xs') :
    Rep M n (upd H c (.dK vs')) σ (e.set i (some (.od xs'))) := by
  have sc : M.S σ e c := .inl ⟨i, _, h1, h2, trivial⟩
  refine R.putO h1 h2 trivial trivial (fun _ => by simp) (fun _ _ => by simp) ⟨c, vs', rfl, R.own_new ⟨i, _, h1, h2, trivial⟩, upd_same, ?_⟩
  exact Dzk.map (fun b q hb hq => by rw [upd_ne (fun z => hb (by rw [z]; exact sc))]; exact hq) (fun b xs hb => SqT.kp (ms := [c]) (Kp.put (by simp)) (fun q hq => by rw [List.mem_singleton.mp hq]; exact .dK h3) hb) (fun _ z => .inl z) h
def aApp (i : Nat) (w : AAW) : ASW := fun d e n => w e n fun as m => ∃ a y xs, as = [a] ∧ a.sto = some y ∧ e[i]? = some (some (.ol xs)) ∧ xs.length < sizeLine ∧ d.nx (e.set i (some (.ol (xs ++ [y])))) m
theorem tyL {c : Addr} {vs : List V} {K : PySem.W.Frag} (h : H c = some (.lst vs)) : tyV K "list" (.ref c) H := Or.inl ⟨rfl, _, Or.inl (Or.inl h)⟩
/-- the receiver is an own list -/
def AAW.ol (w : AAW) (i : Nat) : Prop := ∀ e n q, w e n q → ∃ xs, e[i]? = some (some (.ol xs))
theorem as_append {t : TA} {w : AAW} (h : AbA L t w) : AbS L (tDrop (tBM L.K "list" rAppend (tVar i) t)) (fun d e n => (∃ xs, e[i]? = some (some (.ol xs))) ∧ aApp i w d e n) := by
  intro M n H σ e D d l R hw k
  obtain ⟨⟨xs0, h0⟩, hw⟩ := hw
  obtain ⟨c, vs, g1, g2, g3, g4⟩ := R.ol h0
  refine ⟨.ref c, g1, tyL g3, h M n H σ e _ _ l.1 R hw fun us H1 as m h1 R1 k1 r1 => ?_⟩
  obtain ⟨a, y, xs, rfl, hy, hx, hlen, h1⟩ := h1
  obtain ⟨v, rfl, r⟩ := rels1 r1
  obtain ⟨c', vs', g1', g2', g3', g4'⟩ := R1.ol hx
  rw [g1] at g1'; cases g1'
  refine ⟨c, vs', v, rfl, rfl, g3', by rw [g4'.length]; exact hlen, k.nx _ _ _ _ h1 (R1.putL g1 hx g3' (Dzs.append g4' (.cons (r.sto hy) .nil)))⟩
/-- x.extend(l), l a list -/
def aExt (i : Nat) (w : AAW) : ASW := fun d e n => w e n fun as m => ∃ a ys xs, as = [a] ∧ (a.rd e = some (.list ys) ∨ a.rd e = some (.tuple ys)) ∧ e[i]? = some (some (.ol xs)) ∧ xs.length + ys.length ≤ sizeLine ∧ d.nx (e.set i (some (.ol (xs ++ ys)))) m
theorem mt_extQ {X : Cx} (K : PySem.W.Frag) (hk : X.K = K := by rfl) : MtR X "list.extend" (fun x xs H Q => rExtend x xs H Q ∨ rExtT K x xs H Q) := by
  subst hk
  exact MtR.or mt_extend mt_extendT
theorem as_extend {t : TA} {w : AAW} (h : AbA L t w) : AbS L (tDrop (tBM L.K "list" (fun x xs H Q => rExtend x xs H Q ∨ rExtT L.K x xs H Q) (tVar i) t)) (fun d e n => (∃ xs, e[i]? = some (some (.ol xs))) ∧ aExt i w d e n) := by
  intro M n H σ e D d l R hw k
  obtain ⟨⟨xs0, h0⟩, hw⟩ := hw
  obtain ⟨c, vs, g1, g2, g3, g4⟩ := R.ol h0
  refine ⟨.ref c, g1, tyL g3, h M n H σ e _ _ l.1 R hw fun us H1 as m h1 R1 k1 r1 => ?_⟩
  obtain ⟨a, ys, xs, rfl, hy, hx, hlen, h1⟩ := h1
  obtain ⟨v, rfl, r⟩ := rels1 r1
  obtain ⟨c', vs', g1', g2', g3', g4'⟩ := R1.ol hx
  rw [g1] at g1'; cases g1'
  rcases hy with hy | hy
  · obtain ⟨b, us, rfl, b1, b2⟩ := (r.rdv R1 hy).list
    exact .inl ⟨c, b, vs', us, rfl, rfl, g3', b1, by rw [g4'.length, b2.length]; exact hlen, k.nx _ _ _ _ h1 (R1.putL g1 hx g3' (Dzs.append g4' b2))⟩
  · obtain ⟨b, us, rfl, b1, b2⟩ := (r.rdv R1 hy).tuple
    exact .inr ⟨c, b, vs', us, rfl, rfl, g3', l.1.1 ▸ b1, by rw [g4'.length, b2.length]; exact hlen, k.nx _ _ _ _ h1 (R1.putL g1 hx g3' (Dzs.append g4' b2))⟩
theorem Dzs.dropLast {K : PySem.W.Frag} {S : Addr → Prop} {us : List V} {xs : List PyData} (h : Dzs K S H us xs) : Dzs K S H us.dropLast xs.dropLast := by
  rw [List.dropLast_eq_take, List.dropLast_eq_take, h.length]
  exact h.take _
/-- target = l.pop() -/
def aPop (i : Nat) (T : Tg) : ASW := fun d e n => ∃ xs y, e[i]? = some (some (.ol xs)) ∧ xs[xs.length - 1]? = some y ∧ putT T y (e.set i (some (.ol xs.dropLast))) fun e' => d.nx e' n
theorem as_pop {g : TG} {T : Tg} (hg : AbG L g T) : AbS L (tAsg (tBM0 L.K "list" rPop (tVar i)) g) (aPop i T) := by
  intro M n H σ e D d l R hw k
  obtain ⟨xs, y, hx, hy, hw⟩ := hw
  obtain ⟨c, vs, g1, g2, g3, g4⟩ := R.ol hx
  obtain ⟨v, h1, h2⟩ := g4.get' hy
  refine ⟨.ref c, g1, tyL g3, c, vs, v, rfl, rfl, g3, by rw [g4.length]; exact h1, ?_⟩
  have R2 := R.putL g1 hx g3 g4.dropLast
  have hv : Dz M.K (M.S σ (e.set i (some (.ol xs.dropLast)))) (upd H c (.lst vs.dropLast)) v y := by
    refine Dz.map (fun b q hb hq => by rw [upd_ne (fun z => hb (by rw [z]; exact g2))]; exact hq) (fun b xs hb => SqT.kp (ms := [c]) (Kp.put (by simp)) (fun q hq => by rw [List.mem_singleton.mp hq]; exact .lst g3) hb) (fun b z => .inl ?_) h2
    rcases z with z | z
    · obtain ⟨j, y, q1, q2, q3⟩ := z
      rcases getSet q2 with ⟨rfl, _, _⟩ | ⟨nj, q2⟩
      · exact .inl ⟨j, _, q1, hx, trivial⟩
      · exact .inl ⟨j, y, q1, q2, q3⟩
    · exact .inr z
  exact hg M n _ σ _ v y _ _ l.1 R2 hv hw fun σ' e' h3 R3 _ _ => k.nx _ _ _ _ h3 R3
theorem Dzs.eraseIdx {K : PySem.W.Frag} {S : Addr → Prop} : ∀ {us : List V} {xs : List PyData} (k : Nat), Dzs K S H us xs → Dzs K S H (us.eraseIdx k) (xs.eraseIdx k)
  | _, _, _, .nil => .nil
  | _, _, 0, .cons a r => r
  | _, _, k + 1, .cons a r => .cons a (r.eraseIdx k)
/-- target = l.pop(e) -/
def aPopAt (i : Nat) (T : Tg) (w : AAW) : ASW := fun d e n => w e n fun as m => ∃ xs y j k, as = [.d (.int j)] ∧ e[i]? = some (some (.ol xs)) ∧ -(2 ^ 63) ≤ j ∧ j < 2 ^ 63 ∧ seqIndex? j xs.length = some k ∧ xs[k]? = some y ∧
  putT T y (e.set i (some (.ol (xs.eraseIdx k)))) fun e' => d.nx e' m
theorem as_popAt {t : TA} {w : AAW} {g : TG} {T : Tg} (h : AbA L t w) (hg : AbG L g T) : AbS L (tAsg (tBM L.K "list" rPopAt (tVar i) t) g) (fun d e n => (∃ xs, e[i]? = some (some (.ol xs))) ∧ aPopAt i T w d e n) := by
  intro M n H σ e D d l R hw k
  obtain ⟨⟨xs0, h0⟩, hw⟩ := hw
  obtain ⟨c, vs, g1, g2, g3, g4⟩ := R.ol h0
  refine ⟨.ref c, g1, tyL g3, h M n H σ e _ _ l.1 R hw fun us H1 as m h1 R1 k1 r1 => ?_⟩
  obtain ⟨xs, y, j, kk, rfl, hx, b1, b2, b3, hy, h1⟩ := h1
  obtain rfl := r1.ints1
  obtain ⟨c', vs', g1', g2, g3, g4⟩ := R1.ol hx
  rw [g1] at g1'; cases g1'
  obtain ⟨v, h2, h3⟩ := g4.get' hy
  refine ⟨c, vs', j, kk, v, rfl, rfl, g3, b1, b2, by rw [g4.length]; exact b3, h2, ?_⟩
  have R2 := R1.putL g1 hx g3 (g4.eraseIdx kk)
  have hv : Dz M.K (M.S σ (e.set i (some (.ol (xs.eraseIdx kk))))) (upd H1 c (.lst (vs'.eraseIdx kk))) v y := by
    refine Dz.map (fun b q hb hq => by rw [upd_ne (fun z => hb (by rw [z]; exact g2))]; exact hq) (fun b xs hb => SqT.kp (ms := [c]) (Kp.put (by simp)) (fun q hq => by rw [List.mem_singleton.mp hq]; exact .lst g3) hb) (fun b z => .inl ?_) h3
    rcases z with z | z
    · obtain ⟨j, y, q1, q2, q3⟩ := z
      rcases getSet q2 with ⟨rfl, _, _⟩ | ⟨nj, q2⟩
      · exact .inl ⟨j, _, q1, hx, trivial⟩
      · exact .inl ⟨j, y, q1, q2, q3⟩
    · exact .inr z
  exact hg M m _ σ _ v y _ _ l.1 R2 hv h1 fun σ' e' h3 R3 _ _ => k.nx _ _ _ _ h3 R3
/-- an own list, kept: whatever statement comes -/
theorem as_freeze {t : TS} {w : ASW} (i : Nat) (h : AbS L t w) : AbS L t (fun d e n => ∃ xs, e[i]? = some (some (.ol xs)) ∧ w d (e.set i (some (.d (.list xs)))) n) := by
  intro M n H σ e D d l R hw k
  obtain ⟨xs, h1, h2⟩ := hw
  exact h M n H σ _ D d l (R.freeze l.2 h1) h2 k
/-- a slot forgotten -/
theorem Rep.forget (R : Rep M n H σ e) : Rep M n H σ (e.set i none) := by
  have own : ∀ b, OwnS σ (e.set i none) b → OwnS σ e b := by
    rintro b ⟨j, y, q1, q2, q3⟩
    rcases getSet q2 with ⟨_, z, _⟩ | ⟨nj, q2⟩
    · cases z
    · exact ⟨j, y, q1, q2, q3⟩
  have sS : ∀ b, M.S σ (e.set i none) b → M.S σ e b := fun b z => by
    rcases z with z | z
    · exact .inl (own b z)
    · exact .inr z
  refine ⟨by rw [List.length_set]; exact R.len, fun j y hy => ?_, fun j k y z b q1 q2 q3 q4 q5 q6 => ?_, R.ok, R.kp, R.s0, R.hs0, fun q b z => R.sep q b (own b z), fun p hp => (R.pin p hp).weak fun b z => .inl (sS b z)⟩
  · rcases getSet hy with ⟨_, z, _⟩ | ⟨nj, hy⟩
    · cases z
    · obtain ⟨w, q1, q2⟩ := R.slot j y hy
      exact ⟨w, q1, q2.weak sS⟩
  · rcases getSet q2 with ⟨_, z, _⟩ | ⟨nj, q2⟩
    · cases z
    · rcases getSet q5 with ⟨_, z, _⟩ | ⟨nk, q5⟩
      · cases z
      · exact R.inj j k y z b q1 q2 q3 q4 q5 q6
theorem as_forget {t : TS} {w : ASW} (i : Nat) (h : AbS L t w) : AbS L t (fun d e n => w d (e.set i none) n) :=
  fun M n H σ e D d l R hw k => h M n H σ _ D d l R.forget hw k
/-! ## a def by its body -/
def startA (N : List Str) (as : List A) : AEnv := as.map some ++ List.replicate (N.length - as.length) none
theorem ArgsOk.len {vs : List V} {as : List A} (h : ArgsOk M H vs as) : vs.length = as.length := by
  induction h with
  | nil => rfl
  | d _ _ ih => rw [List.length_cons, List.length_cons, ih]
  | hd _ _ ih => rw [List.length_cons, List.length_cons, ih]
  | rf _ _ ih => rw [List.length_cons, List.length_cons, ih]
theorem ArgsOk.get {vs : List V} {as : List A} (h : ArgsOk M H vs as) : ∀ (i : Nat) (a : A), as[i]? = some a → ∃ v, vs[i]? = some v ∧ SlotOk M (fun a => a ∈ M.hs ∨ M.S0 a) H v a ∧ ¬ a.own := by
  induction h with
  | nil => intro i a h; cases h
  | @d v vs x as h _ ih =>
    intro i a ha
    cases i with
    | zero => cases ha; exact ⟨v, rfl, h, fun z => z⟩
    | succ i => exact ih i a ha
  | @hd w vs as h _ ih =>
    intro i a ha
    cases i with
    | zero => cases ha; exact ⟨_, rfl, ⟨w, h, rfl⟩, fun z => z⟩
    | succ i => exact ih i a ha
  | @rf v f ks ps vs as h _ ih =>
    intro i a ha
    cases i with
    | zero => cases ha; exact ⟨_, rfl, h, fun z => z⟩
    | succ i => exact ih i a ha
theorem startGet {N : List Str} {as : List A} {j : Nat} {a : A} (h : (startA N as)[j]? = some (some a)) : as[j]? = some a := by
  unfold startA at h
  rw [List.getElem?_append] at h
  split at h
  · rw [List.getElem?_map] at h
    cases q : as[j]? with
    | none => rw [q] at h; cases h
    | some b => rw [q] at h; cases h; rfl
  · rw [List.getElem?_replicate] at h
    split at h <;> cases h
theorem repStart {N : List Str} {vs : List V} {as : List A} (hl : as.length ≤ N.length) (e0 : M.H0 = H) (hs : ∀ a, M.S0 a → H a ≠ none) (O : M.Ok n H) (hp : M.pins = []) (h : ArgsOk M H vs as) : Rep M n H (start N vs) (startA N as) := by
  have no : ∀ b, ¬ OwnS (start N vs) (startA N as) b := by
    rintro b ⟨i, x, _, h2, h3⟩
    obtain ⟨_, _, _, h4⟩ := h.get i x (startGet h2)
    exact h4 h3
  refine ⟨?_, fun i a ha => ?_, fun i j x y a h1 h2 h3 => (no a ⟨i, x, h1, h2, h3⟩).elim, O, by rw [e0]; exact Kp.refl _ _, hs, fun a ha => by rw [e0]; exact O.there a ha, fun _ b z => (no b z).elim, fun p q => by rw [hp] at q; cases q⟩
  · simp only [L2.start, startA, List.length_append, List.length_map, List.length_replicate, h.len]
  · obtain ⟨v, h1, h2, _⟩ := h.get i a (startGet ha)
    refine ⟨v, ?_, h2.weak fun b z => ?_⟩
    · unfold L2.start
      rw [List.getElem?_append_left (by rw [List.length_map]; exact (List.getElem?_eq_some_iff.mp h1).1), List.getElem?_map, h1]
      rfl
    · rcases z with z | z
      · exact (no b z).elim
      · exact z
end
section
variable {P : Program} {w : World} {K : PySem.W.Frag} {mg : Str → Option Value} {base : Heap} {x : Str} {st : Stmt} {N ps : List Str} {k : Nat} {F : FS} {L : La}
theorem bodyA {X : Cx} {E : XK} {b : List Stmt} {t : TS} {wp : ASW} (hN : ∀ as n q, F as n q → as.length ≤ N.length) (h1 : PSs X b t) (h2 : AbS L t wp)
    (h3 : ∀ as n q, F as n q → wp { nx := fun _ m => q (.d .none) m, rt := q } (startA N as) n) :
    ∀ (H : Hp) (vs : List V) (Q : VK), spA L F vs H Q E → ∃ t, PSs X b t ∧ t { nx := fun _ H' => Q .non H', rt := Q } (start N vs) H := by
  intro H vs Q h
  obtain ⟨M, as, n, q, l, e0, hs, O, hp, hst, ha, hF, hq⟩ := h
  have fin : ∀ v H' a m, q a m → Kp M.hs M.H0 H' → M.Ok m H' → RetOk M M.H0 H' v a → Q v H' := fun v H' a m h4 k O' r => by
    rw [e0] at k r; exact hq v H' a m h4 k O' r
  refine ⟨t, h1, h2 M n H _ _ _ _ ⟨l, hst⟩ (repStart (hN _ _ _ hF) e0 hs O hp ha) (h3 as n q hF) ⟨fun σ e H' n' h R => ?_, fun _ _ _ _ h => h.elim, fun _ _ _ _ h => h.elim, fin⟩⟩
  exact fin .non H' _ n' h R.kp R.ok .non
theorem At.hasA (T : At K mg x st) (S : FnScope N ps (defScope st)) (b : Posi x st ps) (len : ∀ as n q, F as n q → as.length = ps.length)
    (body : ∀ (f : Addr) (cdv : Value) (A : Around) (outer : List Env) (s : Shared) (H : Hp) (E : XK), Room k (A.deeper (envOfC x (defScope st) s.heap.objs.size f cdv)) →
      ∀ (H' : Hp) (vs : List V) (Q : VK), spA L F vs H' Q E → ∃ t, PSs (cxOf CX0 P w K mg base N x (defScope st) f cdv A outer s H E).nox (defBody st) t ∧ t { nx := fun _ H' => Q .non H', rt := Q } (start N vs) H') :
    Has P w K mg base (k + 1) x st ps (spA L F) :=
  T.has S b (fun vs H Q E h => by obtain ⟨M, as, n, q, _, _, _, _, _, _, ha, hF, _⟩ := h; rw [ha.len]; exact len _ _ _ hF)
    fun f cdv A outer s H vs Q E hr h => body f cdv A outer s H E hr H vs Q h
theorem At.hasGA (T : At K mg x st) (S : FnScope N ps (defScope st)) (b : Posi x st ps) (len : ∀ as n q, F as n q → as.length = ps.length)
    (body : ∀ (f : Addr) (cdv : Value) (A : Around) (outer : List Env) (s : Shared) (H : Hp) (E : XK), A.guards = some [] → Room k (A.deeper (envOfC x (defScope st) s.heap.objs.size f cdv)) →
      ∀ (H' : Hp) (vs : List V) (Q : VK), spA L F vs H' Q E → ∃ t, PSs (cxOf CX0 P w K mg base N x (defScope st) f cdv A outer s H E).nox (defBody st) t ∧ t { nx := fun _ H' => Q .non H', rt := Q } (start N vs) H') :
    HasG P w K mg base (k + 1) x st ps (spA L F) :=
  T.hasG S b (fun vs H Q E h => by obtain ⟨M, as, n, q, _, _, _, _, _, _, ha, hF, _⟩ := h; rw [ha.len]; exact len _ _ _ hF)
    fun f cdv A outer s H vs Q E hG hr h => body f cdv A outer s H E hG hr H vs Q h
end
end Ah

namespace Ah
open PySem PySem.Spec PyProof.Rows L2
/-- a list, a tuple, a text: walked -/
def iAny (K : PySem.W.Frag) (t : TE) : TI := fun σ H R => iList K t σ H R ∨ (iTup K t σ H R ∨ iStr t σ H R)
theorem pi_any {X : Cx} {tg l : Expr} {t : TE} (hl : PE X l t) : PI X tg l (iAny X.K t) := by
  refine ⟨fun pins s σ H R I h => ?_⟩
  rcases h with h | h | h
  · exact (pi_list hl).run pins s σ H R I h
  · exact (pi_tup hl).run pins s σ H R I h
  · exact (pi_str hl).run pins s σ H R I h
section
variable {L : La} {M : Amb} {n m : Nat} {H Hs H' : Hp} {σ : L2.St} {e : AEnv} {v : V} {a : A} {i : Nat}
def aAnyI (w : AW) : AIW := fun e n q => aSeqI .list w e n q ∨ (aSeqI .tuple w e n q ∨ aStrI w e n q)
theorem ab_iany {t : TE} {w : AW} (h : AbE L t w) : AbI L (iAny L.K t) (aAnyI w) := by
  intro M n H σ e q R l Rp hw p
  rcases hw with hw | hw | hw
  · exact .inl (ab_ilist h M n H σ e q R l Rp hw p)
  · exact .inr (.inl (ab_itup h M n H σ e q R l Rp hw p))
  · exact .inr (.inr (ab_istr h M n H σ e q R l Rp hw p))
theorem ab_dnew : AbE L tDNewK (fun _ n q => q (.od []) n) := by
  intro M n H σ e q Q l R h p r hr
  exact p _ _ _ n h (R.new hr) (Kp.new hr) ⟨r, [], rfl, hr, R.nS hr, upd_same, .nil⟩
theorem setOk {Hs : Hp} {n0 : Nat} (R0 : Rep M n0 Hs σ e) (k : Kp M.hs Hs H) (R : Rep M n H σ e) (r : RelR M (M.S σ e) Hs H σ e v a) (ha : a.set) : Rep M n H (σ.set i (some v)) (e.set i (some a)) := by
  cases a with
  | d x => exact R.setD r
  | hd => exact R.setHd r
  | ol xs =>
    obtain ⟨a, vs, e1, e2, e3, e4, e5⟩ := r
    exact Rep.setO R0 k R e1 e2 e3 trivial ⟨a, vs, e1, R0.kp.free e2 (fun z => e3 (Amb.sub a z)), e4, e5⟩
  | od xs =>
    obtain ⟨a, vs, e1, e2, e3, e4, e5⟩ := r
    exact Rep.setO R0 k R e1 e2 e3 trivial ⟨a, vs, e1, R0.kp.free e2 (fun z => e3 (Amb.sub a z)), e4, e5⟩
  | ot w xs =>
    obtain ⟨a, vs, e1, e2, e3, e4, e5⟩ := r
    exact Rep.setO R0 k R e1 e2 e3 trivial ⟨a, vs, e1, R0.kp.free e2 (fun z => e3 (Amb.sub a z)), e4, e5⟩
  | «at» i => exact ha.elim
  | ty s => exact ha.elim
  | rf _ _ _ => exact ha.elim
/-- more is apart: what came since Hs -/
def Amb.more (M : Amb) (T : Addr → Prop) : Amb := { M with S0 := fun b => T b ∨ M.S0 b }
theorem Rep.more {n0 : Nat} {T : Addr → Prop} (R0 : Rep M n0 Hs σ e) (k : Kp M.hs Hs H) (R : Rep M n H σ e) (hT : ∀ b, T b → Hs b = none ∧ H b ≠ none ∧ ¬ M.S σ e b) : Rep (M.more T) n H σ e := by
  have sH : ∀ b, (M.more T).S σ e b → M.S σ e b ∨ Hs b = none := fun b z => by
    rcases z with z | z | z | z
    · exact .inl (.inl z)
    · exact .inl (.inr (.inl z))
    · exact .inr (hT b z).1
    · exact .inl (.inr (.inr z))
  refine ⟨R.len, fun j x hx => ?_, R.inj, ⟨R.ok.hand, R.ok.tabs⟩, R.kp, fun b hb => ?_, R.hs0, fun q b z => ?_, fun p hp => Dz.step (M := M) R0.ok k Amb.sub (R0.pin p hp) sH⟩
  · obtain ⟨w, h1, h2⟩ := R0.slot j x hx
    refine ⟨w, h1, ?_⟩
    cases x with
    | d x => exact Dz.step (M := M) R0.ok k Amb.sub h2 sH
    | hd => exact h2
    | ol xs =>
      obtain ⟨a, vs, e1, e2, e3, e4⟩ := h2
      subst e1
      exact ⟨a, vs, rfl, e2, k a _ (R0.own_hs ⟨j, _, h1, hx, trivial⟩) e3, Dzs.step (M := M) R0.ok k Amb.sub e4 sH⟩
    | od xs =>
      obtain ⟨a, vs, e1, e2, e3, e4⟩ := h2
      subst e1
      exact ⟨a, vs, rfl, e2, k a _ (R0.own_hs ⟨j, _, h1, hx, trivial⟩) e3, Dzk.step (M := M) R0.ok k Amb.sub e4 sH⟩
    | ot w xs =>
      obtain ⟨a, vs, e1, e2, e3, e4⟩ := h2
      subst e1
      exact ⟨a, vs, rfl, e2, k a _ (R0.own_hs ⟨j, _, h1, hx, trivial⟩) e3, Dzt.step (M := M) R0.ok k Amb.sub e4 sH⟩
    | «at» i => exact h2
    | ty s => exact h2
    | rf _ _ _ => exact RfOk.step (M := M) R0.ok k Amb.sub h2 sH
  · rcases hb with hb | hb
    · exact (hT b hb).2.1
    · exact R.s0 b hb
  · rintro (h | h)
    · exact (hT b h).2.2 (.inl z)
    · exact R.sep q b z h
theorem Rep.less {T : Addr → Prop} (R : Rep (M.more T) n H σ e) : Rep M n H σ e := by
  have sS : ∀ b, M.S σ e b → (M.more T).S σ e b := fun b z => by
    rcases z with z | z | z
    · exact .inl z
    · exact .inr (.inl z)
    · exact .inr (.inr (.inr z))
  refine ⟨R.len, fun j x hx => ?_, R.inj, ⟨R.ok.hand, R.ok.tabs⟩, R.kp, fun b hb => R.s0 b (.inr hb), R.hs0, fun q b z h => R.sep q b z (.inr h), fun p hp => (R.pin p hp).weak fun b z => .inl (sS b z)⟩
  obtain ⟨w, h1, h2⟩ := R.slot j x hx
  refine ⟨w, h1, ?_⟩
  have := SlotOk.weak (S' := M.S σ e) h2 sS
  cases x <;> exact this
/-- the address of a new list -/
def newOf (v : V) (a : A) (b : Addr) : Prop := a.own ∧ v = .ref b
theorem RelR.new (r : RelR M (M.S σ e) Hs H σ e v a) : ∀ b, newOf v a b → Hs b = none ∧ H b ≠ none ∧ ¬ M.S σ e b := by
  rintro b ⟨h1, rfl⟩
  cases a with
  | ol xs => obtain ⟨a, vs, e1, e2, e3, e4, e5⟩ := r; cases e1; exact ⟨e2, by rw [e4]; simp, e3⟩
  | od xs => obtain ⟨a, vs, e1, e2, e3, e4, e5⟩ := r; cases e1; exact ⟨e2, by rw [e4]; simp, e3⟩
  | ot w xs => obtain ⟨a, vs, e1, e2, e3, e4, e5⟩ := r; cases e1; exact ⟨e2, by rw [e4]; simp, e3⟩
  | d x => exact h1.elim
  | hd => exact h1.elim
  | «at» i => exact h1.elim
  | ty s => exact h1.elim
  | rf _ _ _ => exact h1.elim
theorem setSub {b : Addr} (h : M.S (σ.set i (some v)) (e.set i (some a)) b) : newOf v a b ∨ M.S σ e b := by
  rcases h with ⟨j, y, h1, h2, h3⟩ | h
  · rcases getSet h2 with ⟨rfl, e1, hl⟩ | ⟨nj, h2⟩
    · cases e1
      rcases getSet h1 with ⟨_, e2, _⟩ | ⟨nj, _⟩
      · cases e2; exact .inl ⟨h3, rfl⟩
      · exact (nj rfl).elim
    · rw [setNe nj] at h1
      exact .inr (.inl ⟨j, y, h1, h2, h3⟩)
  · exact .inr (.inr h)
theorem RelR.conv {N : Amb} {S S' : Addr → Prop} {σ' : L2.St} {e' : AEnv} (eK : N.K = M.K) (eh : N.hand = M.hand) (r : RelR N S Hs H σ e v a) (hs : ∀ b, S' b → S b) (ha : a.set) : RelR M S' Hs H σ' e' v a := by
  cases a with
  | d x => have r : Dz N.K S H v x := r; rw [eK] at r; exact Dz.weak r fun b z => .inl (hs b z)
  | hd => obtain ⟨h, h1, h2⟩ := r; exact ⟨h, by rw [← eh]; exact h1, h2⟩
  | ol xs =>
    obtain ⟨a, vs, e1, e2, e3, e4, e5⟩ := r
    rw [eK] at e5
    exact ⟨a, vs, e1, e2, fun z => e3 (hs a z), e4, e5.weak fun b z => .inl (by rcases z with z | z; exact .inl z; exact .inr (hs b z))⟩
  | od xs =>
    obtain ⟨a, vs, e1, e2, e3, e4, e5⟩ := r
    rw [eK] at e5
    exact ⟨a, vs, e1, e2, fun z => e3 (hs a z), e4, e5.weak fun b z => .inl (by rcases z with z | z; exact .inl z; exact .inr (hs b z))⟩
  | ot w xs =>
    obtain ⟨a, vs, e1, e2, e3, e4, e5⟩ := r
    rw [eK] at e5
    exact ⟨a, vs, e1, e2, fun z => e3 (hs a z), e4, e5.weak fun b z => .inl (by rcases z with z | z; exact .inl z; exact .inr (hs b z))⟩
  | «at» i => exact ha.elim
  | ty s => exact ha.elim
  | rf _ _ _ => exact ha.elim
/-- a, b = x, y -/
def aPar (i j : Nat) (wa wb : AW) : ASW := fun d e n => wa e n fun a m => a.set ∧ wb e m fun b k => b.set ∧ d.nx ((e.set i (some a)).set j (some b)) k
theorem as_par {i j : Nat} {ta tb : TE} {wa wb : AW} (h1 : AbE L ta wa) (h2 : AbE L tb wb) : AbS L (tPar i j (tCons ta (tCons tb tNil))) (aPar i j wa wb) := by
  intro M n H σ e D d l R hw k
  refine h1 M n H σ e _ _ l.1 R hw fun v H1 a m g1 R1 k1 r1 => ?_
  obtain ⟨sa, g1⟩ := g1
  have Rm := Rep.more R k1 R1 r1.new
  refine h2 (M.more (newOf v a)) m H1 σ e _ _ l.1 Rm g1 fun w H2 b m2 g2 R2 k2 r2 => ?_
  obtain ⟨sb, g3⟩ := g2
  have Ra1 := setOk (i := i) R k1 R1 r1 sa
  have O2 : M.Ok m2 H2 := ⟨R2.ok.hand, R2.ok.tabs⟩
  have Ra2 := Ra1.step k2 O2
  refine ⟨v, w, rfl, k.nx _ _ _ _ g3 (setOk Ra1 k2 Ra2 ?_ sb)⟩
  refine RelR.conv (N := M.more (newOf v a)) rfl rfl r2 (fun b z => ?_) sb
  rcases setSub z with z | z | z | z
  · exact .inr (.inr (.inl z))
  · exact .inl z
  · exact .inr (.inl z)
  · exact .inr (.inr (.inr z))
/-! ## more of texts -/
theorem okM {q : AQ} {Q : VK} (R : Rep M n H σ e) (p : PostE M H σ e q Q) {x : PyData} (hq : q (.d x) n) (hv : Dz M.K (M.S σ e) H v x) : Q v H := okE R p hq hv
theorem strsOf {K : PySem.W.Frag} {S : Addr → Prop} : ∀ {ys : List Str} {us : List V}, Dzs K S H us (ys.map PyData.str) → us = ys.map V.str
  | [], _, h => by cases h; rfl
  | b :: bs, _, h => by
    cases h with
    | cons a r => cases a; rw [strsOf r]; rfl
/-- sep.join(l) -/
def fJoin (a b : A) : AW := fun e n q => ∃ z ys, a = .d (.str z) ∧ (b.rd e = some (.list (ys.map .str)) ∨ b.rd e = some (.tuple (ys.map .str))) ∧ (ys.map (·.length)).sum + ys.length * z.length ≤ 16777216 ∧ q (.d (.str (Txt.join z ys))) n
theorem ma_join : MtA L (fun x xs H Q => ∃ a p, ∃ ys : List Str, x = .str a ∧ xs = [.ref p] ∧ (SqL L.K H p (ys.map V.str) ∨ SqT L.K H p (ys.map V.str)) ∧
      (ys.map (·.length)).sum + ys.length * a.length ≤ 16777216 ∧ Q (.str (Txt.join a ys)) H) fJoin := by
  intro M n H Hs σ e x y a b q Q l R ra rb h p
  obtain ⟨z, ys, rfl, h1, h2, h3⟩ := h
  rcases h1 with h1 | h1
  · obtain ⟨c, us, rfl, c1, c2⟩ := (rb.rdv R h1).list
    rw [strsOf c2] at c1
    exact ⟨z, c, ys, relS ra, rfl, .inl (SqL.of c1), h2, okE R p h3 (.str _)⟩
  · obtain ⟨c, us, rfl, c1, c2⟩ := (rb.rdv R h1).tuple
    rw [strsOf c2, l.1] at c1
    exact ⟨z, c, ys, relS ra, rfl, .inr c1, h2, okE R p h3 (.str _)⟩
def fM1 (g : Str → Str → PyData) (a b : A) : AW := fun e n q => ∃ x y, a = .d (.str x) ∧ b = .d (.str y) ∧ q (.d (g x y)) n
theorem ma_find : MtA L (fun x xs H Q => ∃ a b, x = .str a ∧ xs = [.str b] ∧ Q (.int (Txt.find a b)) H) (fM1 fun a b => .int (Txt.find a b)) := by
  intro M n H Hs σ e x y a b q Q l R ra rb h p
  obtain ⟨i, j, rfl, rfl, hq⟩ := h
  exact ⟨i, j, relS ra, by rw [relS rb], okE R p hq (.int _)⟩
theorem ma_count : MtA L (fun x xs H Q => ∃ a b, x = .str a ∧ xs = [.str b] ∧ Q (.int (Txt.count a b)) H) (fM1 fun a b => .int (Txt.count a b)) := by
  intro M n H Hs σ e x y a b q Q l R ra rb h p
  obtain ⟨i, j, rfl, rfl, hq⟩ := h
  exact ⟨i, j, relS ra, by rw [relS rb], okE R p hq (.int _)⟩
/-- * of ints, of a text and an int -/
def rMulQ : R2 := fun x y H Q => rI CMul (fun i j => .int (i * j)) x y H Q ∨ rMulS x y H Q
theorem mulQ {X : Cx} : OpR X (binaryOp .Mult) rMulQ := op_mul.or op_mulStr
def fMul (a b : A) : AW := fun e n q => ∃ x y, a = .d x ∧ b = .d y ∧ match x, y with
  | .int i, .int j => CMul i j ∧ q (.d (.int (i * j))) n
  | .str z, .int k => MulOk z k ∧ q (.d (.str (Txt.mul z k))) n
  | _, _ => False
theorem oa_mulQ : OpA L rMulQ fMul := by
  intro M n H Hs σ e x y a b q Q l R ra rb h p
  obtain ⟨x', y', rfl, rfl, h3⟩ := h
  split at h3
  · exact .inl (oa_I M n H Hs σ e x y _ _ q Q l R ra rb ⟨_, _, _, rfl, rfl, h3.1, rfl, h3.2⟩ p)
  · exact .inr (oa_mulS M n H Hs σ e x y _ _ q Q l R ra rb ⟨_, _, rfl, rfl, h3⟩ p)
  · exact h3.elim
/-- -a -/
def aUn (g : Int → V) (w : AW) : AW := fun e n q => w e n fun a m => ∃ i x, a = .d (.int i) ∧ vD (g i) = some x ∧ q (.d x) m
theorem ab_un {g : Int → V} {t : TE} {w : AW} (h : AbE L t w) : AbE L (tUn (rU g) t) (aUn g w) := by
  intro M n H σ e q Q l R hw p
  refine h M n H σ e _ _ l R hw fun v H1 a m h1 R1 k1 r1 => ?_
  obtain ⟨i, x, rfl, h2, h3⟩ := h1
  exact ⟨i, relI r1, okE R1 (p.from R.ok k1) h3 (vDz h2)⟩
/-- one sign in a text -/
def fInS (f : Bool → Bool) (a b : A) : AW := fun e n q => ∃ c z, a = .d (.str ⟨#[c]⟩) ∧ b = .d (.str z) ∧ q (.d (.bool (f (decide (c ∈ z.cps.toList))))) n
theorem oa_inS : OpA L (fun x y H Q => ∃ (c : Nat) (z : Str), x = .str ⟨#[c]⟩ ∧ y = .str z ∧ Q (.bl (decide (c ∈ z.cps.toList))) H) (fInS id) := by
  intro M n H Hs σ e x y a b q Q l R ra rb h p
  obtain ⟨i, j, rfl, rfl, hq⟩ := h
  exact ⟨i, j, relS ra, relS rb, okE R p hq (.bl _)⟩
theorem oa_notInS : OpA L (fun x y H Q => ∃ (c : Nat) (z : Str), x = .str ⟨#[c]⟩ ∧ y = .str z ∧ Q (.bl (!decide (c ∈ z.cps.toList))) H) (fInS not) := by
  intro M n H Hs σ e x y a b q Q l R ra rb h p
  obtain ⟨i, j, rfl, rfl, hq⟩ := h
  exact ⟨i, j, relS ra, relS rb, okE R p hq (.bl _)⟩
end
/-! ## promises told of data, brought in -/
section
variable {P : Program} {w : World} {K : PySem.W.Frag} {mg : Str → Option Value} {base : Heap} {x : Str} {st : Stmt} {ps : List Str} {k : Nat} {sp : Sp} {F : FS} {L : La}
theorem hasToA (D : Has P w K mg base k x st ps sp) (h : ∀ (M : Amb) (as : List A) (n : Nat) (q : AQ) (vs : List V) (H : Hp) (Q : VK) (E : XK), L.Of M → M.H0 = H → (∀ a, M.S0 a → H a ≠ none) → M.Ok n H → ArgsOk M H vs as → F as n q →
    (∀ v H' a m, q a m → Kp M.hs H H' → M.Ok m H' → RetOk M H H' v a → Q v H') → sp vs H Q E) : Has P w K mg base k x st ps (spA L F) :=
  D.imp fun vs H Q E z => by
    obtain ⟨M, as, n, q, l, e0, hs, O, hp, hst, ha, hF, hq⟩ := z
    exact h M as n q vs H Q E l e0 hs O ha hF hq
theorem hasGImp {sp' : Sp} (D : HasG P w K mg base k x st ps sp) (h : ∀ vs H Q E, sp' vs H Q E → sp vs H Q E) : HasG P w K mg base k x st ps sp' := by
  obtain ⟨f, fd, F, G, b, m⟩ := D
  exact ⟨f, fd, F, ⟨fun vs H Q E z => G.1 vs H Q E (h _ _ _ _ z), fun A outer s H args us vs Q E hG hr e0 hb rv z => G.2 A outer s H args us vs Q E hG hr e0 hb rv (h _ _ _ _ z)⟩, b, m⟩
end
/-- a draw -/
@[irreducible] def fTake : FS := fun as n q => ∃ m : Int, as = [.hd, .d (.int m)] ∧ n < 1000000 ∧ 1 ≤ m ∧ m < 1073741824 ∧ ∀ r : Int, 0 ≤ r → r < m → q (.d (.int r)) (n + 1)
/-- a draw of a list, of a text -/
@[irreducible] def fOf : FS := fun as n q => n < 1000000 ∧ ((∃ xs : List PyData, as = [.hd, .d (.list xs)] ∧ xs ≠ [] ∧ xs.length < 1000000 ∧ ∀ x ∈ xs, q (.d x) (n + 1)) ∨
  ∃ z : Str, as = [.hd, .d (.str z)] ∧ 1 ≤ z.length ∧ z.length < 1000000 ∧ ∀ c ∈ z.cps.toList, q (.d (.str ⟨#[c]⟩)) (n + 1))
theorem ArgsOk.hd1 {M : Amb} {H : Hp} {vs : List V} {as : List A} (h : ArgsOk M H vs (.hd :: as)) : ∃ b us, M.hand = some b ∧ vs = .ref b :: us ∧ ArgsOk M H us as := by
  cases h with
  | hd a b => exact ⟨_, _, a, rfl, b⟩
theorem ArgsOk.d1 {M : Amb} {H : Hp} {vs : List V} {x : PyData} {as : List A} (h : ArgsOk M H vs (.d x :: as)) : ∃ v us, vs = v :: us ∧ Dz M.K (fun a => a ∈ M.hs ∨ M.S0 a) H v x ∧ ArgsOk M H us as := by
  cases h with
  | d a b => exact ⟨_, _, rfl, a, b⟩
theorem ArgsOk.nil1 {M : Amb} {H : Hp} {vs : List V} (h : ArgsOk M H vs []) : vs = [] := by cases h; rfl
/-- only the hand was drawn from -/
theorem Amb.Ok.drawn {M : Amb} {n m : Nat} {H H' : Hp} {b : Addr} (hp : M.hp = drawsHP) (O : M.Ok n H) (hb : M.hand = some b) (k : Kp [b] H H') (hd : Hand m H' b) : Kp M.hs H H' ∧ M.Ok m H' := by
  have mem : b ∈ M.hs := List.mem_append_left _ (by rw [hb]; exact List.mem_singleton.mpr rfl)
  have hh : Hand n H b := by have := O.hand b hb; rw [hp] at this; exact this
  refine ⟨k.wide fun c hc => by rw [List.mem_singleton.mp hc]; exact mem, fun h q => by rw [hb] at q; cases q; rw [hp]; exact hd, fun t ht => TabX.keep (O.tabs t ht) k ?_ (one1 fun q => M.hp.code (O.hand b hb))⟩
  intro z
  rw [List.mem_singleton.mp z] at ht
  obtain ⟨⟨ps, e1, _⟩, _⟩ := O.tabs b ht
  obtain ⟨xs, e2⟩ := hh.there
  rw [e1] at e2; cases e2
end Ah

namespace Ah
open PySem PySem.Spec PyProof.Rows L2
/-! ## kept from the start: a name whose list is never changed; a statement ahead of which a list is kept -/
def tAsgF (te : TE) (g : TG) : TS := tAsg te g
def tParF (f1 f2 : Bool) (i j : Nat) (ta : TA) : TS := tPar i j ta
def tFrz (i : Nat) (t : TS) : TS := t
section
variable {X : Cx} {pos : Pos}
theorem ps_setF {i : Nat} {x : Str} {e : Expr} {te : TE} {pos' : Pos} (hN : X.N.Nodup) (hi : X.N[i]? = some x) (hx : Loc X.env.scope x) (he : PE X e te) (hs : swapsWith e (some (.Name x pos')) pos.line X.env = pure false := by rfl) (hf : X.fn x = true ∨ X.env.scope.names.lookup x = some .local := by first | exact .inl rfl | exact .inr rfl | assumption) :
    PS X (.Assign [.Name x pos'] e pos) (tAsgF te (gName i)) := ps_set hN hi hx he hs hf
theorem ps_setLcF {i : Nat} {y : Str} {py : Pos} {elt tg iter : Expr} {ifs : List Expr} {scope : Scope} {own : List (Str × Nat)} {pos spos : Pos} {t : TS}
    (h : PS X (.Assign [.Name y py] (.ListComp elt [⟨tg, iter, ifs, 0⟩] scope pos) spos) t) : PS X (.Assign [.Name y py] (.ListComp elt [⟨tg, iter, ifs, 0⟩] scope pos) spos) t := h
theorem ps_frz {st : Stmt} {t : TS} (i : Nat) (h : PS X st t) : PS X st (tFrz i t) := h
end
section
variable {L : La} {M : Amb} {n m : Nat} {H Hs H' : Hp} {σ : L2.St} {e : AEnv} {v : V} {a : A} {i : Nat}
def A.frz : A → A
  | .ol xs => .d (.list xs)
  | .od xs => .d (.dict xs)
  | a => a
def A.frzB (f : Bool) (a : A) : A := if f = true then a.frz else a
theorem relFrz (r : RelR M (M.S σ e) Hs H σ e v a) (h : a.set) : RelR M (M.S σ e) Hs H σ e v a.frz ∧ a.frz.set := by
  cases a with
  | d x => exact ⟨r, trivial⟩
  | hd => exact ⟨r, trivial⟩
  | ol xs => exact ⟨RelR.sto r rfl, trivial⟩
  | od xs => exact ⟨RelR.sto r rfl, trivial⟩
  | ot w xs => exact ⟨r, trivial⟩
  | «at» i => exact h.elim
  | ty s => exact h.elim
  | rf _ _ _ => exact h.elim
def aSetF (i : Nat) (w : AW) : ASW := fun d e n => w e n fun a m => a.set ∧ d.nx (e.set i (some a.frz)) m
theorem as_setF {t : TE} {w : AW} (h : AbE L t w) : AbS L (tAsgF t (gName i)) (aSetF i w) := by
  intro M n H σ e D d l R hw k
  refine h M n H σ e _ _ l.1 R hw fun v H1 a m h1 R1 k1 r1 => ?_
  show D.nx _ _
  obtain ⟨ha, h1⟩ := h1
  obtain ⟨r2, ha2⟩ := relFrz r1 ha
  exact k.nx _ _ _ _ h1 (setOk R k1 R1 r2 ha2)
def aParF (f1 f2 : Bool) (i j : Nat) (wa wb : AW) : ASW := fun d e n => wa e n fun a m => a.set ∧ wb e m fun b k => b.set ∧ d.nx ((e.set i (some (a.frzB f1))).set j (some (b.frzB f2))) k
theorem relFrzB {f : Bool} (r : RelR M (M.S σ e) Hs H σ e v a) (h : a.set) : RelR M (M.S σ e) Hs H σ e v (a.frzB f) ∧ (a.frzB f).set := by
  cases f
  · exact ⟨r, h⟩
  · exact relFrz r h
theorem as_parF {f1 f2 : Bool} {i j : Nat} {ta tb : TE} {wa wb : AW} (h1 : AbE L ta wa) (h2 : AbE L tb wb) : AbS L (tParF f1 f2 i j (tCons ta (tCons tb tNil))) (aParF f1 f2 i j wa wb) := by
  intro M n H σ e D d l R hw k
  refine h1 M n H σ e _ _ l.1 R hw fun v H1 a m g1 R1 k1 r1 => ?_
  obtain ⟨sa, g1⟩ := g1
  obtain ⟨r1, sa⟩ := relFrzB (f := f1) r1 sa
  generalize a.frzB f1 = a at r1 sa g1
  have Rm := Rep.more R k1 R1 r1.new
  refine h2 (M.more (newOf v a)) m H1 σ e _ _ l.1 Rm g1 fun w H2 b m2 g2 R2 k2 r2 => ?_
  obtain ⟨sb, g3⟩ := g2
  obtain ⟨r2, sb⟩ := relFrzB (f := f2) r2 sb
  have Ra1 := setOk (i := i) R k1 R1 r1 sa
  have O2 : M.Ok m2 H2 := ⟨R2.ok.hand, R2.ok.tabs⟩
  have Ra2 := Ra1.step k2 O2
  refine ⟨v, w, rfl, k.nx _ _ _ _ g3 (setOk Ra1 k2 Ra2 ?_ sb)⟩
  refine RelR.conv (N := M.more (newOf v a)) rfl rfl r2 (fun b z => ?_) sb
  rcases setSub z with z | z | z | z
  · exact .inr (.inr (.inl z))
  · exact .inl z
  · exact .inr (.inl z)
  · exact .inr (.inr (.inr z))
theorem Rep.freezeK {xs : List (PyData × PyData)} (R : Rep M n H σ e) (st : M.st = true) (h : e[i]? = some (some (.od xs))) : Rep M n H σ (e.set i (some (.d (.dict xs)))) := by
  obtain ⟨v, h1, h2⟩ := R.slot i _ h
  obtain ⟨a, vs, rfl, h3, h4, h5⟩ := h2
  have own : ∀ b, OwnS σ (e.set i (some (.d (.dict xs)))) b → OwnS σ e b ∧ b ≠ a := by
    rintro b ⟨j, y, q1, q2, q3⟩
    rcases getSet q2 with ⟨rfl, e1, _⟩ | ⟨nj, q2⟩
    · cases e1; exact q3.elim
    · exact ⟨⟨j, y, q1, q2, q3⟩, fun z => nj (R.inj j i _ _ b q1 q2 q3 (by rw [z]; exact h1) h trivial)⟩
  have oa : OwnS σ e a := ⟨i, _, h1, h, trivial⟩
  have sS : ∀ b, M.S σ (e.set i (some (.d (.dict xs)))) b → M.S σ e b := fun b z => by
    rcases z with z | z
    · exact .inl (own b z).1
    · exact .inr z
  refine ⟨by rw [List.length_set]; exact R.len, fun j y hy => ?_, fun j k y z b q1 q2 q3 q4 q5 q6 => ?_, R.ok, R.kp, R.s0, R.hs0, fun q b z => R.sep q b (own b z).1, fun p hp => (R.pin p hp).weak fun b z => .inl (sS b z)⟩
  · rcases getSet hy with ⟨rfl, e1, _⟩ | ⟨nj, hy⟩
    · cases e1
      refine ⟨.ref a, h1, .dic (fun z => ?_) h4 (h5.weak fun b z => .inl (sS b z))⟩
      rcases z with z | z | z
      · exact (own a z).2 rfl
      · exact R.own_hs oa z
      · exact R.sep st a oa z
    · obtain ⟨w, q1, q2⟩ := R.slot j y hy
      exact ⟨w, q1, q2.weak sS⟩
  · rcases getSet q2 with ⟨rfl, e1, _⟩ | ⟨nj, q2⟩
    · cases e1; exact q3.elim
    · rcases getSet q5 with ⟨rfl, e1, _⟩ | ⟨nk, q5⟩
      · cases e1; exact q6.elim
      · exact R.inj j k y z b q1 q2 q3 q4 q5 q6
def AEnv.frz (e : AEnv) (i : Nat) : AEnv := match e[i]? with
  | some (some a) => e.set i (some a.frz)
  | _ => e
theorem setSelf {α : Type} {l : List α} {i : Nat} {x : α} (h : l[i]? = some x) : l.set i x = l := by
  obtain ⟨hl, rfl⟩ := List.getElem?_eq_some_iff.mp h
  exact List.set_getElem_self hl
theorem Rep.frz (R : Rep M n H σ e) (st : M.st = true) : Rep M n H σ (AEnv.frz e i) := by
  unfold AEnv.frz
  split
  · rename_i a h
    cases a with
    | ol xs => exact R.freeze st h
    | od xs => exact R.freezeK st h
    | ot w xs => rw [show A.frz (.ot w xs) = .ot w xs from rfl, setSelf h]; exact R
    | d x => rw [show A.frz (.d x) = .d x from rfl, setSelf h]; exact R
    | hd => rw [show A.frz .hd = .hd from rfl, setSelf h]; exact R
    | «at» j => rw [show A.frz (.at j) = .at j from rfl, setSelf h]; exact R
    | ty s => rw [show A.frz (.ty s) = .ty s from rfl, setSelf h]; exact R
    | rf _ _ _ => rename_i f ks ps; rw [show A.frz (.rf f ks ps) = .rf f ks ps from rfl, setSelf h]; exact R
  · exact R
def aFrz (i : Nat) (w : ASW) : ASW := fun d e n => w d (AEnv.frz e i) n
theorem as_frz {t : TS} {w : ASW} (h : AbS L t w) : AbS L (tFrz i t) (aFrz i w) := fun M n H σ e D d l R hw k => h M n H σ _ D d l (R.frz l.2) hw k
end
/-! ## small steps that a reading wants -/
theorem iff_d {p : Prop} [Decidable p] {a b : Prop} (h1 : p → a) (h2 : ¬ p → b) : if decide p = true then a else b := by
  by_cases h : p
  · rw [if_pos (decide_eq_true h)]; exact h1 h
  · rw [if_neg (by rw [decide_eq_false h]; exact Bool.false_ne_true)]; exact h2 h
theorem iff_b {c : Bool} {a b : Prop} (h1 : c = true → a) (h2 : c = false → b) : if c = true then a else b := by
  cases c
  · exact h2 rfl
  · exact h1 rfl
theorem seqAt {t u : ASW} {D : AD} {e : AEnv} {n : Nat} (I : Nat → Prop) (h1 : (∀ n1, I n1 → u D e n1) → t { D with nx := u D } e n) (h2 : ∀ n1, I n1 → u D e n1) : aSeq t u D e n := seqI (h1 h2)
theorem seqAtE {t u : ASW} {D : AD} {e : AEnv} {n : Nat} (I : AEnv → Nat → Prop) (h1 : (∀ e1 n1, I e1 n1 → u D e1 n1) → t { D with nx := u D } e n) (h2 : ∀ e1 n1, I e1 n1 → u D e1 n1) : aSeq t u D e n := seqI (h1 h2)
theorem envTo {w : ASW} {d : AD} {e e' : AEnv} {n : Nat} (h : e = e') (k : w d e' n) : w d e n := by rw [h]; exact k
theorem drawL {xs : List PyData} {n : Nat} {q : AQ} (hn : n < 1000000) (h : xs ≠ []) (hl : xs.length < 1000000) (k : ∀ x ∈ xs, q (.d x) (n + 1)) : fOf [.hd, .d (.list xs)] n q := by
  unfold fOf; exact ⟨hn, .inl ⟨xs, rfl, h, hl, k⟩⟩
theorem drawS {z : Str} {n : Nat} {q : AQ} (hn : n < 1000000) (h : 1 ≤ z.length) (hl : z.length < 1000000) (k : ∀ c ∈ z.cps.toList, q (.d (.str ⟨#[c]⟩)) (n + 1)) : fOf [.hd, .d (.str z)] n q := by
  unfold fOf; exact ⟨hn, .inr ⟨z, rfl, h, hl, k⟩⟩
theorem drawN {m : Int} {n : Nat} {q : AQ} (hn : n < 1000000) (h : 1 ≤ m) (hl : m < 1073741824) (k : ∀ r : Int, 0 ≤ r → r < m → q (.d (.int r)) (n + 1)) : fTake [.hd, .d (.int m)] n q := by
  unfold fTake; exact ⟨m, rfl, hn, h, hl, k⟩
/-- a comprehension, turn by turn; a loop, turn by turn -/
theorem aGo_ind {T : Tg} {wt : ATW} {wv : AW} {e0 : AEnv} {q : AQ} (G : List PyData → List PyData → Nat → Prop) (h0 : ∀ acc n, G [] acc n → q (.ol acc) n)
    (h1 : ∀ x r acc n, G (x :: r) acc n → (∀ acc n, G r acc n → aGo T wt wv e0 q r acc n) → aGo T wt wv e0 q (x :: r) acc n) : ∀ xs acc n, G xs acc n → aGo T wt wv e0 q xs acc n
  | [], acc, n, h => by rw [aGo]; exact h0 acc n h
  | x :: r, acc, n, h => h1 x r acc n h (aGo_ind G h0 h1 r)
theorem aGoY_ind {T : Tg} {wv : AW} {e0 : AEnv} {q : AQ} (G : List PyData → List PyData → Nat → Prop) (h0 : ∀ acc n, G [] acc n → q (.ol acc) n)
    (h1 : ∀ x r acc n, G (x :: r) acc n → (∀ acc n, G r acc n → aGo T aYes wv e0 q r acc n) → putT T x e0 fun e' => wv e' n fun a k => ∃ y, a.sto = some y ∧ acc.length < sizeLine ∧ aGo T aYes wv e0 q r (acc ++ [y]) k) : ∀ xs acc n, G xs acc n → aGo T aYes wv e0 q xs acc n :=
  aGo_ind G h0 fun x r acc n g ih => by rw [aGo]; exact h1 x r acc n g ih
theorem aLoop_ind {T : Tg} {wb : ASW} {d : AD} (G : List PyData → AEnv → Nat → Prop) (h0 : ∀ e n, G [] e n → d.nx e n)
    (h1 : ∀ x r e n, G (x :: r) e n → (∀ e n, G r e n → aLoop T wb d r e n) → aLoop T wb d (x :: r) e n) : ∀ xs e n, G xs e n → aLoop T wb d xs e n
  | [], e, n, h => by rw [aLoop]; exact h0 e n h
  | x :: r, e, n, h => h1 x r e n h (aLoop_ind G h0 h1 r)
end Ah

namespace Ah
open PySem PySem.Spec PyProof.Rows L2
/-! ## data that may be shown, by its members -/
structure Dat (k : Nat) (d : PyData) : Prop where
  dep : d.depth ≤ k
  sho : d.showable = true
  lea : d.leavesShort 30 = true
  nod : noD d = true
structure Dats (k : Nat) (ds : List PyData) : Prop where
  dep : PyData.depthAll ds ≤ k
  sho : PyData.showableAll ds = true
  lea : PyData.leavesShortAll 30 ds = true
  nod : noDs ds = true
theorem Dats.of {k : Nat} : ∀ {ds : List PyData}, (∀ d ∈ ds, Dat k d) → Dats k ds
  | [], _ => ⟨by simp [PyData.depthAll], by simp [PyData.showableAll], by simp [PyData.leavesShortAll], by rw [noDs]⟩
  | d :: r, h => by
    have a := h d (List.mem_cons_self ..)
    have b := Dats.of (ds := r) fun e he => h e (List.mem_cons_of_mem _ he)
    refine ⟨?_, ?_, ?_, ?_⟩
    · simp only [PyData.depthAll]; have := a.dep; have := b.dep; omega
    · simp only [PyData.showableAll, a.sho, b.sho]; rfl
    · simp only [PyData.leavesShortAll, a.lea, b.lea]; rfl
    · rw [noDs, a.nod, b.nod]; rfl
theorem Dats.mem {k : Nat} : ∀ {ds : List PyData}, Dats k ds → ∀ d ∈ ds, Dat k d
  | e :: r, h, d, hd => by
    have h1 := h.dep; have h2 := h.sho; have h3 := h.lea; have h4 := h.nod
    simp only [PyData.depthAll] at h1
    simp only [PyData.showableAll, Bool.and_eq_true] at h2
    simp only [PyData.leavesShortAll, Bool.and_eq_true] at h3
    rw [noDs, Bool.and_eq_true] at h4
    rcases List.mem_cons.mp hd with rfl | hd
    · exact ⟨by omega, h2.1, h3.1, h4.1⟩
    · exact Dats.mem (ds := r) ⟨by omega, h2.2, h3.2, h4.2⟩ d hd
theorem Dat.tuple {k : Nat} {ds : List PyData} (h : ∀ d ∈ ds, Dat k d) : Dat (k + 1) (.tuple ds) := by
  have r := Dats.of h
  refine ⟨?_, ?_, ?_, ?_⟩
  · simp only [PyData.depth]; have := r.dep; omega
  · simp only [PyData.showable, r.sho]
  · simp only [PyData.leavesShort, r.lea]
  · rw [noD]; exact r.nod
theorem Dat.list {k : Nat} {ds : List PyData} (h : ∀ d ∈ ds, Dat k d) : Dat (k + 1) (.list ds) := by
  have r := Dats.of h
  refine ⟨?_, ?_, ?_, ?_⟩
  · simp only [PyData.depth]; have := r.dep; omega
  · simp only [PyData.showable, r.sho]
  · simp only [PyData.leavesShort, r.lea]
  · rw [noD]; exact r.nod
theorem Dat.ofTuple {k : Nat} {ds : List PyData} (h : Dat (k + 1) (.tuple ds)) : ∀ d ∈ ds, Dat k d := by
  have h1 := h.dep; have h2 := h.sho; have h3 := h.lea; have h4 := h.nod
  simp only [PyData.depth] at h1
  simp only [PyData.showable] at h2
  simp only [PyData.leavesShort] at h3
  rw [noD] at h4
  exact Dats.mem ⟨by omega, h2, h3, h4⟩
theorem Dat.pos {k : Nat} {ds : List PyData} (h : Dat k (.tuple ds)) : ∃ k', k = k' + 1 := by
  have h1 := h.dep
  simp only [PyData.depth] at h1
  exact ⟨k - 1, by omega⟩
theorem Dat.up {k k' : Nat} {d : PyData} (h : Dat k d) (hk : k ≤ k') : Dat k' d := ⟨Nat.le_trans h.dep hk, h.sho, h.lea, h.nod⟩
theorem Dat.str {z : Str} (h : Sm z) (k : Nat) : Dat k (.str z) := by
  have f := Fi.str h k
  exact ⟨f.dep, f.sho, f.lea, by rw [noD]⟩
theorem Dat.shows {k : Nat} {d : PyData} (f : Dat k d) (hk : k ≤ 60) (hb : d.bulk ≤ 100000) : d.showable = true ∧ d.depth ≤ 60 ∧ d.shown.length ≤ sizeLine :=
  ⟨f.sho, Nat.le_trans f.dep hk, Fi.fits ⟨f.dep, f.sho, f.lea, Nat.le_refl _⟩ hb⟩
/-- no list within; no dict within -/
def noK (d : PyData) : Prop := d.hasDict = false
theorem noLs'_of : ∀ {ds : List PyData}, (∀ d ∈ ds, noL' d = true) → noLs' ds = true
  | [], _ => by rw [noLs']
  | d :: r, h => by rw [noLs', h d (List.mem_cons_self ..), noLs'_of fun e he => h e (List.mem_cons_of_mem _ he)]; rfl
theorem noLs'_mem : ∀ {ds : List PyData}, noLs' ds = true → ∀ d ∈ ds, noL' d = true
  | e :: r, h, d, hd => by
    rw [noLs', Bool.and_eq_true] at h
    rcases List.mem_cons.mp hd with rfl | hd
    · exact h.1
    · exact noLs'_mem h.2 d hd
theorem hasDict_of : ∀ {ds : List PyData}, (∀ d ∈ ds, d.hasDict = false) → PyData.hasDictAll ds = false
  | [], _ => by simp [PyData.hasDictAll]
  | d :: r, h => by simp only [PyData.hasDictAll, h d (List.mem_cons_self ..), hasDict_of fun e he => h e (List.mem_cons_of_mem _ he), Bool.or_false]
theorem hasDict_mem : ∀ {ds : List PyData}, PyData.hasDictAll ds = false → ∀ d ∈ ds, d.hasDict = false
  | e :: r, h, d, hd => by
    simp only [PyData.hasDictAll, Bool.or_eq_false_iff] at h
    rcases List.mem_cons.mp hd with rfl | hd
    · exact h.1
    · exact hasDict_mem h.2 d hd
/-- data as it is shown, with lists or with dicts -/
structure Item (k b : Nat) (d : PyData) : Prop where
  dat : Dat k d
  one : noL' d = true ∨ d.hasDict = false
  blk : d.bulk ≤ b
/-- .. with neither -/
structure Pure (k b : Nat) (d : PyData) : Prop where
  dat : Dat k d
  nol : noL' d = true
  nod : d.hasDict = false
  lay : d.canLay0 = true
  blk : d.bulk ≤ b
theorem Pure.shaped {k b : Nat} {d : PyData} (h : Pure k b d) (hk : k ≤ 64) : SeqAt.shaped d = true := by
  unfold SeqAt.shaped
  rw [h.lay, decide_eq_true (Nat.le_trans h.dat.dep hk)]; rfl
theorem canLay_of : ∀ {ds : List PyData}, (∀ d ∈ ds, d.canLay0 = true) → PyData.canLayAll0 ds = true
  | [], _ => by simp [PyData.canLayAll0]
  | d :: r, h => by simp only [PyData.canLayAll0, h d (List.mem_cons_self ..), canLay_of fun e he => h e (List.mem_cons_of_mem _ he), Bool.and_self]
theorem canLay_mem : ∀ {ds : List PyData}, PyData.canLayAll0 ds = true → ∀ d ∈ ds, d.canLay0 = true
  | e :: r, h, d, hd => by
    simp only [PyData.canLayAll0, Bool.and_eq_true] at h
    rcases List.mem_cons.mp hd with rfl | hd
    · exact h.1
    · exact canLay_mem h.2 d hd
theorem Pure.item {k b : Nat} {d : PyData} (h : Pure k b d) : Item k b d := ⟨h.dat, .inl h.nol, h.blk⟩
theorem bulkApp : ∀ a b : List PyData, PyData.bulkAll (a ++ b) = PyData.bulkAll a + PyData.bulkAll b
  | [], b => by rw [List.nil_append]; simp [PyData.bulkAll]
  | d :: r, b => by rw [List.cons_append]; simp only [PyData.bulkAll]; rw [bulkApp r b]; omega
theorem bulkMem {d : PyData} : ∀ {ds : List PyData}, d ∈ ds → d.bulk + 1 ≤ PyData.bulkAll ds
  | e :: r, h => by
    simp only [PyData.bulkAll]
    rcases List.mem_cons.mp h with rfl | h
    · omega
    · have := bulkMem h; omega
theorem bulkSub : ∀ {a b : List PyData}, a.Sublist b → PyData.bulkAll a ≤ PyData.bulkAll b
  | _, _, .slnil => Nat.le_refl _
  | _, _, .cons d h => by simp only [PyData.bulkAll]; have := bulkSub h; omega
  | _, _, .cons₂ d h => by simp only [PyData.bulkAll]; have := bulkSub h; omega
theorem bulkRev : ∀ a : List PyData, PyData.bulkAll a.reverse = PyData.bulkAll a
  | [] => rfl
  | d :: r => by rw [List.reverse_cons, bulkApp, bulkRev r]; simp only [PyData.bulkAll]; omega
theorem Item.tupleOf {k b : Nat} {ds : List PyData} (h : ∀ d ∈ ds, Dat k d) (one : (∀ d ∈ ds, noL' d = true) ∨ ∀ d ∈ ds, d.hasDict = false) (hb : PyData.bulkAll ds ≤ b) : Item (k + 1) b (.tuple ds) := by
  refine ⟨Dat.tuple h, ?_, by simp only [PyData.bulk]; exact hb⟩
  rcases one with h | h
  · exact .inl (by rw [noL']; exact noLs'_of h)
  · exact .inr (by simp only [PyData.hasDict]; exact hasDict_of h)
theorem Item.listOf {k b : Nat} {ds : List PyData} (h : ∀ d ∈ ds, Dat k d) (one : ∀ d ∈ ds, d.hasDict = false) (hb : PyData.bulkAll ds ≤ b) : Item (k + 1) b (.list ds) :=
  ⟨Dat.list h, .inr (by simp only [PyData.hasDict]; exact hasDict_of one), by simp only [PyData.bulk]; exact hb⟩
theorem Pure.mem {k b : Nat} {ds : List PyData} (h : Pure (k + 1) b (.tuple ds)) : ∀ d ∈ ds, Pure k b d := fun d hd => by
  have h2 := h.nol; have h3 := h.nod; have h4 := h.blk; have h5 := h.lay
  simp only [PyData.canLay0] at h5
  rw [noL'] at h2
  simp only [PyData.hasDict] at h3
  simp only [PyData.bulk] at h4
  exact ⟨h.dat.ofTuple d hd, noLs'_mem h2 d hd, hasDict_mem h3 d hd, canLay_mem h5 d hd, by have := bulkMem hd; omega⟩
theorem Pure.bulkT {k b : Nat} {ds : List PyData} (h : Pure k b (.tuple ds)) : PyData.bulkAll ds ≤ b := by have := h.blk; simp only [PyData.bulk] at this; exact this
theorem Tr.size1 : ∀ t : Tr, 1 ≤ t.size
  | .h s => Nat.le_refl _
  | .n f ps => Nat.le_add_left 1 _
mutual
theorem Tr.pureD : ∀ t : Tr, (∀ z ∈ syms t, Sm z ∧ z.length ≤ 17) → Pure (t.deep + 1) (19 * t.size - 1) t.data
  | .h s, h => by
    have hs := h s (by rw [syms_h]; simp)
    rw [Tr.data]
    refine ⟨Dat.str hs.1 _, by rw [noL'], by simp [PyData.hasDict], (Fine.str hs.1 0).lay, ?_⟩
    have e : (PyData.str s).bulk = s.length := by simp [PyData.bulk, Str.length]
    rw [e, size_h]; omega
  | .n f ps, h => by
    have hf := h f (by rw [syms_n]; simp)
    have hp := trsPureD ps fun z hz => h z (by rw [syms_n]; exact List.mem_cons_of_mem _ hz)
    rw [Tr.data]
    refine ⟨Dat.tuple fun d hd => ?_, ?_, ?_, ?_, ?_⟩
    · rcases List.mem_cons.mp hd with rfl | hd
      · exact Dat.str hf.1 _
      · exact (hp.1 d hd).1
    · rw [noL']; exact noLs'_of fun d hd => by
        rcases List.mem_cons.mp hd with rfl | hd
        · rw [noL']
        · exact (hp.1 d hd).2.1
    · simp only [PyData.hasDict]; exact hasDict_of fun d hd => by
        rcases List.mem_cons.mp hd with rfl | hd
        · simp [PyData.hasDict]
        · exact (hp.1 d hd).2.2.1
    · simp only [PyData.canLay0]; exact canLay_of fun d hd => by
        rcases List.mem_cons.mp hd with rfl | hd
        · exact (Fine.str hf.1 0).lay
        · exact (hp.1 d hd).2.2.2
    · simp only [PyData.bulk, PyData.bulkAll]
      have h1 := hp.2
      have h2 : f.cps.size ≤ 17 := hf.2
      show f.cps.size + 1 + _ ≤ 19 * (sizes ps + 1) - 1
      omega
theorem trsPureD : ∀ ts : List Tr, (∀ z ∈ (pres ts).map symOf, Sm z ∧ z.length ≤ 17) → (∀ d ∈ datas ts, Dat (deeps ts + 1) d ∧ noL' d = true ∧ d.hasDict = false ∧ d.canLay0 = true) ∧ PyData.bulkAll (datas ts) ≤ 19 * sizes ts
  | [], _ => And.intro (fun d hd => (by rw [datas] at hd; cases hd)) (by rw [datas]; simp [PyData.bulkAll])
  | t :: r, h => by
    rw [pres_cons, List.map_append] at h
    have a := Tr.pureD t fun z hz => h z (List.mem_append_left _ hz)
    have b := trsPureD r fun z hz => h z (List.mem_append_right _ hz)
    have ed : deeps (t :: r) = max t.deep (deeps r) := rfl
    have es : sizes (t :: r) = t.size + sizes r := by show (t.pre ++ pres r).length = _; rw [List.length_append]; rfl
    rw [datas]
    refine ⟨fun d hd => ?_, ?_⟩
    · rcases List.mem_cons.mp hd with rfl | hd
      · exact ⟨a.dat.up (by omega), a.nol, a.nod, a.lay⟩
      · have := b.1 d hd
        exact ⟨this.1.up (by omega), this.2.1, this.2.2⟩
    · simp only [PyData.bulkAll]
      have h1 := a.blk
      have h2 := b.2
      have h3 := Tr.size1 t
      omega
end
end Ah

namespace Ah
open PySem PySem.Spec PyProof.Rows L2
section
variable {P : Program} {w : World} {K : PySem.W.Frag} {mg : Str → Option Value} {base : Heap} {x : Str} {st : Stmt} {ps : List Str} {k : Nat}
/-- a def that keeps many promises keeps whichever -/
theorem hasUnion {sp : Nat → Sp} (D : Nat) (h : ∀ d, d ≤ D → Has P w K mg base k x st ps (sp d)) : Has P w K mg base k x st ps (fun vs H Q E => ∃ d, d ≤ D ∧ sp d vs H Q E) := by
  obtain ⟨f, fd, F, G, b, m⟩ := h 0 (Nat.zero_le _)
  have same : ∀ d, d ≤ D → FnOk P w K mg base CX0 k f fd ps (sp d) := fun d hd => by
    obtain ⟨f', fd', F', G', b', m'⟩ := h d hd
    obtain rfl : f = f' := by
      rw [m] at m'
      exact Value.ref.inj (Option.some.inj m')
    obtain ⟨oc, od, kV, doc, pm, an, cdv, ct, osl, e1, l1, _⟩ := F.ex
    obtain ⟨oc', od', kV', doc', pm', an', cdv', ct', osl', e2, l2, _⟩ := F'.ex
    rw [l1] at l2
    cases l2
    exact G'
  refine ⟨f, fd, F, ⟨fun vs H Q E z => ?_, fun A outer s H args us vs Q E hr e0 hb rv z => ?_⟩, b, m⟩
  · obtain ⟨d, hd, z⟩ := z
    exact (same d hd).len vs H Q E z
  · obtain ⟨d, hd, z⟩ := z
    exact (same d hd).run A outer s H args us vs Q E hr e0 hb rv z
theorem hasUnionA {L : La} {F : Nat → FS} (D : Nat) (h : ∀ d, d ≤ D → Has P w K mg base k x st ps (spA L (F d))) : Has P w K mg base k x st ps (spA L (fun as n q => ∃ d, d ≤ D ∧ F d as n q)) :=
  (hasUnion D h).imp fun vs H Q E z => by
    obtain ⟨M, as, n, q, l, e0, hs, O, hp, hst, ha, ⟨d, hd, hF⟩, hq⟩ := z
    exact ⟨d, hd, M, as, n, q, l, e0, hs, O, hp, hst, ha, hF, hq⟩
end
end Ah

namespace Ah
open PySem PySem.Spec PyProof.Rows L2
/-! ## dicts by keys, told of data -/
abbrev KM := List (Key × PyData)
def kvD (m : KM) : List (PyData × PyData) := m.map fun p => (kD p.1, p.2)
def valM (m : KM) (k : Key) : Option PyData := (m.find? fun p => decide (p.1 = k)).map (·.2)
def putM (m : KM) (k : Key) (d : PyData) : KM := if (m.any fun p => decide (p.1 = k)) = true then m.map (fun p => if p.1 = k then (p.1, d) else p) else m ++ [(k, d)]
def mergeM (m more : KM) : KM := more.foldl (fun acc p => putM acc p.1 p.2) m
theorem kD_inj {a b : Key} (h : kD a = kD b) : a = b := by
  cases a <;> cases b <;> simp only [kD, PyData.int.injEq, PyData.str.injEq, reduceCtorEq] at h <;> rw [h]
/-- a dict's pairs and the data, key by key -/
inductive Dkm (K : PySem.W.Frag) (S : Addr → Prop) (H : Hp) : List (Key × V) → KM → Prop
  | nil : Dkm K S H [] []
  | cons {k : Key} {v : V} {vs : List (Key × V)} {d : PyData} {m : KM} : Dz K S H v d → Dkm K S H vs m → Dkm K S H ((k, v) :: vs) ((k, d) :: m)
section
variable {K : PySem.W.Frag} {S : Addr → Prop} {H : Hp}
theorem Dkm.of : ∀ {m : KM} {vs : List (Key × V)}, Dzk K S H vs (kvD m) → Dkm K S H vs m
  | [], vs, h => by cases h; exact .nil
  | (k, d) :: m, vs, h => by
    have e : kvD ((k, d) :: m) = (kD k, d) :: kvD m := rfl
    rw [e] at h
    generalize hk : kD k = kk at h
    cases h with
    | @cons k' v vs' _ _ a b =>
      obtain rfl := kD_inj hk
      exact .cons a (Dkm.of b)
theorem Dkm.dzk : ∀ {vs : List (Key × V)} {m : KM}, Dkm K S H vs m → Dzk K S H vs (kvD m)
  | _, _, .nil => .nil
  | _, _, .cons a b => .cons a (Dkm.dzk b)
theorem Dkm.length : ∀ {vs : List (Key × V)} {m : KM}, Dkm K S H vs m → vs.length = m.length
  | _, _, .nil => rfl
  | _, _, .cons _ b => by rw [List.length_cons, List.length_cons, Dkm.length b]
theorem Dkm.val {k : Key} : ∀ {vs : List (Key × V)} {m : KM}, Dkm K S H vs m → (valV vs k = none ∧ valM m k = none) ∨ ∃ v d, valV vs k = some v ∧ valM m k = some d ∧ Dz K S H v d
  | _, _, .nil => .inl ⟨rfl, rfl⟩
  | _, _, .cons (k := k') (v := v) (vs := vs) (d := d) (m := m) a b => by
    by_cases h : k' = k
    · exact .inr ⟨v, d, by simp [valV, List.find?_cons, h], by simp [valM, List.find?_cons, h], a⟩
    · have e1 : valV ((k', v) :: vs) k = valV vs k := by simp [valV, List.find?_cons, h]
      have e2 : valM ((k', d) :: m) k = valM m k := by simp [valM, List.find?_cons, h]
      rw [e1, e2]
      exact Dkm.val b
theorem Dkm.any {k : Key} : ∀ {vs : List (Key × V)} {m : KM}, Dkm K S H vs m → (vs.any fun p => decide (p.1 = k)) = m.any fun p => decide (p.1 = k)
  | _, _, .nil => rfl
  | _, _, .cons _ b => by rw [List.any_cons, List.any_cons, Dkm.any b]
theorem Dkm.upd {k : Key} {v : V} {d : PyData} (hv : Dz K S H v d) : ∀ {vs : List (Key × V)} {m : KM}, Dkm K S H vs m → Dkm K S H (vs.map fun p => if p.1 = k then (p.1, v) else p) (m.map fun p => if p.1 = k then (p.1, d) else p)
  | _, _, .nil => .nil
  | _, _, .cons (k := k') a b => by
    rw [List.map_cons, List.map_cons]
    by_cases h : k' = k
    · rw [if_pos h, if_pos h]; exact .cons hv (Dkm.upd hv b)
    · rw [if_neg h, if_neg h]; exact .cons a (Dkm.upd hv b)
theorem Dkm.snoc {k : Key} {v : V} {d : PyData} (hv : Dz K S H v d) : ∀ {vs : List (Key × V)} {m : KM}, Dkm K S H vs m → Dkm K S H (vs ++ [(k, v)]) (m ++ [(k, d)])
  | _, _, .nil => .cons hv .nil
  | _, _, .cons a b => .cons a (Dkm.snoc hv b)
theorem Dkm.put {k : Key} {v : V} {d : PyData} {vs : List (Key × V)} {m : KM} (hv : Dz K S H v d) (h : Dkm K S H vs m) : Dkm K S H (putK vs k v) (putM m k d) := by
  unfold putK putM
  rw [h.any]
  split
  · exact h.upd hv
  · exact h.snoc hv
theorem Dkm.merge : ∀ {ws : List (Key × V)} {w : KM} {vs : List (Key × V)} {m : KM}, Dkm K S H ws w → Dkm K S H vs m → Dkm K S H (mergeK vs ws) (mergeM m w)
  | _, _, _, _, .nil, h => h
  | _, _, vs, m, .cons (k := k) (v := v) (d := d) (vs := ws) (m := w) a b, h => show Dkm K S H (mergeK (putK vs k v) ws) (mergeM (putM m k d) w) from Dkm.merge b (h.put a)
end
theorem Rdv.km {K : PySem.W.Frag} {S : Addr → Prop} {H : Hp} {v : V} {m : KM} (h : Rdv K S H v (.dict (kvD m))) : ∃ a vs, v = .ref a ∧ H a = some (.dK vs) ∧ Dkm K S H vs m := by
  obtain ⟨a, vs, h1, h2, h3⟩ := h.dict
  exact ⟨a, vs, h1, h2, Dkm.of h3⟩
/-- the key that data is -/
def dK' : PyData → Option Key
  | .int i => some (.inl i)
  | .str s => some (.inr s)
  | _ => none
theorem keyRel {K : PySem.W.Frag} {S : Addr → Prop} {H : Hp} {v : V} {x : PyData} {k : Key} (h : Dz K S H v x) (hk : dK' x = some k) : v = kV k := by
  cases x <;> first | (cases hk; cases h; rfl) | cases hk
section
variable {L : La} {M : Amb} {n m : Nat} {H Hs H' : Hp} {σ : L2.St} {e : AEnv} {v : V} {a : A} {i : Nat}
/-- d[y] -/
def aDGet (wd wy : AW) : AW := fun e n q => wd e n fun a m => wy e m fun b k => ∃ mm x key y, a.rd e = some (.dict (kvD mm)) ∧ b = .d x ∧ dK' x = some key ∧ valM mm key = some y ∧ q (.d y) k
theorem ab_dget {td ty : TE} {wd wy : AW} (h1 : AbE L td wd) (h2 : AbE L ty wy) : AbE L (tDGet td ty) (aDGet wd wy) := by
  intro M n H σ e q Q l R hw p
  refine h1 M n H σ e _ _ l R hw fun v H1 a m g1 R1 k1 r1 => ?_
  refine h2 M m H1 σ e _ _ l R1 g1 fun w H2 b m2 g2 R2 k2 r2 => ?_
  obtain ⟨mm, x, key, y, e1, rfl, e3, e4, g3⟩ := g2
  obtain ⟨c, vs, rfl, c1, c2⟩ := ((r1.step R1.ok k2 R.ok.there).rdv R2 e1).km
  rcases c2.val (k := key) with ⟨_, z⟩ | ⟨u, d, f1, f2, f3⟩
  · rw [e4] at z; cases z
  · rw [e4] at f2; cases f2
    refine ⟨c, u, rfl, ?_, okE R2 (p.from R.ok (k1.trans k2)) g3 f3⟩
    have := DGet.k (k := key) c1
    rw [f1, ← keyRel r2 e3] at this
    exact this
/-- y in d, y not in d -/
def aDIn (f : Bool → Bool) (wy wd : AW) : AW := fun e n q => wy e n fun b m => wd e m fun a k => ∃ mm x key, a.rd e = some (.dict (kvD mm)) ∧ b = .d x ∧ dK' x = some key ∧ q (.d (.bool (f (valM mm key).isSome))) k
theorem valSome {K : PySem.W.Frag} {S : Addr → Prop} {vs : List (Key × V)} {mm : KM} {key : Key} (h : Dkm K S H vs mm) : (valV vs key).isSome = (valM mm key).isSome := by
  rcases h.val (k := key) with ⟨h1, h2⟩ | ⟨u, d, h1, h2, _⟩ <;> rw [h1, h2] <;> rfl
theorem ab_din {td ty : TE} {wd wy : AW} (h2 : AbE L ty wy) (h1 : AbE L td wd) : AbE L (tDIn ty td) (aDIn id wy wd) := by
  intro M n H σ e q Q l R hw p
  refine h2 M n H σ e _ _ l R hw fun w H1 b m g1 R1 k1 r1 => ?_
  refine h1 M m H1 σ e _ _ l R1 g1 fun v H2 a m2 g2 R2 k2 r2 => ?_
  obtain ⟨mm, x, key, e1, rfl, e3, g3⟩ := g2
  obtain ⟨c, vs, rfl, c1, c2⟩ := (r2.rdv R2 e1).km
  refine ⟨c, valV vs key, rfl, ?_, ?_⟩
  · have := DGet.k (k := key) c1
    rw [← keyRel r1 e3] at this
    exact this
  · rw [valSome c2]; exact okE R2 (p.from R.ok (k1.trans k2)) g3 (.bl _)
theorem ab_dnotin {td ty : TE} {wd wy : AW} (h2 : AbE L ty wy) (h1 : AbE L td wd) : AbE L (tDNotIn ty td) (aDIn not wy wd) := by
  intro M n H σ e q Q l R hw p
  refine h2 M n H σ e _ _ l R hw fun w H1 b m g1 R1 k1 r1 => ?_
  refine h1 M m H1 σ e _ _ l R1 g1 fun v H2 a m2 g2 R2 k2 r2 => ?_
  obtain ⟨mm, x, key, e1, rfl, e3, g3⟩ := g2
  obtain ⟨c, vs, rfl, c1, c2⟩ := (r2.rdv R2 e1).km
  refine ⟨c, valV vs key, rfl, ?_, ?_⟩
  · have := DGet.k (k := key) c1
    rw [← keyRel r1 e3] at this
    exact this
  · rw [valSome c2]; exact okE R2 (p.from R.ok (k1.trans k2)) g3 (.bl _)
/-- d.get(y) -/
def aDGet1 (wd wy : AW) : AW := fun e n q => wd e n fun a m => ∃ mm, a.rd e = some (.dict (kvD mm)) ∧ wy e m fun b k => ∃ x key, b = .d x ∧ dK' x = some key ∧ q (.d ((valM mm key).getD .none)) k
theorem ab_dget1 {td ty : TE} {wd wy : AW} (h1 : AbE L td wd) (h2 : AbE L ty wy) : AbE L (tDGet1 td ty) (aDGet1 wd wy) := by
  intro M n H σ e q Q l R hw p
  refine h1 M n H σ e _ _ l R hw fun v H1 a m g1 R1 k1 r1 => ?_
  obtain ⟨mm, e1, g1⟩ := g1
  obtain ⟨c, vs, rfl, c1, _⟩ := (r1.rdv R1 e1).km
  refine ⟨c, rfl, .inl ⟨vs, .inl c1⟩, ?_⟩
  refine h2 M m H1 σ e _ _ l R1 g1 fun w H2 b m2 g2 R2 k2 r2 => ?_
  obtain ⟨x, key, rfl, e3, g3⟩ := g2
  obtain ⟨c', vs', e5, c1, c2⟩ := ((r1.step R1.ok k2 R.ok.there).rdv R2 e1).km
  cases e5
  refine ⟨valV vs' key, ?_, ?_⟩
  · have := DGet.k (k := key) c1
    rw [← keyRel r2 e3] at this
    exact this
  · refine okE R2 (p.from R.ok (k1.trans k2)) g3 ?_
    rcases c2.val (k := key) with ⟨f1, f2⟩ | ⟨u, d, f1, f2, f3⟩
    · rw [f1, f2]; exact .non
    · rw [f1, f2]; exact f3
/-- d.get(y, z) -/
def aDGet2 (wd wy wz : AW) : AW := fun e n q => wd e n fun a m => ∃ mm, a.rd e = some (.dict (kvD mm)) ∧ wy e m fun b k => wz e k fun c k2 => ∃ x key z, b = .d x ∧ dK' x = some key ∧ c.sto = some z ∧ q (.d ((valM mm key).getD z)) k2
theorem ab_dget2 {td ty tz : TE} {wd wy wz : AW} (h1 : AbE L td wd) (h2 : AbE L ty wy) (h3 : AbE L tz wz) : AbE L (tDGet2 td ty tz) (aDGet2 wd wy wz) := by
  intro M n H σ e q Q l R hw p
  refine h1 M n H σ e _ _ l R hw fun v H1 a m g1 R1 k1 r1 => ?_
  obtain ⟨mm, e1, g1⟩ := g1
  obtain ⟨c, vs, rfl, c1, _⟩ := (r1.rdv R1 e1).km
  refine ⟨c, rfl, .inl ⟨vs, .inl c1⟩, ?_⟩
  refine h2 M m H1 σ e _ _ l R1 g1 fun w H2 b m2 g2 R2 k2 r2 => ?_
  refine h3 M m2 H2 σ e _ _ l R2 g2 fun w3 H3 b3 m3 g3 R3 k3 r3 => ?_
  obtain ⟨x, key, z, rfl, e3, e4, g3⟩ := g3
  obtain ⟨c', vs', e5, c1, c2⟩ := (((r1.step R1.ok k2 R.ok.there).step R2.ok k3 R.ok.there).rdv R3 e1).km
  cases e5
  refine ⟨valV vs' key, ?_, ?_⟩
  · have := DGet.k (k := key) c1
    rw [← keyRel r2 e3] at this
    exact this
  · refine okE R3 (p.from R.ok ((k1.trans k2).trans k3)) g3 ?_
    rcases c2.val (k := key) with ⟨f1, f2⟩ | ⟨u, d, f1, f2, f3⟩
    · rw [f1, f2]; exact r3.sto e4
    · rw [f1, f2]; exact f3
theorem Rep.od {mm : KM} (R : Rep M n H σ e) (h : e[i]? = some (some (.od (kvD mm)))) : ∃ c vs, σ[i]? = some (some (.ref c)) ∧ M.S σ e c ∧ H c = some (.dK vs) ∧ Dkm M.K (M.S σ e) H vs mm := by
  obtain ⟨v, h1, h2⟩ := R.slot i _ h
  obtain ⟨c, vs, rfl, h3, h4, h5⟩ := h2
  exact ⟨c, vs, h1, .inl ⟨i, _, h1, h, trivial⟩, h4, Dkm.of h5⟩
/-- d[y] = v, d an own dict -/
def aDput (i : Nat) (wv wy : AW) : ASW := fun d e n => wv e n fun a m => (∃ mm, e[i]? = some (some (.od (kvD mm)))) ∧ wy e m fun b k => ∃ y x key mm, a.sto = some y ∧ b = .d x ∧ dK' x = some key ∧ e[i]? = some (some (.od (kvD mm))) ∧ mm.length < sizeLine ∧ d.nx (e.set i (some (.od (kvD (putM mm key y))))) k
theorem as_dput {tv ty : TE} {wv wy : AW} (h1 : AbE L tv wv) (h2 : AbE L ty wy) : AbS L (sDPut (tVar i) ty tv) (aDput i wv wy) := by
  intro M n H σ e D d l R hw k
  refine h1 M n H σ e _ _ l.1 R hw fun v H1 a m g1 R1 k1 r1 => ?_
  obtain ⟨⟨mm0, e0⟩, g1⟩ := g1
  obtain ⟨c, vs, c0, c1, c2, c3⟩ := R1.od e0
  refine ⟨.ref c, c0, ?_⟩
  refine h2 M m H1 σ e _ _ l.1 R1 g1 fun w H2 b m2 g2 R2 k2 r2 => ?_
  obtain ⟨y, x, key, mm, e1, rfl, e3, e4, e5, g3⟩ := g2
  obtain ⟨c', vs', c0', c1', c2', c3'⟩ := R2.od e4
  rw [c0] at c0'; cases c0'
  have zy := (r1.step R1.ok k2 R.ok.there).sto e1
  have hp := DPut.k (k := key) (v := v) c2' (by rw [c3'.length]; exact e5)
  rw [← keyRel r2 e3] at hp
  exact ⟨c, _, rfl, hp, k.nx _ _ _ _ g3 (R2.putK c0 e4 c2' (c3'.put zy).dzk)⟩
/-- tuple(d) of a dict: its keys -/
def fTupD : List A → AW := fun as e n q => ∃ a mm, as = [a] ∧ a.rd e = some (.dict (kvD mm)) ∧ q (.d (.tuple (mm.map fun p => kD p.1))) n
theorem keysD {K : PySem.W.Frag} {S S' : Addr → Prop} {H' : Hp} : ∀ {vs : List (Key × V)} {mm : KM}, Dkm K S H vs mm → Dzs K S' H' (vs.map fun kv => kV kv.1) (mm.map fun p => kD p.1)
  | _, _, .nil => .nil
  | _, _, .cons (k := k) _ b => .cons (by cases k with | inl i => exact .int i | inr s => exact .str s) (keysD b)
theorem cb_tupD : CbA L rTupD fTupD := by
  intro M n H Hs σ e vs as q Q l R ra h p
  obtain ⟨a, mm, rfl, h1, h4⟩ := h
  obtain ⟨v, rfl, r⟩ := rels1 ra
  obtain ⟨c, us, rfl, c1, c2⟩ := (r.rdv R h1).km
  exact ⟨c, us, rfl, c1, fun r hr => p _ _ _ n h4 (R.new hr) (Kp.new hr) (relNewT R hr (keysD c2))⟩
/-! ## a < b < c; x in a list -/
theorem ab_chain {r r' : R2} {f g : A → A → AW} {ta tb tc : TE} {wa wb wc : AW} (o : OpA L r f) (o' : OpA L r' g) (ha : AbE L ta wa) (hb : AbE L tb wb) (hc : AbE L tc wc) : AbE L (tChain r r' ta tb tc) (aChain f g wa wb wc) := by
  intro M n H σ e q Q l R hw p
  refine ha M n H σ e _ _ l R hw fun x H1 a m h1 R1 k1 r1 => ?_
  refine hb M m H1 σ e _ _ l R1 h1 fun y H2 b k h2 R2 k2 r2 => ?_
  refine o M k H2 H σ e x y a b _ _ l R2 (r1.step R1.ok k2 R.ok.there) (r2.from R.ok k1) h2 fun z H3 c k3 h3 R3 kk3 r3 => ?_
  obtain ⟨t, rfl, h3⟩ := h3
  refine ⟨t, relBool r3, ?_⟩
  have k13 := (k1.trans k2).trans kk3
  cases t with
  | false => exact okE R3 (p.from R.ok k13) h3 (.bl false)
  | true =>
    refine hc M k3 H3 σ e _ _ l R3 h3 fun u H4 d k4 h4 R4 kk4 r4 => ?_
    have r2' := ((r2.step R2.ok kk3 R1.ok.there).step R3.ok kk4 R1.ok.there).from R.ok k1
    exact o' M k4 H4 H σ e y u b d q Q l R4 r2' (r4.from R.ok k13) h4 (p.from R.ok (k13.trans kk4))
def fInD (f : Bool → Bool) (a b : A) : AW := fun e n q => ∃ x ds, a.rd e = some x ∧ b.rd e = some (.list ds) ∧ SeqAt.shaped x = true ∧ SeqAt.shaped (.list ds) = true ∧ x.hasDict = false ∧ PyData.hasDictAll ds = false ∧ q (.d (.bool (f (ds.any fun z => PyData.eqv z x)))) n
theorem oa_inD : OpA L (rInD L.K) (fInD id) := by
  intro M n H Hs σ e x y a b q Q l R ra rb h p
  obtain ⟨x', ds, h1, h2, h3, h4, h5, h6, hq⟩ := h
  have g1 := (ra.rdv R h1).all
  have g2 := (rb.rdv R h2).all
  rw [l.1] at g1 g2
  exact ⟨x', ds, Dz.dp _ h5 g1, Dz.dp _ (by simp only [PyData.hasDict]; exact h6) g2, h3, h4, okE R p hq (.bl _)⟩
theorem oa_notInD : OpA L (rNotInD L.K) (fInD not) := by
  intro M n H Hs σ e x y a b q Q l R ra rb h p
  obtain ⟨x', ds, h1, h2, h3, h4, h5, h6, hq⟩ := h
  have g1 := (ra.rdv R h1).all
  have g2 := (rb.rdv R h2).all
  rw [l.1] at g1 g2
  exact ⟨x', ds, Dz.dp _ h5 g1, Dz.dp _ (by simp only [PyData.hasDict]; exact h6) g2, h3, h4, okE R p hq (.bl _)⟩
end
end Ah

namespace Lz
open PySem PySem.Calls PyProof.Rows PyProof.V PySem.Spec PySem.W RZ
/-! ## zip over two tuples whose given pairs stay: list(zip(a, b)) -/
section
variable {prog : Program} {w : World} {A : Around} {E : Value → Shared → Prop} {s : Shared}
variable {z TI TO T i1 i2 l1 l2 S : Addr} {f : Bool} {oT : Obj} {k : Nat} {xs ys : Array Value} {x y : Value}
theorem heldItem {Q : Option Value → Shared → Prop} (D : ZipApart z TI TO i1 i2 l1 l2)
    (hz : IsZipHeld s.heap z TI TO T f) (hT : s.heap.get? T = some oT) (hTI : IsPair s.heap TI (.ref i1) (.ref i2))
    (h1 : s.heap.IsTupleIter i1 l1 k) (h2 : s.heap.IsTupleIter i2 l2 k) (hl1 : s.heap.IsTuple l1 xs) (hl2 : s.heap.IsTuple l2 ys) (hx : xs[k]? = some x) (hy : ys[k]? = some y)
    (hQ : ∀ h', IsZipHeld h' z TI TO T true → h'.IsTupleIter i1 l1 (k + 1) → h'.IsTupleIter i2 l2 (k + 1) → IsPair h' s.heap.objs.size x y → h'.objs.size = s.heap.objs.size + 1 →
      (∀ c o, c ≠ z → c ≠ i1 → c ≠ i2 → s.heap.get? c = some o → h'.get? c = some o) → Q (some (.ref s.heap.objs.size)) { s with heap := h' }) :
    wpAny (model prog w) A (pyNext (.ref z)) Q E s := by
  have ty : s.TypeIs (.ref z) "zip" := ⟨_, hz, rfl⟩
  unfold pyNext
  refine wpAny_bind (wpAny_attempt (wpAny_callSpecial?_slot (name := Str.ofString "__next__") ty F.slot_zip_next
    (wpAny_call_entry F.slot_zip_next ty F.entry_zip_next ?_ (F.args_zip_next_1 _))))
  show wpAny _ _ (field (.ref z) 2 >>= _) _ _ _
  refine wpAny_bind (wpAny_field hz rfl (x := .bool false) rfl ?_)
  show wpAny _ _ (field (.ref z) 3 >>= _) _ _ _
  refine wpAny_bind (wpAny_field hz rfl (x := .ref TI) rfl ?_)
  refine wpAny_bind (wpAny_seqItems hTI rfl ?_)
  show wpAny _ _ (Builtin.SmallTypes.ownedTupleIsFree (.ref z) >>= _) _ _ _
  refine wpAny_bind (wpAny_tupleHeld_zip hz hT fun ha za sa => ?_)
  simp only [Bool.false_eq_true, if_false]
  refine wpAny_bind ?_
  rw [← Array.forIn_toList]
  simp only [List.forIn_cons, List.forIn_nil]
  refine wpAny_bind (wpAny_bind (wpAny_holding ?_))
  show wpAny _ _ (Builtin.SmallTypes.nextOf (.ref i1) >>= _) _ _ _
  refine wpAny_bind (nextOf_tuple_item (s := { s with heap := ha }) (h1.extBut sa.extBut D.i1z) (hl1.extBut sa.extBut D.l1z) hx fun hb jb sb => wpAny_pure ?_)
  refine wpAny_pure ?_
  refine wpAny_bind (wpAny_bind (wpAny_holding ?_))
  show wpAny _ _ (Builtin.SmallTypes.nextOf (.ref i2) >>= _) _ _ _
  refine wpAny_bind (nextOf_tuple_item (s := { s with heap := hb }) ((h2.extBut sa.extBut D.i2z).extBut sb.extBut D.i12.symm) ((hl2.extBut sa.extBut D.l2z).extBut sb.extBut D.l2i1) hy fun hc jc sc => wpAny_pure ?_)
  refine wpAny_pure (wpAny_pure ?_)
  show wpAny _ _ (newTuple [x, y] >>= _) _ _ _
  refine wpAny_bind (wpAny_newTuple ?_)
  have sz : hc.objs.size = s.heap.objs.size := by rw [sc.1, sb.1, sa.1]
  have zc : IsZipHeld hc z TI TO T true := sc.extBut _ _ D.i2z.symm (sb.extBut _ _ D.i1z.symm za)
  have kp : ∀ c o, c ≠ z → c ≠ i1 → c ≠ i2 → s.heap.get? c = some o → hc.get? c = some o := fun c o n1 n2 n3 e => sc.extBut _ _ n3 (sb.extBut _ _ n2 (sa.extBut _ _ n1 e))
  have j1 : hc.IsTupleIter i1 l1 (k + 1) := jb.extBut sc.extBut D.i12
  refine wpAny_pure ⟨_, rfl, ?_⟩
  refine wpAny_pure ?_
  show Q (some (.ref hc.objs.size)) _
  have hp : IsPair (hc.push { cls := .type "tuple", data := .seq #[x, y] }) hc.objs.size x y := Heap.get?_push_size _ rfl
  have sz' : (hc.push { cls := .type "tuple", data := .seq #[x, y] }).objs.size = hc.objs.size + 1 := Heap.size_push ..
  rw [sz] at hp sz' ⊢
  exact hQ _ (Heap.get?_push_of_some _ zc) (j1.at fun o e => Heap.get?_push_of_some _ e) (jc.at fun o e => Heap.get?_push_of_some _ e) hp sz' fun c o n1 n2 n3 e => Heap.get?_push_of_some _ (kp c o n1 n2 n3 e)
theorem heldEnd {Q : Option Value → Shared → Prop} (hh : A.handled = none) (D : ZipApart z TI TO i1 i2 l1 l2)
    (hz : IsZipHeld s.heap z TI TO T f) (hT : s.heap.get? T = some oT) (hTI : IsPair s.heap TI (.ref i1) (.ref i2))
    (h1 : s.heap.IsTupleIter i1 l1 k) (h2 : s.heap.IsTupleIter i2 l2 k) (hl1 : s.heap.IsTuple l1 xs) (hl2 : s.heap.IsTuple l2 ys) (hend : xs[k]? = none ∨ ys[k]? = none)
    (hQ : ∀ h', (∀ c o, c ≠ z → c ≠ i1 → c ≠ i2 → s.heap.get? c = some o → h'.get? c = some o) → Q none { s with heap := h' }) : wpAny (model prog w) A (pyNext (.ref z)) Q E s := by
  have ty : s.TypeIs (.ref z) "zip" := ⟨_, hz, rfl⟩
  have fin : ∀ h' e, (∀ c o, c ≠ z → c ≠ i1 → c ≠ i2 → s.heap.get? c = some o → h'.get? c = some o) → (∃ o, h'.get? e = some o ∧ o.cls = .type "StopIteration") →
      wpAny (model prog w) A (isInstance (.ref e) (.type "StopIteration") >>= fun b => if b = true then pure none else throw (.ref e)) Q E { s with heap := h' } := fun h' e kp ⟨o, ho, hc⟩ =>
    wpAny_bind (wpAny_isInstance (T := "StopIteration") (b := true) ⟨o, ho, hc⟩ isSubtype_stop (wpAny_pure (hQ _ kp)))
  unfold pyNext
  refine wpAny_bind (wpAny_attempt (wpAny_callSpecial?_slot (name := Str.ofString "__next__") ty F.slot_zip_next
    (wpAny_call_entry F.slot_zip_next ty F.entry_zip_next ?_ (F.args_zip_next_1 _))))
  show wpAny _ _ (field (.ref z) 2 >>= _) _ _ _
  refine wpAny_bind (wpAny_field hz rfl (x := .bool false) rfl ?_)
  show wpAny _ _ (field (.ref z) 3 >>= _) _ _ _
  refine wpAny_bind (wpAny_field hz rfl (x := .ref TI) rfl ?_)
  refine wpAny_bind (wpAny_seqItems hTI rfl ?_)
  show wpAny _ _ (Builtin.SmallTypes.ownedTupleIsFree (.ref z) >>= _) _ _ _
  refine wpAny_bind (wpAny_tupleHeld_zip hz hT fun ha za sa => ?_)
  simp only [Bool.false_eq_true, if_false]
  refine wpAny_bind ?_
  rw [← Array.forIn_toList]
  simp only [List.forIn_cons, List.forIn_nil]
  refine wpAny_bind (wpAny_bind (wpAny_holding ?_))
  show wpAny _ _ (Builtin.SmallTypes.nextOf (.ref i1) >>= _) _ _ _
  cases hx : xs[k]? with
  | none =>
    refine wpAny_bind (nextOf_tuple_end (s := { s with heap := ha }) hh (h1.extBut sa.extBut D.i1z) (hl1.extBut sa.extBut D.l1z) hx fun hb e sb he => ?_)
    exact fin hb e (fun c o c1 c2 _ q => sb _ _ c2 (sa.extBut _ _ c1 q)) he
  | some x =>
    have hy : ys[k]? = none := by rcases hend with h | h; rw [hx] at h; cases h; exact h
    refine wpAny_bind (nextOf_tuple_item (s := { s with heap := ha }) (h1.extBut sa.extBut D.i1z) (hl1.extBut sa.extBut D.l1z) hx fun hb jb sb => wpAny_pure ?_)
    refine wpAny_pure ?_
    refine wpAny_bind (wpAny_bind (wpAny_holding ?_))
    show wpAny _ _ (Builtin.SmallTypes.nextOf (.ref i2) >>= _) _ _ _
    refine wpAny_bind (nextOf_tuple_end (s := { s with heap := hb }) hh ((h2.extBut sa.extBut D.i2z).extBut sb.extBut D.i12.symm) ((hl2.extBut sa.extBut D.l2z).extBut sb.extBut D.l2i1) hy fun hc e sc he => ?_)
    exact fin hc e (fun c o c1 c2 c3 q => sc _ _ c3 (sb.extBut _ _ c2 (sa.extBut _ _ c1 q))) he
end

/-- a zip over two tuples before turn i, as it fills the list at S -/
structure Zs (h : Heap) (z TI TO i1 i2 l1 l2 S : Addr) (xs ys : Array Value) (i : Nat) : Prop where
  ti : IsPair h TI (.ref i1) (.ref i2)
  j1 : h.IsTupleIter i1 l1 i
  j2 : h.IsTupleIter i2 l2 i
  t1 : h.IsTuple l1 xs
  t2 : h.IsTuple l2 ys
  zz : (IsZip h z TI TO .none ∧ ∃ a b, IsPair h TO a b) ∨ ∃ (T : Addr) (f : Bool) (oT : Obj), IsZipHeld h z TI TO T f ∧ h.get? T = some oT ∧ T ≠ z ∧ T ≠ TO ∧ T ≠ i1 ∧ T ≠ i2 ∧ T ≠ S
/-- the pairs that it gave -/
structure Zg (xs ys : Array Value) (lo : Addr) (h : Heap) (as : List Addr) : Prop where
  rise : as.Pairwise (· < ·)
  above : ∀ a ∈ as, lo < a
  pairs : ∀ (j : Nat) (a : Addr), as[j]? = some a → ∃ x y, xs[j]? = some x ∧ ys[j]? = some y ∧ IsPair h a x y
theorem Zg.there {xs ys : Array Value} {lo : Addr} {h : Heap} {as : List Addr} (g : Zg xs ys lo h as) {a : Addr} (ha : a ∈ as) : a < h.objs.size := by
  obtain ⟨j, hj⟩ := List.mem_iff_getElem?.mp ha
  obtain ⟨_, _, _, _, e⟩ := g.pairs j a hj
  exact Heap.lt_size e
section
variable {prog : Program} {w : World} {A : Around} {E : Value → Shared → Prop} {s : Shared}
variable {z TI TO i1 i2 l1 l2 S : Addr} {k : Nat} {xs ys : Array Value} {x y : Value}
theorem Zs.keep {h h' : Heap} (q : Zs h z TI TO i1 i2 l1 l2 S xs ys k) (kp : ∀ b o, b ≠ S → h.get? b = some o → h'.get? b = some o) (n1 : TI ≠ S) (n2 : i1 ≠ S) (n3 : i2 ≠ S) (n4 : l1 ≠ S) (n5 : l2 ≠ S) (n6 : z ≠ S) (n7 : TO ≠ S) : Zs h' z TI TO i1 i2 l1 l2 S xs ys k := by
  refine ⟨kp _ _ n1 q.ti, q.j1.at fun o e => kp _ o n2 e, q.j2.at fun o e => kp _ o n3 e, q.t1.at fun o e => kp _ o n4 e, q.t2.at fun o e => kp _ o n5 e, ?_⟩
  rcases q.zz with ⟨hz, a, b, hO⟩ | ⟨T, f, oT, hz, hT, r1, r2, r3, r4, r5⟩
  · exact .inl ⟨kp _ _ n6 hz, a, b, kp _ _ n7 hO⟩
  · exact .inr ⟨T, f, oT, kp _ _ n6 hz, kp _ _ r5 hT, r1, r2, r3, r4, r5⟩
theorem zsItem {Q : Option Value → Shared → Prop} (D : ZipApart z TI TO i1 i2 l1 l2) (q : Zs s.heap z TI TO i1 i2 l1 l2 S xs ys k) (hS : S < s.heap.objs.size) (hx : xs[k]? = some x) (hy : ys[k]? = some y)
    (hQ : ∀ h', Zs h' z TI TO i1 i2 l1 l2 S xs ys (k + 1) → IsPair h' s.heap.objs.size x y → h'.objs.size = s.heap.objs.size + 1 → (∀ c o, c ≠ z → c ≠ TO → c ≠ i1 → c ≠ i2 → s.heap.get? c = some o → h'.get? c = some o) → Q (some (.ref s.heap.objs.size)) { s with heap := h' }) :
    wpAny (model prog w) A (pyNext (.ref z)) Q E s := by
  obtain ⟨hTI, h1, h2, hl1, hl2, hz⟩ := q
  have lt : ∀ {c o}, s.heap.get? c = some o → s.heap.objs.size ≠ c := fun e => Nat.ne_of_gt (Heap.lt_size e)
  have n1 : s.heap.objs.size ≠ i1 := let ⟨_, e, _⟩ := h1; lt e
  have n2 : s.heap.objs.size ≠ i2 := let ⟨_, e, _⟩ := h2; lt e
  rcases hz with ⟨hz, a, b, hTO⟩ | ⟨T, f, oT, hz, hT, r1, r2, r3, r4, r5⟩
  · refine pyNext_zipT_item D hz hTI hTO h1 h2 hl1 hl2 hx hy fun h' a1 a2 a3 a4 a5 a6 kp => ?_
    exact hQ h' ⟨kp _ _ D.TIz D.TITO D.TIi1 D.TIi2 hTI, a3, a4, hl1.at fun o e => kp _ o D.l1z D.l1TO D.l1i1 D.l1i2 e, hl2.at fun o e => kp _ o D.l2z D.l2TO D.l2i1 D.l2i2 e,
      .inr ⟨s.heap.objs.size, false, _, a1, a5, lt hz, lt hTO, n1, n2, Nat.ne_of_gt hS⟩⟩ a5 a6 kp
  · refine heldItem D hz hT hTI h1 h2 hl1 hl2 hx hy fun h' a1 a3 a4 a5 a6 kp => ?_
    exact hQ h' ⟨kp _ _ D.TIz D.TIi1 D.TIi2 hTI, a3, a4, hl1.at fun o e => kp _ o D.l1z D.l1i1 D.l1i2 e, hl2.at fun o e => kp _ o D.l2z D.l2i1 D.l2i2 e,
      .inr ⟨T, true, oT, a1, kp _ _ r1 r3 r4 hT, r1, r2, r3, r4, r5⟩⟩ a5 a6 fun c o c1 _ c3 c4 e => kp c o c1 c3 c4 e
theorem zsEnd {Q : Option Value → Shared → Prop} (hh : A.handled = none) (D : ZipApart z TI TO i1 i2 l1 l2) (q : Zs s.heap z TI TO i1 i2 l1 l2 S xs ys k) (hend : xs[k]? = none ∨ ys[k]? = none)
    (hQ : ∀ h', (∀ c o, c ≠ z → c ≠ TO → c ≠ i1 → c ≠ i2 → s.heap.get? c = some o → h'.get? c = some o) → Q none { s with heap := h' }) : wpAny (model prog w) A (pyNext (.ref z)) Q E s := by
  obtain ⟨hTI, h1, h2, hl1, hl2, hz⟩ := q
  rcases hz with ⟨hz, a, b, hTO⟩ | ⟨T, f, oT, hz, hT, r1, r2, r3, r4, r5⟩
  · exact pyNext_zipT_end hh D hz hTI hTO h1 h2 hl1 hl2 hend hQ
  · exact heldEnd hh D hz hT hTI h1 h2 hl1 hl2 hend fun h' kp => hQ h' fun c o c1 _ c3 c4 e => kp c o c1 c3 c4 e
end
theorem nLt {a S b : Addr} (h : a < S) (u : S < b) : b ≠ a := Nat.ne_of_gt (Nat.lt_trans h u)
/-- the cells that the loop writes lie below the list -/
structure Low (S z TI TO i1 i2 l1 l2 : Addr) : Prop where
  z : z < S
  TI : TI < S
  TO : TO < S
  i1 : i1 < S
  i2 : i2 < S
  l1 : l1 < S
  l2 : l2 < S
section
variable {prog : Program} {w : World} {A : Around} {s : Shared} {R : Result → Shared → Prop}
variable {z TI TO i1 i2 l1 l2 S : Addr} {n : Nat} {xs ys : Array Value}
theorem zlLoop (hh : A.handled = none) (D : ZipApart z TI TO i1 i2 l1 l2) (L : Low S z TI TO i1 i2 l1 l2) (hx : n ≤ xs.size) (hy : n ≤ ys.size) (he : n = xs.size ∨ n = ys.size) (hn : n ≤ sizeLine) (res : Value) {h₁ : Heap}
    (hR : ∀ h' tk acc c as, (∀ b o, b ≠ S → b ≠ z → b ≠ TO → b ≠ i1 → b ≠ i2 → h₁.get? b = some o → h'.get? b = some o) → h'.get? S = some { cls := .type "list", dict := none, data := .seq acc c, slots := #[] } → as.length = n → Zg xs ys S h' as →
      acc.toList = as.map Value.ref → R (.ok (.ret res)) { s with heap := h', toks := tk }) :
    ∀ (k i : Nat) (h : Heap) (tk c : Nat) (acc : Array Value) (as : List Addr), n - i = k → i ≤ n → Zs h z TI TO i1 i2 l1 l2 S xs ys i → (∀ b o, b ≠ S → b ≠ z → b ≠ TO → b ≠ i1 → b ≠ i2 → h₁.get? b = some o → h.get? b = some o) →
      h.get? S = some { cls := .type "list", dict := none, data := .seq acc c, slots := #[] } → acc.toList = as.map Value.ref → as.length = i → Zg xs ys S h as →
      codeAny (model prog w) A (.builtin "list.extend.loop" ⟨[.ref S, .ref z, res], []⟩) R { s with heap := h, toks := tk } := by
  have nS : ∀ {a : Addr}, a < S → S ≠ a := fun h => Nat.ne_of_gt h
  intro k
  induction k with
  | zero =>
    intro i h tk c acc as hk hi hst hkeep hS hacc hal hG
    have hin : i = n := by omega
    subst hin
    refine codeAny_builtin PySem.F.entry_extend_loop ?_
    rw [Around.under_plainId PySem.F.plain_extend_loop _]
    show wpAny _ A.in1 (pyNext (.ref z) >>= _) _ _ _
    have hend : xs[i]? = none ∨ ys[i]? = none := by
      rcases he with h | h
      · exact .inl (Array.getElem?_eq_none (Nat.le_of_eq h.symm))
      · exact .inr (Array.getElem?_eq_none (Nat.le_of_eq h.symm))
    refine wpAny_bind (zsEnd (s := { s with heap := h, toks := tk }) (A := A.in1) (S := S) hh D hst hend fun h' kp => ?_)
    refine wpAny_pure (hR h' tk acc c as (fun b o h1 h2 h3 h4 h5 e => kp b o h2 h3 h4 h5 (hkeep b o h1 h2 h3 h4 h5 e)) (kp S _ (nS L.z) (nS L.TO) (nS L.i1) (nS L.i2) hS) hal ⟨hG.rise, hG.above, fun j a hj => ?_⟩ hacc)
    obtain ⟨x, y, e1, e2, e3⟩ := hG.pairs j a hj
    have up := hG.above a (List.mem_of_getElem? hj)
    exact ⟨x, y, e1, e2, kp a _ (nLt L.z up) (nLt L.TO up) (nLt L.i1 up) (nLt L.i2 up) e3⟩
  | succ k ih =>
    intro i h tk c acc as hk hi hst hkeep hS hacc hal hG
    have hlx : i < xs.size := by omega
    have hly : i < ys.size := by omega
    have ex := Array.getElem?_eq_getElem hlx
    have ey := Array.getElem?_eq_getElem hly
    have hsz : acc.size = i := by rw [← Array.length_toList, hacc, List.length_map, hal]
    refine codeAny_builtin PySem.F.entry_extend_loop ?_
    rw [Around.under_plainId PySem.F.plain_extend_loop _]
    show wpAny _ A.in1 (pyNext (.ref z) >>= _) _ _ _
    have hSl : S < h.objs.size := Heap.lt_size hS
    refine wpAny_bind (zsItem (s := { s with heap := h, toks := tk }) (S := S) D hst hSl ex ey fun h' hst' ht hz kp => ?_)
    dsimp only at ht hz kp ⊢
    have hS' := kp S _ (nS L.z) (nS L.TO) (nS L.i1) (nS L.i2) hS
    have up : ∀ b o, b ≠ S → h'.get? b = some o → (h'.update S (Obj.mapSeq (·.push (Value.ref h.objs.size)))).get? b = some o := fun b o hb e => (Heap.get?_update_other _ _ (Ne.symm hb)).trans e
    show wpAny _ A.in1 (updateSeq S (·.push (Value.ref h.objs.size)) >>= _) _ _ _
    refine wpAny_bind ?_
    refine wpAny_updateSeq hS' rfl (wpAny_pure ⟨plainId_quiet PySem.F.plain_extend_loop _, ih (i + 1) _ tk _ (acc.push (Value.ref h.objs.size)) (as ++ [h.objs.size]) (by omega) (by omega) (hst'.keep up (Nat.ne_of_lt L.TI) (Nat.ne_of_lt L.i1) (Nat.ne_of_lt L.i2) (Nat.ne_of_lt L.l1) (Nat.ne_of_lt L.l2) (Nat.ne_of_lt L.z) (Nat.ne_of_lt L.TO))
      (fun b o h1 h2 h3 h4 h5 e => up b o h1 (kp b o h2 h3 h4 h5 (hkeep b o h1 h2 h3 h4 h5 e))) (Heap.get?_update_self _ hS' rfl) (by rw [Array.toList_push, hacc, List.map_append]; rfl) (by rw [List.length_append, hal]; rfl) ⟨?_, ?_, ?_⟩⟩) (by rw [hsz]; omega) (by show (acc.push (Value.ref h.objs.size)).size ≤ sizeLine + 1; rw [Array.size_push, hsz]; omega)
    · refine List.pairwise_append.mpr ⟨hG.rise, List.pairwise_singleton _ _, fun a ha b hb => ?_⟩
      rw [List.mem_singleton.mp hb]
      exact hG.there ha
    · intro a ha
      rcases List.mem_append.mp ha with ha | ha
      · exact hG.above a ha
      · rw [List.mem_singleton.mp ha]; exact hSl
    · intro j b hj
      rcases Nat.lt_trichotomy j as.length with h1 | h1 | h1
      · rw [List.getElem?_append_left h1] at hj
        obtain ⟨x, y, e1, e2, e3⟩ := hG.pairs j b hj
        have hb := hG.above b (List.mem_of_getElem? hj)
        exact ⟨x, y, e1, e2, up b _ (Nat.ne_of_gt hb) (kp b _ (nLt L.z hb) (nLt L.TO hb) (nLt L.i1 hb) (nLt L.i2 hb) e3)⟩
      · subst h1
        have hb : h.objs.size = b := by simpa using hj
        subst hb
        exact ⟨_, _, by rw [hal]; exact ex, by rw [hal]; exact ey, up _ _ (Nat.ne_of_gt hSl) ht⟩
      · have hnone : (as ++ [h.objs.size])[j]? = none := List.getElem?_eq_none (by rw [List.length_append, List.length_singleton]; omega)
        rw [hnone] at hj; cases hj
end
theorem zip_no_len : typeLookup (.type "zip") "__len__" = pure none := by rw [typeLookup_type, builtinLookup_eq_fast]; kernel_rfl
theorem zip_no_hint : typeLookup (.type "zip") "__length_hint__" = pure none := by rw [typeLookup_type, builtinLookup_eq_fast]; kernel_rfl
section
variable {prog : Program} {w : World} {A : Around} {E : Value → Shared → Prop} {s : Shared} {R : Result → Shared → Prop}
variable {z TI TO i1 i2 l1 l2 S : Addr} {n : Nat} {xs ys : Array Value}
theorem Zs.start {h : Heap} {S S' : Addr} (hz : IsZip h z TI TO .none) (hO : ∃ a b, IsPair h TO a b) (ti : IsPair h TI (.ref i1) (.ref i2)) (j1 : h.IsTupleIter i1 l1 0) (j2 : h.IsTupleIter i2 l2 0) (t1 : h.IsTuple l1 xs) (t2 : h.IsTuple l2 ys) : Zs h z TI TO i1 i2 l1 l2 S xs ys 0 :=
  ⟨ti, j1, j2, t1, t2, .inl ⟨hz, hO⟩⟩
theorem zlExtend (hh : A.handled = none) (D : ZipApart z TI TO i1 i2 l1 l2) (L : Low S z TI TO i1 i2 l1 l2) (hx : n ≤ xs.size) (hy : n ≤ ys.size) (he : n = xs.size ∨ n = ys.size) (hn : n ≤ sizeLine) (hz : IsZip s.heap z TI TO .none) (q : Zs s.heap z TI TO i1 i2 l1 l2 S xs ys 0) (res : Value) (c₀ : Nat) (hS : s.heap.get? S = some { cls := .type "list", data := .seq #[] c₀ })
    (hR : ∀ h' tk acc c as, (∀ b o, b ≠ S → b ≠ z → b ≠ TO → b ≠ i1 → b ≠ i2 → s.heap.get? b = some o → h'.get? b = some o) → h'.get? S = some { cls := .type "list", dict := none, data := .seq acc c, slots := #[] } → as.length = n → Zg xs ys S h' as →
      acc.toList = as.map Value.ref → R (.ok (.ret res)) { s with heap := h', toks := tk }) :
    wpAny (model prog w) A.in1 (Builtin.List.listExtendWith (.ref S) (.ref z) res)
      (fun fin s' => match fin with | .done f => R (.ok f) s' | .again c' => c'.quiet = true ∧ codeAny (model prog w) A c' R s') (fun e s' => R (.error e) s') s := by
  have ty : s.TypeIs (.ref z) "zip" := ⟨_, hz, rfl⟩
  unfold Builtin.List.listExtendWith
  refine wpAny_bind (wpAny_typeOf (T := "zip") ty ?_)
  have h1 : Builtin.List.listSameRef (.ref S) (.ref z) = false := by simp [Builtin.List.listSameRef, Nat.ne_of_gt L.z]
  have h2 : (Value.type "zip" == Value.type "list") = false := by decide
  have h3 : (Value.type "zip" == Value.type "tuple") = false := by decide
  simp only [h1, h2, h3, Bool.or_false, Bool.false_eq_true, if_false]
  refine wpAny_bind (wpAny_pyIter_zip hz ?_)
  refine wpAny_bind (wpAny_holding ?_)
  unfold Builtin.List.listLengthHint
  refine wpAny_bind (wpAny_specialOf ty zip_no_len ?_)
  show wpAny _ A.in1 (specialOf (Value.ref z) (Str.ofString "__length_hint__") >>= _) _ _ _
  refine wpAny_bind (wpAny_specialOf ty zip_no_hint ?_)
  refine wpAny_pure ?_
  show wpAny _ A.in1 (rule "list.extend.makes-room" >>= fun _ => Builtin.List.listTouch (.ref S) >>= fun _ =>
    again (.builtin "list.extend.loop" ⟨[.ref S, .ref z, res], []⟩)) _ _ _
  refine wpAny_bind (wpAny_rule ?_)
  refine wpAny_bind ?_
  show wpAny _ A.in1 (updateSeq S (·.push .none) >>= fun _ => updateSeq S (·.pop)) _ _ _
  refine wpAny_bind (wpAny_updateSeq hS rfl ?_)
  have hS₂ := Heap.get?_update_self (Obj.mapSeq (·.push Value.none)) hS rfl
  refine wpAny_updateSeq (hz := by seq_fits) hS₂ rfl ?_
  have hS₃ := Heap.get?_update_self (Obj.mapSeq (·.pop)) hS₂ rfl
  have oth : ∀ b o, b ≠ S → s.heap.get? b = some o → ((s.heap.update S (Obj.mapSeq (·.push Value.none))).update S (Obj.mapSeq (·.pop))).get? b = some o :=
    fun b o hb e => (Heap.get?_update_other _ _ (Ne.symm hb)).trans ((Heap.get?_update_other _ _ (Ne.symm hb)).trans e)
  refine wpAny_pure ⟨plainId_quiet F.plain_extend_loop _, zlLoop hh D L hx hy he hn res (fun h' tk acc c as kp hS' hl hG hacc => hR h' tk acc c as (fun b o n1 n2 n3 n4 n5 e => kp b o n1 n2 n3 n4 n5 (oth b o n1 e)) hS' hl hG hacc)
    n 0 _ s.toks _ #[] [] (Nat.sub_zero _) (Nat.zero_le _) (q.keep oth (Nat.ne_of_lt L.TI) (Nat.ne_of_lt L.i1) (Nat.ne_of_lt L.i2) (Nat.ne_of_lt L.l1) (Nat.ne_of_lt L.l2) (Nat.ne_of_lt L.z) (Nat.ne_of_lt L.TO)) (fun b o _ _ _ _ _ e => e) hS₃ rfl rfl
    ⟨List.Pairwise.nil, (fun _ ha => nomatch ha), (fun j a hj => by simp at hj)⟩⟩
theorem zlInit (hh : A.handled = none) (D : ZipApart z TI TO i1 i2 l1 l2) (L : Low S z TI TO i1 i2 l1 l2) (hx : n ≤ xs.size) (hy : n ≤ ys.size) (he : n = xs.size ∨ n = ys.size) (hn : n ≤ sizeLine) (hz : IsZip s.heap z TI TO .none) (q : Zs s.heap z TI TO i1 i2 l1 l2 S xs ys 0) (hS : s.heap.get? S = some { cls := .type "list", data := .seq #[] })
    (hR : ∀ h' tk acc c as, (∀ b o, b ≠ S → b ≠ z → b ≠ TO → b ≠ i1 → b ≠ i2 → s.heap.get? b = some o → h'.get? b = some o) → h'.get? S = some { cls := .type "list", dict := none, data := .seq acc c, slots := #[] } → as.length = n → Zg xs ys S h' as →
      acc.toList = as.map Value.ref → R (.ok (.ret .none)) { s with heap := h', toks := tk }) :
    wpAny (model prog w) A.in1 (Builtin.«list.__init__» ⟨[.ref S, .ref z], []⟩)
      (fun fin s' => match fin with | .done f => R (.ok f) s' | .again c' => c'.quiet = true ∧ codeAny (model prog w) A c' R s') (fun e s' => R (.error e) s') s := by
  show wpAny _ A.in1 (do let old ← Builtin.List.listItems (.ref S); Builtin.List.listUpdate (.ref S) (fun _ => #[]); letGo old.toList.reverse; Builtin.List.listExtendWith (.ref S) (.ref z) .none) _ _ s
  refine wpAny_bind ?_
  unfold Builtin.List.listItems
  refine wpAny_bind (wpAny_seqItems hS rfl (wpAny_pure ?_))
  show wpAny _ A.in1 (updateSeq S (fun _ => #[]) >>= fun _ => letGo (#[] : Array Value).toList.reverse >>= fun _ => Builtin.List.listExtendWith (.ref S) (.ref z) .none) _ _ s
  refine wpAny_bind (wpAny_updateSeq hS rfl ?_)
  have hS₂ := Heap.get?_update_self (Obj.mapSeq (fun _ => (#[] : Array Value))) hS rfl
  have oth : ∀ b o, b ≠ S → s.heap.get? b = some o → (s.heap.update S (Obj.mapSeq (fun _ => (#[] : Array Value)))).get? b = some o :=
    fun b o hb e => (Heap.get?_update_other _ _ (Ne.symm hb)).trans e
  refine wpAny_bind (wpAny_letGo ?_)
  refine zlExtend hh D L hx hy he hn (oth _ _ (Nat.ne_of_lt L.z) hz) (q.keep oth (Nat.ne_of_lt L.TI) (Nat.ne_of_lt L.i1) (Nat.ne_of_lt L.i2) (Nat.ne_of_lt L.l1) (Nat.ne_of_lt L.l2) (Nat.ne_of_lt L.z) (Nat.ne_of_lt L.TO)) .none _ hS₂ fun h' tk acc c as kp hS' hl hG hacc => ?_
  exact hR h' tk acc c as (fun b o n1 n2 n3 n4 n5 e => kp b o n1 n2 n3 n4 n5 (oth b o n1 e)) hS' hl hG hacc
/-- list(z) of a zip over two tuples -/
theorem zlCall {Q : Value → Shared → Prop} (hh : A.handled = none) (D : ZipApart z TI TO i1 i2 l1 l2) (L : Low s.heap.objs.size z TI TO i1 i2 l1 l2) (hx : n ≤ xs.size) (hy : n ≤ ys.size) (he : n = xs.size ∨ n = ys.size) (hn : n ≤ sizeLine)
    (hz : IsZip s.heap z TI TO .none) (hO : ∃ a b, IsPair s.heap TO a b) (ti : IsPair s.heap TI (.ref i1) (.ref i2)) (j1 : s.heap.IsTupleIter i1 l1 0) (j2 : s.heap.IsTupleIter i2 l2 0) (t1 : s.heap.IsTuple l1 xs) (t2 : s.heap.IsTuple l2 ys)
    (hQ : ∀ h' tk acc c as, (∀ b o, b ≠ z → b ≠ TO → b ≠ i1 → b ≠ i2 → s.heap.get? b = some o → h'.get? b = some o) → h'.get? s.heap.objs.size = some { cls := .type "list", dict := none, data := .seq acc c, slots := #[] } → as.length = n → Zg xs ys s.heap.objs.size h' as →
      acc.toList = as.map Value.ref → Q (.ref s.heap.objs.size) { s with heap := h', toks := tk }) :
    wpAny (model prog w) A (call (.type "list") [.ref z]) Q E s := by
  refine callType_codes (Q₁ := fun obj s₁ => obj = .ref s.heap.objs.size ∧ s₁ = { s with heap := s.heap.push { cls := .type "list", data := .seq #[] } }) PySem.F.called_list (PySem.F.typeCall_list_1 _) PySem.F.entry_list_init
    (code_list_new _ ⟨rfl, rfl⟩) fun obj s₁ h₁ => ?_
  obtain ⟨rfl, rfl⟩ := h₁
  have hS : (s.heap.push { cls := .type "list", data := .seq #[] }).get? s.heap.objs.size = some { cls := .type "list", data := .seq #[] } := Heap.get?_push_size _ rfl
  have up : ∀ b o, s.heap.get? b = some o → (s.heap.push { cls := .type "list", data := .seq #[] }).get? b = some o := fun b o e => Heap.get?_push_of_some _ e
  obtain ⟨a, b, hO⟩ := hO
  refine ⟨⟨_, hS, rfl⟩, PySem.F.args_list_init_2 _ _, zlInit (A := A.in1) (S := s.heap.objs.size) hh D L hx hy he hn (up _ _ hz)
    ⟨up _ _ ti, j1.at fun o e => up _ o e, j2.at fun o e => up _ o e, t1.at fun o e => up _ o e, t2.at fun o e => up _ o e, .inl ⟨up _ _ hz, a, b, up _ _ hO⟩⟩ hS fun h' tk acc c as kp hS' hl hG hacc => ?_⟩
  exact ⟨rfl, hQ h' tk acc c as (fun b o n2 n3 n4 n5 e => kp b o (Nat.ne_of_lt (Heap.lt_size e)) n2 n3 n4 n5 (up b o e)) hS' hl hG hacc⟩
end
end Lz

namespace Lz
open PySem PySem.Spec PyProof.Rows L2 RZ
/-- pairs tracked at new addresses -/
def putP : Hp → List Addr → List (V × V) → Hp
  | H, a :: as, q :: qs => putP (upd H a (.tup [q.1, q.2])) as qs
  | H, _, _ => H
theorem putP_off {b : Addr} : ∀ (as : List Addr) (qs : List (V × V)) (H : Hp), b ∉ as → putP H as qs b = H b
  | [], _, _, _ => rfl
  | _ :: _, [], _, _ => rfl
  | a :: as, q :: qs, H, h => by
    show putP (upd H a (.tup [q.1, q.2])) as qs b = H b
    rw [putP_off as qs _ (fun z => h (List.mem_cons_of_mem _ z)), upd_ne (fun z => h (by rw [z]; exact List.mem_cons_self))]
theorem putP_at : ∀ (as : List Addr) (qs : List (V × V)) (H : Hp) (j : Nat) (a : Addr), as.length = qs.length → as.Nodup → as[j]? = some a → ∃ q, qs[j]? = some q ∧ putP H as qs a = some (.tup [q.1, q.2])
  | [], _, _, _, _, _, _, h => by simp at h
  | _ :: _, [], _, _, _, h, _, _ => by cases h
  | c :: as, q :: qs, H, j, a, hl, hn, h => by
    have hn' := List.nodup_cons.mp hn
    cases j with
    | zero =>
      have e : c = a := by simpa using h
      subst e
      refine ⟨q, rfl, ?_⟩
      show putP (upd H c (.tup [q.1, q.2])) as qs c = _
      rw [putP_off as qs _ hn'.1, upd_same]
    | succ j =>
      obtain ⟨q', e1, e2⟩ := putP_at as qs (upd H c (.tup [q.1, q.2])) j a (Nat.succ.inj hl) hn'.2 (by simpa using h)
      exact ⟨q', by simpa using e1, e2⟩
section
variable {X : Cx} {pins : List (Addr × Obj)} {σ : L2.St} {H : Hp} {s : Shared}
theorem pairs_laid {h' : Heap} {tk : Nat} {xs ys : List V} {us vs : List Value} {acc : Array Value} {c : Nat} {as : List Addr} {S : Addr} (I : Inv X pins σ H s) (rx : Vals xs us) (ry : Vals ys vs)
    (hk : ∀ b o, s.heap.get? b = some o → h'.get? b = some o) (hSl : s.heap.objs.size ≤ S) (hS : h'.get? S = some { cls := .type "list", dict := none, data := .seq acc c, slots := #[] }) (hl : as.length = (xs.zip ys).length) (hz : as.length ≤ sizeLine) (hG : Zg us.toArray vs.toArray S h' as) (hacc : acc.toList = as.map Value.ref) :
    H S = none ∧ (∀ t ∈ as, H t = none) ∧ S ∉ as ∧ as.Nodup ∧ Inv X pins σ (upd (putP H as (xs.zip ys)) S (.lst (as.map V.ref))) { s with heap := h', toks := tk } := by
  have hSn : S ∉ as := fun z => Nat.lt_irrefl _ (hG.above _ z)
  have nd : as.Nodup := List.Pairwise.imp (fun {a b} (h : a < b) => Nat.ne_of_lt h) hG.rise
  have ab : ∀ t ∈ as, s.heap.objs.size ≤ t := fun t ht => Nat.le_trans hSl (Nat.le_of_lt (hG.above t ht))
  have new : ∀ t ∈ as, H t = none := fun t ht => I.hok.fresh (ab t ht)
  have newS : H S = none := I.hok.fresh hSl
  have off : ∀ b, b ∉ as → b ≠ S → upd (putP H as (xs.zip ys)) S (.lst (as.map V.ref)) b = H b := fun b h1 h2 => by rw [upd_ne h2, putP_off as _ _ h1]
  have low : ∀ b o, s.heap.get? b = some o → b ∉ as ∧ b ≠ S := fun b o e => ⟨fun z => absurd (Heap.lt_size e) (Nat.not_lt.mpr (ab b z)), fun z => absurd (Heap.lt_size e) (Nat.not_lt.mpr (z ▸ hSl))⟩
  have kp : ∀ b u, H b = some u → upd (putP H as (xs.zip ys)) S (.lst (as.map V.ref)) b = some u := fun b u e => by
    rw [off b (fun z => by rw [new b z] at e; cases e) (fun z => by rw [z, newS] at e; cases e)]
    exact e
  refine ⟨newS, new, hSn, nd, ?_⟩
  refine I.call' (ch := []) rfl ⟨fun b o q _ _ _ => hk b o q, fun b o q _ _ _ => ⟨o.slots, hk b o q⟩, fun b o q n _ => ?_, fun b o q _ => ⟨o, hk b o q⟩, fun b xs q => kp b _ q, fun b o u q => kp b _ q, fun b ps q => ⟨#[], by rw [kp b _ q]; simp⟩⟩ (fun b u q => ?_) I.bare fun b z => by simp at z
  · obtain ⟨z1, z2⟩ := low b o q
    rw [off b z1 z2]
    exact n
  · by_cases hb2 : b = S
    · rw [hb2] at q ⊢
      rw [upd_same] at q
      cases q
      refine ⟨by rw [List.length_map]; exact hz, acc.toList, c, by rw [hacc]; exact LiI.vals_refs as, ?_⟩
      rw [Array.toArray_toList]
      exact hS
    · by_cases hb : b ∈ as
      · obtain ⟨j, hj⟩ := List.mem_iff_getElem?.mp hb
        obtain ⟨pq, e2, e3⟩ := putP_at as (xs.zip ys) H j b hl nd hj
        rw [upd_ne hb2, e3] at q
        cases q
        obtain ⟨x, y, f1, f2, f3⟩ := hG.pairs j b hj
        obtain ⟨g1, g2⟩ := List.getElem?_zip_eq_some.mp e2
        obtain ⟨u, k1, k2⟩ := rx.get g1
        obtain ⟨u2, k3, k4⟩ := ry.get g2
        have d1 : u = x := by have z : some u = some x := k1.symm.trans (by simpa using f1); exact Option.some.inj z
        have d2 : u2 = y := by have z : some u2 = some y := k3.symm.trans (by simpa using f2); exact Option.some.inj z
        subst d1 d2
        exact ⟨by show 2 ≤ sizeLine; decide, [u, u2], .cons k2 (.cons k4 .nil), ⟨_, f3, rfl, _, rfl⟩⟩
      · rw [off b hb hb2] at q
        exact (I.hok b u q).stay (fun d v _ y => hk d v y) (fun d y => kp d _ y) fun d xs y => kp d _ y
end
/-- list(zip(a, b)) of two tuples -/
def rListZip (K : PySem.W.Frag) : List V → Hp → VK → Prop := fun vs H Q => ∃ a b xs ys, vs = [.ref a, .ref b] ∧ SqT K H a xs ∧ SqT K H b ys ∧
  ∀ (ts : List Addr) (p : Addr), ts.length = (xs.zip ys).length → ts.Nodup → (∀ t ∈ ts, H t = none) → H p = none → p ∉ ts → Q (.ref p) (upd (putP H ts (xs.zip ys)) p (.lst (ts.map V.ref)))
section
variable {X : Cx} {e e2 : Expr} {ta : TA} {p p2 cpos pos : Pos}
theorem pe_listZip (hc : X.calm = true) (ha : PA X [e, e2] ta) (hg : Gl X "list") (hm : X.mg "list" = none) (hv : bootBuiltins "list" = some (.type "list")) (hg2 : Gl X "zip") (hm2 : X.mg "zip" = none)
    (hs : starEach [.Call (.Name "zip" p2) [e, e2] [] cpos] X.env = (false, eval (.Call (.Name "zip" p2) [e, e2] [] cpos) X.env) :: starEach [] X.env := by rfl)
    (hs2 : starEach [e, e2] X.env = (false, eval e X.env) :: starEach [e2] X.env := by rfl) (hpl : (backTo cpos (starEach [e2] X.env)).any (·.1) = false := by rfl) :
    PE X (.Call (.Name "list" p) [.Call (.Name "zip" p2) [e, e2] [] cpos] [] pos) (tCB (rListZip X.K) ta) := by
  refine ⟨fun pins s σ H Q I hq => ?_⟩
  refine wpAny_Call_Name_kw (ld_blt I hg hm hv ?_)
  refine PyProof.Rows.callWith_type1 ?_ hs rfl
  rw [hs]
  show wpAny _ _ (spliced ((false, eval (.Call (.Name "zip" p2) [e, e2] [] cpos) X.env) :: backTo pos (starEach [] X.env))) _ _ s
  refine Calls.spliced_cons ?_
  refine Call_ (ld_blt I hg2 hm2 PyProof.Rows.boot_zip (PyProof.Rows.callWith_type1 (thn (ha.run cpos pins s σ H _ I hq) fun us s1 ⟨vs, H1, I1, r1, q1⟩ => ?_) hs2 hpl))
  obtain ⟨a, b, xs, ys, ex, hqx, hqy, q⟩ := q1
  subst ex
  cases r1 with
  | cons r rr =>
    cases rr with
    | cons r' rr =>
      cases rr
      cases r
      cases r'
      obtain ⟨its, rv, p1, z1⟩ := I1.tuple hqx
      obtain ⟨its2, rv2, p2', z2⟩ := I1.tuple hqy
      obtain ⟨o1, ho1, _⟩ := id p1
      obtain ⟨o2, ho2, _⟩ := id p2'
      have la : a < s1.heap.objs.size := Heap.lt_size ho1
      have lb : b < s1.heap.objs.size := Heap.lt_size ho2
      have D := PySem.W.ktu_apart s1.heap.objs.size a b la lb
      refine call_zipT (show s1.heap.IsTuple a its.toArray from p1) (show s1.heap.IsTuple b its2.toArray from p2') fun h0 hz hTI hTO h1 h2 hsz hk => ?_
      refine Calls.spliced_nil ?_
      have t1 : h0.IsTuple a its.toArray := Heap.IsTuple.at (show s1.heap.IsTuple a its.toArray from p1) fun o e => hk _ o e
      have t2 : h0.IsTuple b its2.toArray := Heap.IsTuple.at (show s1.heap.IsTuple b its2.toArray from p2') fun o e => hk _ o e
      have lx : its.toArray.size = xs.length := by rw [List.size_toArray, rv.length]
      have ly : its2.toArray.size = ys.length := by rw [List.size_toArray, rv2.length]
      refine zlCall (s := { s1 with heap := h0 }) (n := min xs.length ys.length) (xs := its.toArray) (ys := its2.toArray) (I1.ok.hd hc) D ⟨?_, ?_, ?_, ?_, ?_, ?_, ?_⟩ (by rw [lx]; exact Nat.min_le_left ..) (by rw [ly]; exact Nat.min_le_right ..) (by rw [lx, ly]; omega) (Nat.le_trans (Nat.min_le_left ..) z1)
        hz ⟨_, _, hTO⟩ hTI h1 h2 t1 t2 fun h' tk acc c as kp hS hl hG hacc => ?_
      · show s1.heap.objs.size + 4 < h0.objs.size
        rw [hsz]; exact Nat.lt_succ_self _
      · show s1.heap.objs.size + 2 < h0.objs.size
        rw [hsz]; exact Nat.add_lt_add_left (by decide) _
      · show s1.heap.objs.size + 3 < h0.objs.size
        rw [hsz]; exact Nat.add_lt_add_left (by decide) _
      · show s1.heap.objs.size < h0.objs.size
        rw [hsz]; exact Nat.lt_add_of_pos_right (by decide)
      · show s1.heap.objs.size + 1 < h0.objs.size
        rw [hsz]; exact Nat.add_lt_add_left (by decide) _
      · show a < h0.objs.size
        rw [hsz]; exact Nat.lt_of_lt_of_le la (Nat.le_add_right _ _)
      · show b < h0.objs.size
        rw [hsz]; exact Nat.lt_of_lt_of_le lb (Nat.le_add_right _ _)
      · have keep : ∀ b o, s1.heap.get? b = some o → h'.get? b = some o := fun b o e => by
          have l := Heap.lt_size e
          exact kp b o (Nat.ne_of_lt (Nat.lt_of_lt_of_le l (Nat.le_add_right _ _))) (Nat.ne_of_lt (Nat.lt_of_lt_of_le l (Nat.le_add_right _ _))) (Nat.ne_of_lt l) (Nat.ne_of_lt (Nat.lt_of_lt_of_le l (Nat.le_add_right _ _))) (hk b o e)
        obtain ⟨n1, n2, n3, n4, J⟩ := pairs_laid (tk := tk) I1 rv rv2 keep (by show s1.heap.objs.size ≤ h0.objs.size; rw [hsz]; exact Nat.le_add_right _ _) hS (by rw [hl, List.length_zip]) (by rw [hl]; exact Nat.le_trans (Nat.min_le_left ..) z1) hG hacc
        exact ⟨.ref _, _, J, rfl, q as _ (by rw [hl, List.length_zip]) n4 n2 n1 n3⟩
end
end Lz

namespace Ah
open PySem PySem.Spec PyProof.Rows L2 Lz
/-! ## list(zip(a, b)) of two tuples, told of data -/
def zipD (xs ys : List PyData) : List PyData := (xs.zip ys).map fun p => .tuple [p.1, p.2]
section
variable {L : La} {M : Amb} {n : Nat} {σ : L2.St} {e : AEnv}
theorem zipRun : ∀ (ts : List Addr) {vs us : List V} {xs ys : List PyData} {H : Hp}, Rep M n H σ e → ts.length = (vs.zip us).length → ts.Nodup → (∀ t ∈ ts, H t = none) → Dzs M.K (M.S σ e) H vs xs → Dzs M.K (M.S σ e) H us ys →
    Rep M n (putP H ts (vs.zip us)) σ e ∧ Kp M.hs H (putP H ts (vs.zip us)) ∧ Dzs M.K (M.S σ e) (putP H ts (vs.zip us)) (ts.map V.ref) (zipD xs ys)
  | ts, _, us, _, ys, H, R, hl, _, _, .nil, _ => by
    have e : ts = [] := List.eq_nil_of_length_eq_zero (by simpa using hl)
    subst e
    exact ⟨R, Kp.refl _ _, .nil⟩
  | ts, _, _, _, _, H, R, hl, _, _, .cons a b, .nil => by
    have e : ts = [] := List.eq_nil_of_length_eq_zero (by simpa using hl)
    subst e
    exact ⟨R, Kp.refl _ _, .nil⟩
  | [], _, _, _, _, H, R, hl, _, _, .cons a b, .cons c d => by simp at hl
  | t :: ts, v :: vs, u :: us, x :: xs, y :: ys, H, R, hl, hn, hne, .cons a b, .cons c d => by
    have hn' := List.nodup_cons.mp hn
    have ht : H t = none := hne t List.mem_cons_self
    have R1 : Rep M n (upd H t (.tup [v, u])) σ e := R.new ht
    have k1 : Kp M.hs H (upd H t (.tup [v, u])) := Kp.new ht
    have d1 : Dz M.K (M.S σ e) (upd H t (.tup [v, u])) (.ref t) (.tuple [x, y]) := .tup (SqT.of upd_same) (Dzs.step R.ok k1 Amb.sub (.cons a (.cons c .nil)) fun _ z => .inl z)
    obtain ⟨R2, k2, d2⟩ := zipRun ts (vs := vs) (us := us) R1 (by simpa using hl) hn'.2 (fun q hq => by
        have nq : q ≠ t := fun z => hn'.1 (by rw [← z]; exact hq)
        rw [upd_ne nq]
        exact hne q (List.mem_cons_of_mem _ hq))
      (Dzs.step R.ok k1 Amb.sub b fun _ z => .inl z) (Dzs.step R.ok k1 Amb.sub d fun _ z => .inl z)
    exact ⟨R2, k1.trans k2, .cons (Dz.step R1.ok k2 Amb.sub d1 fun _ z => .inl z) d2⟩
def fListZip : List A → AW := fun as e n q => ∃ a b xs ys, as = [a, b] ∧ a.rd e = some (.tuple xs) ∧ b.rd e = some (.tuple ys) ∧ q (.ol (zipD xs ys)) n
theorem cb_listZip : CbA L (rListZip L.K) fListZip := by
  intro M n H Hs σ e vs as q Q l R ra h p
  obtain ⟨a, b, xs, ys, rfl, h1, h2, h4⟩ := h
  obtain ⟨v, w, rfl, r, r2⟩ := rels2 ra
  obtain ⟨c, us, rfl, c1, c2⟩ := (r.rdv R h1).tuple
  obtain ⟨d, us2, rfl, d1, d2⟩ := (r2.rdv R h2).tuple
  refine ⟨c, d, us, us2, rfl, l.1 ▸ c1, l.1 ▸ d1, fun ts S hl hn hne hS hSn => ?_⟩
  obtain ⟨R2, k2, z⟩ := zipRun ts R hl hn hne c2 d2
  have hS2 : putP H ts (us.zip us2) S = none := by rw [putP_off _ _ _ hSn]; exact hS
  exact p.from R.ok k2 _ _ _ n h4 (R2.new hS2) (Kp.new hS2) (relNewL R2 hS2 z)
end
end Ah

namespace Lz
open PySem PySem.Spec PyProof.Rows L2 RZ
open Sem (wp)
/-! ## tuple(d.items()) -/
section
variable {X : Cx} {pins : List (Addr × Obj)} {σ : L2.St} {H : Hp} {s : Shared}
/-- pairs and a thing that holds them, laid at once -/
theorem laidG {h' : Heap} {tk : Nat} {qs : List (V × V)} {as : List Addr} {S : Addr} {o : HO} (I : Inv X pins σ H s)
    (hk : ∀ b o, s.heap.get? b = some o → h'.get? b = some o) (hSl : s.heap.objs.size ≤ S) (hSn : S ∉ as) (nd : as.Nodup) (ab : ∀ t ∈ as, s.heap.objs.size ≤ t) (hl : as.length = qs.length)
    (hG : ∀ (j : Nat) (a : Addr) (q : V × V), as[j]? = some a → qs[j]? = some q → ∃ x y, RelV q.1 x ∧ RelV q.2 y ∧ IsPair h' a x y) (ho : ObjOk X.prog X.w (upd (putP H as qs) S o) h' S o) :
    H S = none ∧ (∀ t ∈ as, H t = none) ∧ Inv X pins σ (upd (putP H as qs) S o) { s with heap := h', toks := tk } := by
  have new : ∀ t ∈ as, H t = none := fun t ht => I.hok.fresh (ab t ht)
  have newS : H S = none := I.hok.fresh hSl
  have off : ∀ b, b ∉ as → b ≠ S → upd (putP H as qs) S o b = H b := fun b h1 h2 => by rw [upd_ne h2, putP_off as _ _ h1]
  have low : ∀ b o, s.heap.get? b = some o → b ∉ as ∧ b ≠ S := fun b o e => ⟨fun z => absurd (Heap.lt_size e) (Nat.not_lt.mpr (ab b z)), fun z => absurd (Heap.lt_size e) (Nat.not_lt.mpr (z ▸ hSl))⟩
  have kp : ∀ b u, H b = some u → upd (putP H as qs) S o b = some u := fun b u e => by
    rw [off b (fun z => by rw [new b z] at e; cases e) (fun z => by rw [z, newS] at e; cases e)]
    exact e
  refine ⟨newS, new, ?_⟩
  refine I.call' (ch := []) rfl ⟨fun b o q _ _ _ => hk b o q, fun b o q _ _ _ => ⟨o.slots, hk b o q⟩, fun b o q n _ => ?_, fun b o q _ => ⟨o, hk b o q⟩, fun b xs q => kp b _ q, fun b o u q => kp b _ q, fun b ps q => ⟨#[], by rw [kp b _ q]; simp⟩⟩ (fun b u q => ?_) I.bare fun b z => by simp at z
  · obtain ⟨z1, z2⟩ := low b o q
    rw [off b z1 z2]
    exact n
  · by_cases hb2 : b = S
    · rw [hb2] at q ⊢
      rw [upd_same] at q
      cases q
      exact ho
    · by_cases hb : b ∈ as
      · obtain ⟨j, hj⟩ := List.mem_iff_getElem?.mp hb
        obtain ⟨pq, e2, e3⟩ := putP_at as qs H j b hl nd hj
        rw [upd_ne hb2, e3] at q
        cases q
        obtain ⟨x, y, f1, f2, f3⟩ := hG j b pq hj e2
        exact ⟨by show 2 ≤ sizeLine; decide, [x, y], .cons f1 (.cons f2 .nil), ⟨_, f3, rfl, _, rfl⟩⟩
      · rw [off b hb hb2] at q
        exact (I.hok b u q).stay (fun d v _ y => hk d v y) (fun d y => kp d _ y) fun d xs y => kp d _ y
end
section
variable {prog : Program} {w : World} {A : Around} {E : Value → Shared → Prop} {s : Shared} {K : Type} [DecidableEq K] {knd : KeyKind prog w K} {r d : Addr} {kvs : List (K × Value)} {ep : Nat}
theorem newTupI {Q₁ : Value → Shared → Prop} (hh : A.handled = none) (hv : s.heap.IsItemsView r d) (hm : s.heap.DictAt knd d kvs ep) (hn : kvs.length ≤ sizeLine)
    (h : ∀ (h' : Heap) (tk : Nat) (as : List Addr), (∀ b o, s.heap.get? b = some o → h'.get? b = some o) → as.length = kvs.length → PySem.W.KdxG knd kvs s.heap.objs.size h' as →
      Q₁ (.ref h'.objs.size) { s with heap := h'.push { cls := .type "tuple", data := .seq (as.map Value.ref).toArray }, toks := tk }) :
    codeAny (model prog w) A (.call (.builtin "tuple.__new__") ⟨[.type "tuple", .ref r], []⟩) (wants Q₁ E) s := by
  refine codeAny_of_tree ?_
  show wpAny _ A.in1 (do checkBuiltinCall "tuple.__new__" ⟨[.type "tuple", .ref r], []⟩; again (.builtin "tuple.__new__" ⟨[.type "tuple", .ref r], []⟩)) _ _ s
  refine wpAny_bind (wpAny_of_eq (F.newCall_tuple_1 _) (wpAny_pure ⟨plainId_quiet F.plain_tuple_new _, codeAny_builtin F.entry_tuple_new ?_⟩))
  rw [Around.under_plainId F.plain_tuple_new _]
  have q1 := sub_tuple_self
  have q2 := init_tuple_lookup
  have q3 := madeHere_tuple
  have hh1 : A.in1.handled = none := hh
  have hT : s.TypeIs (.ref r) "dict_items" := hv.typeIs
  have hnt : (Value.type "dict_items" == Value.type "tuple") = false := by decide
  wp_walk using wpAny_typeOf hT, PySem.W.kdx_collect (A := A.in1) hh1 hv hm hn
  intro h' tk as hk hl hG
  show wpAny _ _ (Builtin.Tuple.tupleExact (as.map Value.ref).toArray >>= fun v => ret v) _ _ _
  unfold Builtin.Tuple.tupleExact
  refine wpAny_bind (wpAny_newObj_type (wpAny_pure ?_) ?_)
  · exact h h' tk as hk hl hG
  · show (as.map Value.ref).toArray.size ≤ sizeLine
    rw [List.size_toArray, List.length_map, hl]; exact hn
theorem callTupI {Q : Value → Shared → Prop} (hh : A.handled = none) (hv : s.heap.IsItemsView r d) (hm : s.heap.DictAt knd d kvs ep) (hn : kvs.length ≤ sizeLine)
    (hQ : ∀ (h' : Heap) (tk : Nat) (as : List Addr), (∀ b o, s.heap.get? b = some o → h'.get? b = some o) → as.length = kvs.length → PySem.W.KdxG knd kvs s.heap.objs.size h' as →
      Q (.ref h'.objs.size) { s with heap := h'.push { cls := .type "tuple", data := .seq (as.map Value.ref).toArray }, toks := tk }) :
    wpAny (model prog w) A (call (.type "tuple") [.ref r]) Q E s := by
  have made := newTupI (Q₁ := fun obj s₁ => s₁.TypeIs obj "tuple" ∧ Q obj s₁) (E := E) (A := A.in1) hh hv hm hn
    fun h' tk as hk hl hG => ⟨⟨_, Heap.get?_push_size _ rfl, rfl⟩, hQ h' tk as hk hl hG⟩
  refine callType_codes F.called_tuple (F.typeCall_tuple_1 _) F.entry_object_init made fun obj s₁ h₁ => ⟨h₁.1, F.args_object_init_2 obj _, ?_⟩
  exact object_init_meets F.called_tuple.init.lookup F.called_tuple.made (by decide) prog w A.in1 _ s₁ ⟨h₁.1, rfl, h₁.2⟩
end
def kvP (kvs : List (Key × V)) : List (V × V) := kvs.map fun q => (kV q.1, q.2)
def tTupItems (te : TE) : TE := fun σ H Q => te σ H fun x H1 => ∃ (d : Addr) (kvs : List (Key × V)), x = .ref d ∧ H1 d = some (.dK kvs) ∧
  ∀ (ts : List Addr) (p : Addr), ts.length = (kvP kvs).length → ts.Nodup → (∀ t ∈ ts, H1 t = none) → H1 p = none → p ∉ ts → Q (.ref p) (upd (putP H1 ts (kvP kvs)) p (.tup (ts.map V.ref)))
section
variable {X : Cx} {e : Expr} {te : TE} {p apos cpos pos : Pos}
theorem pe_tupItems (hc : X.calm = true) (he : PE X e te) (hg : Gl X "tuple") (hm : X.mg "tuple" = none) (hbase : attributeBase e "items" X.env (eval e X.env) = eval e X.env := by rfl) (hline : (apos.endLine == cpos.line) = true := by rfl)
    (hs : starEach [.Call (.Attribute e "items" apos) [] [] cpos] X.env = (false, eval (.Call (.Attribute e "items" apos) [] [] cpos) X.env) :: starEach [] X.env := by rfl) :
    PE X (.Call (.Name "tuple" p) [.Call (.Attribute e "items" apos) [] [] cpos] [] pos) (tTupItems te) := by
  refine ⟨fun pins s σ H Q I hq => ?_⟩
  refine Call_ (ld_blt I hg hm boot_tuple (PyProof.Rows.callWith_type1 ?_ hs rfl))
  rw [hs]
  show wpAny _ _ (spliced ((false, eval (.Call (.Attribute e "items" apos) [] [] cpos) X.env) :: backTo pos (starEach [] X.env))) _ _ s
  refine Calls.spliced_cons ?_
  refine wpAny_Call_method (T := "dict") (id := "dict.items") hbase rfl hline F.plainAttrs_dict F.slot_dict_items F.type_dict_items (thn (he.run pins s σ H _ I hq) fun u s1 ⟨x, H1, I1, rx, d, kvs, ex, hd, q⟩ => ?_)
  subst ex
  obtain rfl : u = Value.ref d := rx
  obtain ⟨hz, hs0, vs, kv, hdo⟩ := I1.hok d _ hd
  obtain ⟨ep, hat⟩ := hdo.dictAt
  have lk : kvs.length = vs.length := Paired.length kv
  refine ⟨hdo.typeIs, hdo.mapOf.noDict, ?_⟩
  show wpAny _ _ (callWith cpos (.builtin "dict.items") [.ref d] [] []) _ X.xe s1
  refine method_meetsIn F.slot_dict_items F.entry_dict_items rfl (PySem.evalArgs_none ⟨rfl, hdo.typeIs, F.args_dict_items_1 _, _, meets_dict_items (mixKind X.prog X.w) d hs0, ⟨vs, hdo⟩, ?_⟩)
  refine Calls.spliced_nil ?_
  refine callTupI (knd := mixKind X.prog X.w) (kvs := vs) (ep := ep) (I1.ok.hd hc) ⟨_, Heap.get?_push_size _ rfl, rfl, rfl⟩ (hat.push _) (by omega) fun h' tk as hk hl hG => ?_
  have up : ∀ b o, s1.heap.get? b = some o → h'.get? b = some o := fun b o z => hk b o (Heap.get?_push_of_some _ z)
  have up' : ∀ b o, s1.heap.get? b = some o → (h'.push { cls := .type "tuple", data := .seq (as.map Value.ref).toArray }).get? b = some o := fun b o z => Heap.get?_push_of_some _ (up b o z)
  have sz : (s1.heap.push { cls := .type "dict_items", data := .fields #[.ref d] }).objs.size = s1.heap.objs.size + 1 := Heap.size_push ..
  have abv : ∀ t ∈ as, s1.heap.objs.size ≤ t := fun t ht => by
    have z := hG.above t ht
    exact Nat.le_trans (by rw [sz]; exact Nat.le_succ _) (Nat.le_of_lt z)
  have nd : as.Nodup := List.Pairwise.imp (fun {a b} (h : a < b) => Nat.ne_of_lt h) hG.rise
  have there : ∀ t ∈ as, t < h'.objs.size := fun t ht => hG.there ht
  have hSl : s1.heap.objs.size ≤ h'.objs.size := by
    have z : d < s1.heap.objs.size := hat.lt_size
    rcases Nat.lt_or_ge h'.objs.size s1.heap.objs.size with l | l
    · exact absurd (Heap.lt_size (hk s1.heap.objs.size _ (Heap.get?_push_size _ rfl))) (by exact Nat.not_lt.mpr (Nat.le_of_lt l))
    · exact l
  have len : as.length = (kvP kvs).length := by rw [hl, ← lk]; exact (List.length_map ..).symm
  have pr : ∀ (j : Nat) (a : Addr) (q : V × V), as[j]? = some a → (kvP kvs)[j]? = some q → ∃ x y, RelV q.1 x ∧ RelV q.2 y ∧ IsPair (h'.push { cls := .type "tuple", data := .seq (as.map Value.ref).toArray }) a x y := fun j a q e1 e2 => by
    obtain ⟨key, k, x, f1, f2, f3⟩ := hG.pairs j a e1
    unfold kvP at e2
    rw [List.getElem?_map] at e2
    cases e3 : kvs[j]? with
    | none => rw [e3] at e2; cases e2
    | some kp =>
      rw [e3] at e2
      obtain rfl := Option.some.inj e2
      obtain ⟨qv, g1, g2, g3⟩ := LiI.paired_get kv e3
      rw [f1] at g1
      cases g1
      have rk : RelV (kV kp.1) key := by
        rw [g2]
        exact relV_key (show keyIs k key = true from f2)
      exact ⟨key, x, rk, g3, Heap.get?_push_of_some _ f3⟩
  have ok : ObjOk X.prog X.w (upd (putP H1 as (kvP kvs)) h'.objs.size (.tup (as.map V.ref))) (h'.push { cls := .type "tuple", data := .seq (as.map Value.ref).toArray }) h'.objs.size (.tup (as.map V.ref)) :=
    ⟨by rw [List.length_map, hl, ← lk]; exact hz, as.map Value.ref, LiI.vals_refs as, IsTup.new _ _⟩
  obtain ⟨n1, n2, J⟩ := laidG (tk := tk) I1 up' hSl (fun z => Nat.lt_irrefl _ (there _ z)) nd abv len pr ok
  exact ⟨.ref _, _, J, rfl, q as _ len nd n2 n1 (fun z => Nat.lt_irrefl _ (there _ z))⟩
end
end Lz

namespace Ah
open PySem PySem.Spec PyProof.Rows L2 Lz
section
variable {L : La} {M : Amb} {n m : Nat} {H Hs H' : Hp} {σ : L2.St} {e : AEnv} {v : V} {a : A} {i : Nat}
/-! ## tuple(d.items()), told of data -/
def itemsD (mm : KM) : List PyData := mm.map fun p => .tuple [kD p.1, p.2]
theorem dkmZip {S : Addr → Prop} : ∀ {vs : List (Key × V)} {mm : KM}, Dkm M.K S H vs mm → Dzs M.K S H (vs.map fun q => kV q.1) (mm.map fun p => kD p.1) ∧ Dzs M.K S H (vs.map fun q => q.2) (mm.map fun p => p.2)
  | _, _, .nil => ⟨.nil, .nil⟩
  | _, _, .cons (k := k) h b => ⟨.cons (by cases k with | inl i => exact .int i | inr s => exact .str s) (dkmZip b).1, .cons h (dkmZip b).2⟩
theorem zip_maps {α β γ : Type} (f : α → β) (g : α → γ) : ∀ xs : List α, (xs.map f).zip (xs.map g) = xs.map fun x => (f x, g x)
  | [] => rfl
  | x :: xs => by rw [List.map_cons, List.map_cons, List.zip_cons_cons, zip_maps f g xs]; rfl
def aTupItems (w : AW) : AW := fun e n q => w e n fun a m => ∃ mm, a.rd e = some (.dict (kvD mm)) ∧ q (.d (.tuple (itemsD mm))) m
theorem ab_tupItems {t : TE} {w : AW} (h : AbE L t w) : AbE L (tTupItems t) (aTupItems w) := by
  intro M n H σ e q Q l R hw p
  refine h M n H σ e _ _ l R hw fun v H1 a m h1 R1 k1 r1 => ?_
  obtain ⟨mm, e1, g1⟩ := h1
  obtain ⟨c, vs, rfl, c1, c2⟩ := (r1.rdv R1 e1).km
  refine ⟨c, vs, rfl, c1, fun ts S hl hn hne hS hSn => ?_⟩
  obtain ⟨z1, z2⟩ := dkmZip c2
  have ek : kvP vs = (vs.map fun q => kV q.1).zip (vs.map fun q => q.2) := (zip_maps _ _ vs).symm
  have ed : itemsD mm = zipD (mm.map fun p => kD p.1) (mm.map fun p => p.2) := by
    unfold zipD
    rw [zip_maps, List.map_map]
    rfl
  rw [ek] at hl ⊢
  rw [ed] at g1
  obtain ⟨R2, k2, z⟩ := zipRun ts R1 hl hn hne z1 z2
  have hS2 : putP H1 ts ((vs.map fun q => kV q.1).zip (vs.map fun q => q.2)) S = none := by rw [putP_off _ _ _ hSn]; exact hS
  exact p.from R.ok (k1.trans k2) _ _ _ m g1 (R2.new hS2) (Kp.new hS2) (relNewT R2 hS2 z)
theorem u1 {k : Nat} (h : k + 64 < cLine) : k + 1 < cLine := by omega
/-! ## if d.setdefault(y, v) .. w -/
def setdM (mm : KM) (key : Key) (y : PyData) : KM := if (valM mm key).isSome then mm else putM mm key y
def aIfSetd (i : Nat) (f : A → A → AW) (wy wx wz : AW) (t u : ASW) : ASW := fun d e n => (∃ mm, e[i]? = some (some (.od (kvD mm)))) ∧
  wy e n fun b k => wx e k fun c k2 => ∃ x key mm y, b = .d x ∧ dK' x = some key ∧ c.sto = some y ∧ e[i]? = some (some (.od (kvD mm))) ∧ mm.length < sizeLine ∧
    wz (e.set i (some (.od (kvD (setdM mm key y))))) k2 fun z k3 => f (.d ((valM mm key).getD y)) z (e.set i (some (.od (kvD (setdM mm key y))))) k3 fun r k4 => ∃ bb, r = .d (.bool bb) ∧
      if bb = true then t d (e.set i (some (.od (kvD (setdM mm key y))))) k4 else u d (e.set i (some (.od (kvD (setdM mm key y))))) k4
theorem set_same {α : Type} {xs : List α} {i : Nat} {x : α} (h : xs[i]? = some x) : xs.set i x = xs := by
  refine List.ext_getElem? fun j => ?_
  rw [List.getElem?_set]
  split
  · rename_i e
    subst e
    obtain ⟨hl, _⟩ := List.getElem?_eq_some_iff.mp h
    rw [if_pos hl, h]
  · rfl
theorem ownPut {xs ys : List (PyData × PyData)} (h : e[i]? = some (some (.od xs))) {b : Addr} (z : M.S σ (e.set i (some (.od ys))) b) : M.S σ e b := by
  rcases z with ⟨j, x, h1, h2, h3⟩ | z
  · by_cases ej : i = j
    · subst ej
      exact .inl ⟨i, _, h1, h, trivial⟩
    · rw [List.getElem?_set_ne ej] at h2
      exact .inl ⟨j, x, h1, h2, h3⟩
  · exact .inr z
theorem as_ifSetd {r : R2} {f : A → A → AW} {ty tx tz : TE} {wy wx wz : AW} {t u : TS} {x y : ASW} (o : OpA L r f) (h1 : AbE L ty wy) (h2 : AbE L tx wx) (h3 : AbE L tz wz) (ht : AbS L t x) (hu : AbS L u y) :
    AbS L (tIfS (tTest (tOp r (tDSetd (tVar i) ty tx) tz)) t u) (aIfSetd i f wy wx wz x y) := by
  intro M n H σ e D d l R hw k
  obtain ⟨⟨mm0, e0⟩, g1⟩ := hw
  obtain ⟨c, vs, c0, c1, c2, c3⟩ := R.od e0
  refine ⟨.ref c, c0, c, rfl, .inl ⟨vs, .inl c2⟩, ?_⟩
  refine h1 M n H σ e _ _ l.1 R g1 fun w H1 b m1 g2 R1 k1 r1 => ?_
  refine h2 M m1 H1 σ e _ _ l.1 R1 g2 fun v H2 cc m2 g3 R2 k2 r2 => ?_
  obtain ⟨xk, key, mm, yv, rfl, e3, e4, e5, e6, g4⟩ := g3
  obtain ⟨c', vs', c0', c1', c2', c3'⟩ := R2.od e5
  rw [c0] at c0'; cases c0'
  have zy : Dz M.K (M.S σ e) H2 v yv := r2.sto e4
  have fin : ∀ (H3 : Hp) (e' : AEnv) (v0 : V) (d0 : PyData), Rep M m2 H3 σ e' → Dz M.K (M.S σ e') H3 v0 d0 →
      (wz e' m2 fun z k3 => f (.d d0) z e' k3 fun r k4 => ∃ bb, r = .d (.bool bb) ∧ if bb = true then x d e' k4 else y d e' k4) →
      tz σ H3 fun yv H4 => r v0 yv H4 fun xx H5 => ∃ cb, xx = .bl cb ∧ if cb = true then t D σ H5 else u D σ H5 := fun H3 e' v0 d0 R3 z0 g5 => by
    refine h3 M m2 H3 σ e' _ _ l.1 R3 g5 fun w4 H4 zz m4 g6 R4 k4 r4 => ?_
    refine o M m4 H4 H3 σ e' v0 w4 (.d d0) zz _ _ l.1 R4 (Dz.step R3.ok k4 Amb.sub z0 fun _ z => .inl z) r4 g6 fun w5 H5 aa m5 g7 R5 k5 r5 => ?_
    obtain ⟨bb, rfl, g7⟩ := g7
    refine ⟨bb, relBool r5, ?_⟩
    cases bb with
    | true => exact ht M m5 H5 σ e' D d l R5 g7 k
    | false => exact hu M m5 H5 σ e' D d l R5 g7 k
  refine ⟨vs', key, c2', keyRel r1 e3, by rw [c3'.length]; exact e6, fun v0 hv => ?_, fun hn => ?_⟩
  · rcases c3'.val (k := key) with ⟨f1, f2⟩ | ⟨uu, dd, f1, f2, f3⟩
    · rw [f1] at hv; cases hv
    · rw [f1] at hv
      cases hv
      have es : setdM mm key yv = mm := by unfold setdM; rw [f2]; rfl
      rw [es, f2, set_same e5] at g4
      exact fin H2 e _ _ R2 f3 g4
  · rcases c3'.val (k := key) with ⟨f1, f2⟩ | ⟨uu, dd, f1, f2, f3⟩
    · have es : setdM mm key yv = putM mm key yv := by unfold setdM; rw [f2]; rfl
      rw [es, f2] at g4
      have sc : M.S σ e c := .inl ⟨i, _, c0, e5, trivial⟩
      refine fin _ _ _ _ (R2.putK c0 e5 c2' (c3'.put zy).dzk) ?_ g4
      exact Dz.map (fun b q hb hq => by rw [upd_ne (fun z => hb (by rw [z]; exact sc))]; exact hq) (fun b xs hb => SqT.kp (ms := [c]) (Kp.put (by simp)) (fun q hq => by rw [List.mem_singleton.mp hq]; exact .dK c2') hb) (fun _ z => .inl (ownPut e5 z)) zy
    · rw [f1] at hn; cases hn
end
end Ah

namespace Ly
open PySem PySem.Calls PyProof.Rows PyProof.V PySem.Spec PySem.W RZ
open Lz (Zg nLt Low zip_no_len zip_no_hint)
/-- a zip over two lists before turn i, as it fills the list at S -/
structure Zs (h : Heap) (z TI TO i1 i2 l1 l2 S : Addr) (xs ys : Array Value) (i : Nat) : Prop where
  ti : IsPair h TI (.ref i1) (.ref i2)
  j1 : h.IsListIter i1 l1 i
  j2 : h.IsListIter i2 l2 i
  t1 : h.IsList l1 xs
  t2 : h.IsList l2 ys
  zz : (IsZip h z TI TO .none ∧ ∃ a b, IsPair h TO a b) ∨ ∃ (T : Addr) (f : Bool) (oT : Obj), IsZipHeld h z TI TO T f ∧ h.get? T = some oT ∧ T ≠ z ∧ T ≠ TO ∧ T ≠ i1 ∧ T ≠ i2 ∧ T ≠ S
section
variable {prog : Program} {w : World} {A : Around} {E : Value → Shared → Prop} {s : Shared}
variable {z TI TO i1 i2 l1 l2 S : Addr} {k : Nat} {xs ys : Array Value} {x y : Value}
theorem Zs.keep {h h' : Heap} (q : Zs h z TI TO i1 i2 l1 l2 S xs ys k) (kp : ∀ b o, b ≠ S → h.get? b = some o → h'.get? b = some o) (n1 : TI ≠ S) (n2 : i1 ≠ S) (n3 : i2 ≠ S) (n4 : l1 ≠ S) (n5 : l2 ≠ S) (n6 : z ≠ S) (n7 : TO ≠ S) : Zs h' z TI TO i1 i2 l1 l2 S xs ys k := by
  refine ⟨kp _ _ n1 q.ti, q.j1.at fun o e => kp _ o n2 e, q.j2.at fun o e => kp _ o n3 e, q.t1.at fun o e => kp _ o n4 e, q.t2.at fun o e => kp _ o n5 e, ?_⟩
  rcases q.zz with ⟨hz, a, b, hO⟩ | ⟨T, f, oT, hz, hT, r1, r2, r3, r4, r5⟩
  · exact .inl ⟨kp _ _ n6 hz, a, b, kp _ _ n7 hO⟩
  · exact .inr ⟨T, f, oT, kp _ _ n6 hz, kp _ _ r5 hT, r1, r2, r3, r4, r5⟩
theorem zsItem {Q : Option Value → Shared → Prop} (D : ZipApart z TI TO i1 i2 l1 l2) (q : Zs s.heap z TI TO i1 i2 l1 l2 S xs ys k) (hS : S < s.heap.objs.size) (hx : xs[k]? = some x) (hy : ys[k]? = some y)
    (hQ : ∀ h', Zs h' z TI TO i1 i2 l1 l2 S xs ys (k + 1) → IsPair h' s.heap.objs.size x y → h'.objs.size = s.heap.objs.size + 1 → (∀ c o, c ≠ z → c ≠ TO → c ≠ i1 → c ≠ i2 → s.heap.get? c = some o → h'.get? c = some o) → Q (some (.ref s.heap.objs.size)) { s with heap := h' }) :
    wpAny (model prog w) A (pyNext (.ref z)) Q E s := by
  obtain ⟨hTI, h1, h2, hl1, hl2, hz⟩ := q
  have lt : ∀ {c o}, s.heap.get? c = some o → s.heap.objs.size ≠ c := fun e => Nat.ne_of_gt (Heap.lt_size e)
  have n1 : s.heap.objs.size ≠ i1 := let ⟨_, e, _⟩ := h1; lt e
  have n2 : s.heap.objs.size ≠ i2 := let ⟨_, e, _⟩ := h2; lt e
  rcases hz with ⟨hz, a, b, hTO⟩ | ⟨T, f, oT, hz, hT, r1, r2, r3, r4, r5⟩
  · refine wpAny_pyNext_zip_item D hz hTI hTO h1 h2 hl1 hl2 hx hy fun h' a1 a2 a3 a4 a5 a6 kp => ?_
    exact hQ h' ⟨kp _ _ D.TIz D.TITO D.TIi1 D.TIi2 hTI, a3, a4, hl1.at fun o e => kp _ o D.l1z D.l1TO D.l1i1 D.l1i2 e, hl2.at fun o e => kp _ o D.l2z D.l2TO D.l2i1 D.l2i2 e,
      .inr ⟨s.heap.objs.size, false, _, a1, a5, lt hz, lt hTO, n1, n2, Nat.ne_of_gt hS⟩⟩ a5 a6 kp
  · refine PySem.wpAny_pyNext_zip_item_held D hz hT hTI h1 h2 hl1 hl2 hx hy fun h' a1 a3 a4 a5 a6 kp => ?_
    exact hQ h' ⟨kp _ _ D.TIz D.TIi1 D.TIi2 hTI, a3, a4, hl1.at fun o e => kp _ o D.l1z D.l1i1 D.l1i2 e, hl2.at fun o e => kp _ o D.l2z D.l2i1 D.l2i2 e,
      .inr ⟨T, true, oT, a1, kp _ _ r1 r3 r4 hT, r1, r2, r3, r4, r5⟩⟩ a5 a6 fun c o c1 _ c3 c4 e => kp c o c1 c3 c4 e
theorem zsEnd {Q : Option Value → Shared → Prop} (hh : A.handled = none) (D : ZipApart z TI TO i1 i2 l1 l2) (q : Zs s.heap z TI TO i1 i2 l1 l2 S xs ys k) (hend : xs[k]? = none ∨ ys[k]? = none)
    (hQ : ∀ h', (∀ c o, c ≠ z → c ≠ TO → c ≠ i1 → c ≠ i2 → s.heap.get? c = some o → h'.get? c = some o) → Q none { s with heap := h' }) : wpAny (model prog w) A (pyNext (.ref z)) Q E s := by
  obtain ⟨hTI, h1, h2, hl1, hl2, hz⟩ := q
  rcases hz with ⟨hz, a, b, hTO⟩ | ⟨T, f, oT, hz, hT, r1, r2, r3, r4, r5⟩
  · exact wpAny_pyNext_zip_end hh D hz hTI hTO h1 h2 hl1 hl2 hend hQ
  · exact PySem.wpAny_pyNext_zip_end_held hh D hz hT hTI h1 h2 hl1 hl2 hend fun h' kp => hQ h' fun c o c1 _ c3 c4 e => kp c o c1 c3 c4 e
end
section
variable {prog : Program} {w : World} {A : Around} {s : Shared} {R : Result → Shared → Prop}
variable {z TI TO i1 i2 l1 l2 S : Addr} {n : Nat} {xs ys : Array Value}
theorem zlLoop (hh : A.handled = none) (D : ZipApart z TI TO i1 i2 l1 l2) (L : Low S z TI TO i1 i2 l1 l2) (hx : n ≤ xs.size) (hy : n ≤ ys.size) (he : n = xs.size ∨ n = ys.size) (hn : n ≤ sizeLine) (res : Value) {h₁ : Heap}
    (hR : ∀ h' tk acc c as, (∀ b o, b ≠ S → b ≠ z → b ≠ TO → b ≠ i1 → b ≠ i2 → h₁.get? b = some o → h'.get? b = some o) → h'.get? S = some { cls := .type "list", dict := none, data := .seq acc c, slots := #[] } → as.length = n → Zg xs ys S h' as →
      acc.toList = as.map Value.ref → R (.ok (.ret res)) { s with heap := h', toks := tk }) :
    ∀ (k i : Nat) (h : Heap) (tk c : Nat) (acc : Array Value) (as : List Addr), n - i = k → i ≤ n → Zs h z TI TO i1 i2 l1 l2 S xs ys i → (∀ b o, b ≠ S → b ≠ z → b ≠ TO → b ≠ i1 → b ≠ i2 → h₁.get? b = some o → h.get? b = some o) →
      h.get? S = some { cls := .type "list", dict := none, data := .seq acc c, slots := #[] } → acc.toList = as.map Value.ref → as.length = i → Zg xs ys S h as →
      codeAny (model prog w) A (.builtin "list.extend.loop" ⟨[.ref S, .ref z, res], []⟩) R { s with heap := h, toks := tk } := by
  have nS : ∀ {a : Addr}, a < S → S ≠ a := fun h => Nat.ne_of_gt h
  intro k
  induction k with
  | zero =>
    intro i h tk c acc as hk hi hst hkeep hS hacc hal hG
    have hin : i = n := by omega
    subst hin
    refine codeAny_builtin PySem.F.entry_extend_loop ?_
    rw [Around.under_plainId PySem.F.plain_extend_loop _]
    show wpAny _ A.in1 (pyNext (.ref z) >>= _) _ _ _
    have hend : xs[i]? = none ∨ ys[i]? = none := by
      rcases he with h | h
      · exact .inl (Array.getElem?_eq_none (Nat.le_of_eq h.symm))
      · exact .inr (Array.getElem?_eq_none (Nat.le_of_eq h.symm))
    refine wpAny_bind (zsEnd (s := { s with heap := h, toks := tk }) (A := A.in1) (S := S) hh D hst hend fun h' kp => ?_)
    refine wpAny_pure (hR h' tk acc c as (fun b o h1 h2 h3 h4 h5 e => kp b o h2 h3 h4 h5 (hkeep b o h1 h2 h3 h4 h5 e)) (kp S _ (nS L.z) (nS L.TO) (nS L.i1) (nS L.i2) hS) hal ⟨hG.rise, hG.above, fun j a hj => ?_⟩ hacc)
    obtain ⟨x, y, e1, e2, e3⟩ := hG.pairs j a hj
    have up := hG.above a (List.mem_of_getElem? hj)
    exact ⟨x, y, e1, e2, kp a _ (nLt L.z up) (nLt L.TO up) (nLt L.i1 up) (nLt L.i2 up) e3⟩
  | succ k ih =>
    intro i h tk c acc as hk hi hst hkeep hS hacc hal hG
    have hlx : i < xs.size := by omega
    have hly : i < ys.size := by omega
    have ex := Array.getElem?_eq_getElem hlx
    have ey := Array.getElem?_eq_getElem hly
    have hsz : acc.size = i := by rw [← Array.length_toList, hacc, List.length_map, hal]
    refine codeAny_builtin PySem.F.entry_extend_loop ?_
    rw [Around.under_plainId PySem.F.plain_extend_loop _]
    show wpAny _ A.in1 (pyNext (.ref z) >>= _) _ _ _
    have hSl : S < h.objs.size := Heap.lt_size hS
    refine wpAny_bind (zsItem (s := { s with heap := h, toks := tk }) (S := S) D hst hSl ex ey fun h' hst' ht hz kp => ?_)
    dsimp only at ht hz kp ⊢
    have hS' := kp S _ (nS L.z) (nS L.TO) (nS L.i1) (nS L.i2) hS
    have up : ∀ b o, b ≠ S → h'.get? b = some o → (h'.update S (Obj.mapSeq (·.push (Value.ref h.objs.size)))).get? b = some o := fun b o hb e => (Heap.get?_update_other _ _ (Ne.symm hb)).trans e
    show wpAny _ A.in1 (updateSeq S (·.push (Value.ref h.objs.size)) >>= _) _ _ _
    refine wpAny_bind ?_
    refine wpAny_updateSeq hS' rfl (wpAny_pure ⟨plainId_quiet PySem.F.plain_extend_loop _, ih (i + 1) _ tk _ (acc.push (Value.ref h.objs.size)) (as ++ [h.objs.size]) (by omega) (by omega) (hst'.keep up (Nat.ne_of_lt L.TI) (Nat.ne_of_lt L.i1) (Nat.ne_of_lt L.i2) (Nat.ne_of_lt L.l1) (Nat.ne_of_lt L.l2) (Nat.ne_of_lt L.z) (Nat.ne_of_lt L.TO))
      (fun b o h1 h2 h3 h4 h5 e => up b o h1 (kp b o h2 h3 h4 h5 (hkeep b o h1 h2 h3 h4 h5 e))) (Heap.get?_update_self _ hS' rfl) (by rw [Array.toList_push, hacc, List.map_append]; rfl) (by rw [List.length_append, hal]; rfl) ⟨?_, ?_, ?_⟩⟩) (by rw [hsz]; omega) (by show (acc.push (Value.ref h.objs.size)).size ≤ sizeLine + 1; rw [Array.size_push, hsz]; omega)
    · refine List.pairwise_append.mpr ⟨hG.rise, List.pairwise_singleton _ _, fun a ha b hb => ?_⟩
      rw [List.mem_singleton.mp hb]
      exact hG.there ha
    · intro a ha
      rcases List.mem_append.mp ha with ha | ha
      · exact hG.above a ha
      · rw [List.mem_singleton.mp ha]; exact hSl
    · intro j b hj
      rcases Nat.lt_trichotomy j as.length with h1 | h1 | h1
      · rw [List.getElem?_append_left h1] at hj
        obtain ⟨x, y, e1, e2, e3⟩ := hG.pairs j b hj
        have hb := hG.above b (List.mem_of_getElem? hj)
        exact ⟨x, y, e1, e2, up b _ (Nat.ne_of_gt hb) (kp b _ (nLt L.z hb) (nLt L.TO hb) (nLt L.i1 hb) (nLt L.i2 hb) e3)⟩
      · subst h1
        have hb : h.objs.size = b := by simpa using hj
        subst hb
        exact ⟨_, _, by rw [hal]; exact ex, by rw [hal]; exact ey, up _ _ (Nat.ne_of_gt hSl) ht⟩
      · have hnone : (as ++ [h.objs.size])[j]? = none := List.getElem?_eq_none (by rw [List.length_append, List.length_singleton]; omega)
        rw [hnone] at hj; cases hj
end
section
variable {prog : Program} {w : World} {A : Around} {E : Value → Shared → Prop} {s : Shared} {R : Result → Shared → Prop}
variable {z TI TO i1 i2 l1 l2 S : Addr} {n : Nat} {xs ys : Array Value}
theorem Zs.start {h : Heap} {S S' : Addr} (hz : IsZip h z TI TO .none) (hO : ∃ a b, IsPair h TO a b) (ti : IsPair h TI (.ref i1) (.ref i2)) (j1 : h.IsListIter i1 l1 0) (j2 : h.IsListIter i2 l2 0) (t1 : h.IsList l1 xs) (t2 : h.IsList l2 ys) : Zs h z TI TO i1 i2 l1 l2 S xs ys 0 :=
  ⟨ti, j1, j2, t1, t2, .inl ⟨hz, hO⟩⟩
theorem zlExtend (hh : A.handled = none) (D : ZipApart z TI TO i1 i2 l1 l2) (L : Low S z TI TO i1 i2 l1 l2) (hx : n ≤ xs.size) (hy : n ≤ ys.size) (he : n = xs.size ∨ n = ys.size) (hn : n ≤ sizeLine) (hz : IsZip s.heap z TI TO .none) (q : Zs s.heap z TI TO i1 i2 l1 l2 S xs ys 0) (res : Value) (c₀ : Nat) (hS : s.heap.get? S = some { cls := .type "list", data := .seq #[] c₀ })
    (hR : ∀ h' tk acc c as, (∀ b o, b ≠ S → b ≠ z → b ≠ TO → b ≠ i1 → b ≠ i2 → s.heap.get? b = some o → h'.get? b = some o) → h'.get? S = some { cls := .type "list", dict := none, data := .seq acc c, slots := #[] } → as.length = n → Zg xs ys S h' as →
      acc.toList = as.map Value.ref → R (.ok (.ret res)) { s with heap := h', toks := tk }) :
    wpAny (model prog w) A.in1 (Builtin.List.listExtendWith (.ref S) (.ref z) res)
      (fun fin s' => match fin with | .done f => R (.ok f) s' | .again c' => c'.quiet = true ∧ codeAny (model prog w) A c' R s') (fun e s' => R (.error e) s') s := by
  have ty : s.TypeIs (.ref z) "zip" := ⟨_, hz, rfl⟩
  unfold Builtin.List.listExtendWith
  refine wpAny_bind (wpAny_typeOf (T := "zip") ty ?_)
  have h1 : Builtin.List.listSameRef (.ref S) (.ref z) = false := by simp [Builtin.List.listSameRef, Nat.ne_of_gt L.z]
  have h2 : (Value.type "zip" == Value.type "list") = false := by decide
  have h3 : (Value.type "zip" == Value.type "tuple") = false := by decide
  simp only [h1, h2, h3, Bool.or_false, Bool.false_eq_true, if_false]
  refine wpAny_bind (wpAny_pyIter_zip hz ?_)
  refine wpAny_bind (wpAny_holding ?_)
  unfold Builtin.List.listLengthHint
  refine wpAny_bind (wpAny_specialOf ty zip_no_len ?_)
  show wpAny _ A.in1 (specialOf (Value.ref z) (Str.ofString "__length_hint__") >>= _) _ _ _
  refine wpAny_bind (wpAny_specialOf ty zip_no_hint ?_)
  refine wpAny_pure ?_
  show wpAny _ A.in1 (rule "list.extend.makes-room" >>= fun _ => Builtin.List.listTouch (.ref S) >>= fun _ =>
    again (.builtin "list.extend.loop" ⟨[.ref S, .ref z, res], []⟩)) _ _ _
  refine wpAny_bind (wpAny_rule ?_)
  refine wpAny_bind ?_
  show wpAny _ A.in1 (updateSeq S (·.push .none) >>= fun _ => updateSeq S (·.pop)) _ _ _
  refine wpAny_bind (wpAny_updateSeq hS rfl ?_)
  have hS₂ := Heap.get?_update_self (Obj.mapSeq (·.push Value.none)) hS rfl
  refine wpAny_updateSeq (hz := by seq_fits) hS₂ rfl ?_
  have hS₃ := Heap.get?_update_self (Obj.mapSeq (·.pop)) hS₂ rfl
  have oth : ∀ b o, b ≠ S → s.heap.get? b = some o → ((s.heap.update S (Obj.mapSeq (·.push Value.none))).update S (Obj.mapSeq (·.pop))).get? b = some o :=
    fun b o hb e => (Heap.get?_update_other _ _ (Ne.symm hb)).trans ((Heap.get?_update_other _ _ (Ne.symm hb)).trans e)
  refine wpAny_pure ⟨plainId_quiet F.plain_extend_loop _, zlLoop hh D L hx hy he hn res (fun h' tk acc c as kp hS' hl hG hacc => hR h' tk acc c as (fun b o n1 n2 n3 n4 n5 e => kp b o n1 n2 n3 n4 n5 (oth b o n1 e)) hS' hl hG hacc)
    n 0 _ s.toks _ #[] [] (Nat.sub_zero _) (Nat.zero_le _) (q.keep oth (Nat.ne_of_lt L.TI) (Nat.ne_of_lt L.i1) (Nat.ne_of_lt L.i2) (Nat.ne_of_lt L.l1) (Nat.ne_of_lt L.l2) (Nat.ne_of_lt L.z) (Nat.ne_of_lt L.TO)) (fun b o _ _ _ _ _ e => e) hS₃ rfl rfl
    ⟨List.Pairwise.nil, (fun _ ha => nomatch ha), (fun j a hj => by simp at hj)⟩⟩
theorem zlInit (hh : A.handled = none) (D : ZipApart z TI TO i1 i2 l1 l2) (L : Low S z TI TO i1 i2 l1 l2) (hx : n ≤ xs.size) (hy : n ≤ ys.size) (he : n = xs.size ∨ n = ys.size) (hn : n ≤ sizeLine) (hz : IsZip s.heap z TI TO .none) (q : Zs s.heap z TI TO i1 i2 l1 l2 S xs ys 0) (hS : s.heap.get? S = some { cls := .type "list", data := .seq #[] })
    (hR : ∀ h' tk acc c as, (∀ b o, b ≠ S → b ≠ z → b ≠ TO → b ≠ i1 → b ≠ i2 → s.heap.get? b = some o → h'.get? b = some o) → h'.get? S = some { cls := .type "list", dict := none, data := .seq acc c, slots := #[] } → as.length = n → Zg xs ys S h' as →
      acc.toList = as.map Value.ref → R (.ok (.ret .none)) { s with heap := h', toks := tk }) :
    wpAny (model prog w) A.in1 (Builtin.«list.__init__» ⟨[.ref S, .ref z], []⟩)
      (fun fin s' => match fin with | .done f => R (.ok f) s' | .again c' => c'.quiet = true ∧ codeAny (model prog w) A c' R s') (fun e s' => R (.error e) s') s := by
  show wpAny _ A.in1 (do let old ← Builtin.List.listItems (.ref S); Builtin.List.listUpdate (.ref S) (fun _ => #[]); letGo old.toList.reverse; Builtin.List.listExtendWith (.ref S) (.ref z) .none) _ _ s
  refine wpAny_bind ?_
  unfold Builtin.List.listItems
  refine wpAny_bind (wpAny_seqItems hS rfl (wpAny_pure ?_))
  show wpAny _ A.in1 (updateSeq S (fun _ => #[]) >>= fun _ => letGo (#[] : Array Value).toList.reverse >>= fun _ => Builtin.List.listExtendWith (.ref S) (.ref z) .none) _ _ s
  refine wpAny_bind (wpAny_updateSeq hS rfl ?_)
  have hS₂ := Heap.get?_update_self (Obj.mapSeq (fun _ => (#[] : Array Value))) hS rfl
  have oth : ∀ b o, b ≠ S → s.heap.get? b = some o → (s.heap.update S (Obj.mapSeq (fun _ => (#[] : Array Value)))).get? b = some o :=
    fun b o hb e => (Heap.get?_update_other _ _ (Ne.symm hb)).trans e
  refine wpAny_bind (wpAny_letGo ?_)
  refine zlExtend hh D L hx hy he hn (oth _ _ (Nat.ne_of_lt L.z) hz) (q.keep oth (Nat.ne_of_lt L.TI) (Nat.ne_of_lt L.i1) (Nat.ne_of_lt L.i2) (Nat.ne_of_lt L.l1) (Nat.ne_of_lt L.l2) (Nat.ne_of_lt L.z) (Nat.ne_of_lt L.TO)) .none _ hS₂ fun h' tk acc c as kp hS' hl hG hacc => ?_
  exact hR h' tk acc c as (fun b o n1 n2 n3 n4 n5 e => kp b o n1 n2 n3 n4 n5 (oth b o n1 e)) hS' hl hG hacc
/-- list(z) of a zip over two lists -/
theorem zlCall {Q : Value → Shared → Prop} (hh : A.handled = none) (D : ZipApart z TI TO i1 i2 l1 l2) (L : Low s.heap.objs.size z TI TO i1 i2 l1 l2) (hx : n ≤ xs.size) (hy : n ≤ ys.size) (he : n = xs.size ∨ n = ys.size) (hn : n ≤ sizeLine)
    (hz : IsZip s.heap z TI TO .none) (hO : ∃ a b, IsPair s.heap TO a b) (ti : IsPair s.heap TI (.ref i1) (.ref i2)) (j1 : s.heap.IsListIter i1 l1 0) (j2 : s.heap.IsListIter i2 l2 0) (t1 : s.heap.IsList l1 xs) (t2 : s.heap.IsList l2 ys)
    (hQ : ∀ h' tk acc c as, (∀ b o, b ≠ z → b ≠ TO → b ≠ i1 → b ≠ i2 → s.heap.get? b = some o → h'.get? b = some o) → h'.get? s.heap.objs.size = some { cls := .type "list", dict := none, data := .seq acc c, slots := #[] } → as.length = n → Zg xs ys s.heap.objs.size h' as →
      acc.toList = as.map Value.ref → Q (.ref s.heap.objs.size) { s with heap := h', toks := tk }) :
    wpAny (model prog w) A (call (.type "list") [.ref z]) Q E s := by
  refine callType_codes (Q₁ := fun obj s₁ => obj = .ref s.heap.objs.size ∧ s₁ = { s with heap := s.heap.push { cls := .type "list", data := .seq #[] } }) PySem.F.called_list (PySem.F.typeCall_list_1 _) PySem.F.entry_list_init
    (code_list_new _ ⟨rfl, rfl⟩) fun obj s₁ h₁ => ?_
  obtain ⟨rfl, rfl⟩ := h₁
  have hS : (s.heap.push { cls := .type "list", data := .seq #[] }).get? s.heap.objs.size = some { cls := .type "list", data := .seq #[] } := Heap.get?_push_size _ rfl
  have up : ∀ b o, s.heap.get? b = some o → (s.heap.push { cls := .type "list", data := .seq #[] }).get? b = some o := fun b o e => Heap.get?_push_of_some _ e
  obtain ⟨a, b, hO⟩ := hO
  refine ⟨⟨_, hS, rfl⟩, PySem.F.args_list_init_2 _ _, zlInit (A := A.in1) (S := s.heap.objs.size) hh D L hx hy he hn (up _ _ hz)
    ⟨up _ _ ti, j1.at fun o e => up _ o e, j2.at fun o e => up _ o e, t1.at fun o e => up _ o e, t2.at fun o e => up _ o e, .inl ⟨up _ _ hz, a, b, up _ _ hO⟩⟩ hS fun h' tk acc c as kp hS' hl hG hacc => ?_⟩
  exact ⟨rfl, hQ h' tk acc c as (fun b o n2 n3 n4 n5 e => kp b o (Nat.ne_of_lt (Heap.lt_size e)) n2 n3 n4 n5 (up b o e)) hS' hl hG hacc⟩
end
end Ly
namespace Ly
open PySem PySem.Spec PyProof.Rows L2 RZ
open Lz (putP putP_off putP_at pairs_laid)
/-- list(zip(a, b)) of two lists -/
def rListZipL (K : PySem.W.Frag) : List V → Hp → VK → Prop := fun vs H Q => ∃ a b xs ys, vs = [.ref a, .ref b] ∧ SqL K H a xs ∧ SqL K H b ys ∧
  ∀ (ts : List Addr) (p : Addr), ts.length = (xs.zip ys).length → ts.Nodup → (∀ t ∈ ts, H t = none) → H p = none → p ∉ ts → Q (.ref p) (upd (putP H ts (xs.zip ys)) p (.lst (ts.map V.ref)))
section
variable {X : Cx} {e e2 : Expr} {ta : TA} {p p2 cpos pos : Pos}
theorem pe_listZipL (hc : X.calm = true) (ha : PA X [e, e2] ta) (hg : Gl X "list") (hm : X.mg "list" = none) (hv : bootBuiltins "list" = some (.type "list")) (hg2 : Gl X "zip") (hm2 : X.mg "zip" = none)
    (hs : starEach [.Call (.Name "zip" p2) [e, e2] [] cpos] X.env = (false, eval (.Call (.Name "zip" p2) [e, e2] [] cpos) X.env) :: starEach [] X.env := by rfl)
    (hs2 : starEach [e, e2] X.env = (false, eval e X.env) :: starEach [e2] X.env := by rfl) (hpl : (backTo cpos (starEach [e2] X.env)).any (·.1) = false := by rfl) :
    PE X (.Call (.Name "list" p) [.Call (.Name "zip" p2) [e, e2] [] cpos] [] pos) (tCB (rListZipL X.K) ta) := by
  refine ⟨fun pins s σ H Q I hq => ?_⟩
  refine wpAny_Call_Name_kw (ld_blt I hg hm hv ?_)
  refine PyProof.Rows.callWith_type1 ?_ hs rfl
  rw [hs]
  show wpAny _ _ (spliced ((false, eval (.Call (.Name "zip" p2) [e, e2] [] cpos) X.env) :: backTo pos (starEach [] X.env))) _ _ s
  refine Calls.spliced_cons ?_
  refine Call_ (ld_blt I hg2 hm2 PyProof.Rows.boot_zip (PyProof.Rows.callWith_type1 (thn (ha.run cpos pins s σ H _ I hq) fun us s1 ⟨vs, H1, I1, r1, q1⟩ => ?_) hs2 hpl))
  obtain ⟨a, b, xs, ys, ex, hqx, hqy, q⟩ := q1
  subst ex
  cases r1 with
  | cons r rr =>
    cases rr with
    | cons r' rr =>
      cases rr
      cases r
      cases r'
      obtain ⟨its, rv, p1, z1⟩ := I1.list hqx
      obtain ⟨its2, rv2, p2', z2⟩ := I1.list hqy
      have la : a < s1.heap.objs.size := p1.lt
      have lb : b < s1.heap.objs.size := p2'.lt
      have D := PySem.W.ktu_apart s1.heap.objs.size a b la lb
      refine call_zip_2 p1.isList p2'.isList fun h0 hz hTI hTO h1 h2 hsz hk => ?_
      refine Calls.spliced_nil ?_
      have t1 : h0.IsList a its.toArray := Heap.IsList.at p1.isList fun o e => hk _ o e
      have t2 : h0.IsList b its2.toArray := Heap.IsList.at p2'.isList fun o e => hk _ o e
      have lx : its.toArray.size = xs.length := by rw [List.size_toArray, rv.length]
      have ly : its2.toArray.size = ys.length := by rw [List.size_toArray, rv2.length]
      refine zlCall (s := { s1 with heap := h0 }) (n := min xs.length ys.length) (xs := its.toArray) (ys := its2.toArray) (I1.ok.hd hc) D ⟨?_, ?_, ?_, ?_, ?_, ?_, ?_⟩ (by rw [lx]; exact Nat.min_le_left ..) (by rw [ly]; exact Nat.min_le_right ..) (by rw [lx, ly]; omega) (Nat.le_trans (Nat.min_le_left ..) z1)
        hz ⟨_, _, hTO⟩ hTI h1 h2 t1 t2 fun h' tk acc c as kp hS hl hG hacc => ?_
      · show s1.heap.objs.size + 4 < h0.objs.size
        rw [hsz]; exact Nat.lt_succ_self _
      · show s1.heap.objs.size + 2 < h0.objs.size
        rw [hsz]; exact Nat.add_lt_add_left (by decide) _
      · show s1.heap.objs.size + 3 < h0.objs.size
        rw [hsz]; exact Nat.add_lt_add_left (by decide) _
      · show s1.heap.objs.size < h0.objs.size
        rw [hsz]; exact Nat.lt_add_of_pos_right (by decide)
      · show s1.heap.objs.size + 1 < h0.objs.size
        rw [hsz]; exact Nat.add_lt_add_left (by decide) _
      · show a < h0.objs.size
        rw [hsz]; exact Nat.lt_of_lt_of_le la (Nat.le_add_right _ _)
      · show b < h0.objs.size
        rw [hsz]; exact Nat.lt_of_lt_of_le lb (Nat.le_add_right _ _)
      · have keep : ∀ b o, s1.heap.get? b = some o → h'.get? b = some o := fun b o e => by
          have l := Heap.lt_size e
          exact kp b o (Nat.ne_of_lt (Nat.lt_of_lt_of_le l (Nat.le_add_right _ _))) (Nat.ne_of_lt (Nat.lt_of_lt_of_le l (Nat.le_add_right _ _))) (Nat.ne_of_lt l) (Nat.ne_of_lt (Nat.lt_of_lt_of_le l (Nat.le_add_right _ _))) (hk b o e)
        obtain ⟨n1, n2, n3, n4, J⟩ := pairs_laid (tk := tk) I1 rv rv2 keep (by show s1.heap.objs.size ≤ h0.objs.size; rw [hsz]; exact Nat.le_add_right _ _) hS (by rw [hl, List.length_zip]) (by rw [hl]; exact Nat.le_trans (Nat.min_le_left ..) z1) hG hacc
        exact ⟨.ref _, _, J, rfl, q as _ (by rw [hl, List.length_zip]) n4 n2 n1 n3⟩
end
end Ly

namespace Ah
open PySem PySem.Spec PyProof.Rows L2 Lz
theorem u65 {k : Nat} {A : Around} (r : Room k A) : A.units + 65 < cLine := by have := r.un; omega
theorem inQ {X : Cx} (K : PySem.W.Frag) (hu : X.A.units + 65 < cLine) (hk : X.K = K := by rfl) : OpR X (compareOp .In) (rInD K) := hk ▸ op_inD hu
theorem notInQ {X : Cx} (K : PySem.W.Frag) (hu : X.A.units + 65 < cLine) (hk : X.K = K := by rfl) : OpR X (compareOp .NotIn) (rNotInD K) := hk ▸ op_notInD hu
/-! ## t[::st] of a tuple, st 1 or -1 -/
section
variable {prog : Program} {w : World} {A : Around} {E : Value → Shared → Prop} {s : Shared}
theorem sliceOnce {sl : Addr} {vl vu vs : Value} {n : Nat} {Q : Int × Int × Nat → Shared → Prop} (hs : s.heap.IsSliceOf sl vl vu vs)
    (pl : IsPart vl none) (pu : IsPart vu none) (ps : IsPart vs (some 1)) (h : Q (0, 1, n) s) : wpAny (model prog w) A (Builtin.Slice.sliceApplied (.ref sl) (pure (n : Int))) Q E s := by
  obtain ⟨os, hos, hcs, hds⟩ := id hs
  unfold Builtin.Slice.sliceApplied Builtin.Slice.sliceFields
  refine wpAny_bind (wpAny_bind (wpAny_field hos hds (x := vl) rfl (wpAny_bind (wpAny_field hos hds (x := vu) rfl (wpAny_bind (wpAny_field hos hds (x := vs) rfl (wpAny_pure ?_)))))))
  refine wpAny_bind (HT.slicePart_ ps ?_)
  show wpAny _ _ (if ((1 : Int) == 0) = true then _ else _) _ _ s
  rw [if_neg (by decide)]
  refine wpAny_bind (HT.slicePart_ pl (wpAny_bind (HT.slicePart_ pu (wpAny_bind (wpAny_pure ?_)))))
  show wpAny _ _ (match Builtin.Slice.sliceAdjust none none 1 (n : Int) with | (lo, hi) => pure (lo, (1 : Int), Builtin.Slice.slicePlaces lo hi 1)) _ _ s
  have e1 : Builtin.Slice.sliceAdjust none none 1 (n : Int) = (0, (n : Int)) := by
    unfold Builtin.Slice.sliceAdjust
    simp
  have e2 : Builtin.Slice.slicePlaces 0 (n : Int) 1 = n := by
    unfold Builtin.Slice.slicePlaces
    simp only [show (1 : Int) > 0 by decide, if_true, Int.ediv_one]
    split <;> omega
  rw [e1]
  show wpAny _ _ (pure ((0 : Int), (1 : Int), Builtin.Slice.slicePlaces 0 (n : Int) 1)) _ _ s
  rw [e2]
  exact wpAny_pure h
theorem itemsOnce {t sl : Addr} {items : Array Value} {vl vu vs : Value} {Q : Value → Shared → Prop} (ht : IsTup s.heap t items) (hs : s.heap.IsSliceOf sl vl vu vs) (pl : IsPart vl none) (pu : IsPart vu none) (ps : IsPart vs (some 1))
    (h : Q (.ref t) s) : wpAny (model prog w) A (getItem (.ref t) (.ref sl)) Q E s := by
  obtain ⟨os, hos, hcs, hds⟩ := id hs
  have hTs : s.TypeIs (.ref sl) "slice" := ⟨os, hos, hcs⟩
  unfold getItem
  try with_reducible refine wpAny_holding ?_
  first | refine wpAny_bind (wpAny_pure ?_) | skip
  refine wpAny_bind (wpAny_sequenceKey ht.typeIs (by decide) ?_)
  refine wpAny_bind (wpAny_callSpecial?_slot (name := Str.ofString "__getitem__") ht.typeIs PyProof.Rows.slot_tuple_getitem
    (wpAny_call_entry PyProof.Rows.slot_tuple_getitem ht.typeIs entry_tuple_getitem ?_ (args_tuple_getitem _ _)))
  show wpAny _ _ (Builtin.Tuple.tupleItemsOf (.ref t) >>= _) _ _ s
  refine wpAny_bind (tupleItemsOf_ ht (wpAny_bind (wpAny_typeOf hTs ?_)))
  rw [if_pos (by decide)]
  refine wpAny_bind (sliceOnce hs pl pu ps ?_)
  have yes : (((0 : Int) == 0) && (1 : Int) == 1 && items.size == items.size) = true := by simp
  show wpAny _ _ (if (((0 : Int) == 0) && (1 : Int) == 1 && items.size == items.size) = true then _ else _) _ _ s
  rw [if_pos yes]
  refine wpAny_bind ?_
  show wpAny _ _ (typeOf (.ref t) >>= fun T => pure (T == .type "tuple")) _ _ s
  refine wpAny_bind (wpAny_typeOf ht.typeIs (wpAny_pure ?_))
  first
    | rw [if_pos (by decide)]
    | simp only [beq_self_eq_true, if_true]
  first
    | exact wpAny_bind (wpAny_rule (wpAny_pure ⟨_, rfl, wpAny_pure h⟩))
    | exact wpAny_bind (wpAny_rule (wpAny_bind (wpAny_pure (wpAny_pure ⟨_, rfl, wpAny_pure h⟩))))
end
section
variable {X : Cx} {e es : Expr} {te ts : TE} {p3 pos : Pos}
def tStepT (K : PySem.W.Frag) (te ts : TE) : TE := fun σ H Q => te σ H fun x H1 => ts σ H1 fun y H2 => ∃ a xs, x = .ref a ∧ SqT K H2 a xs ∧
  ((y = .int (-1) ∧ ∀ p, H2 p = none → Q (.ref p) (upd H2 p (.tup xs.reverse))) ∨ (y = .int 1 ∧ Q (.ref a) H2))
theorem pe_stepT (he : PE X e te) (hst : PE X es ts) : PE X (.Subscript e (.Slice none none (some es) p3) pos) (tStepT X.K te ts) := by
  constructor
  intro pins s σ H Q I h
  refine Subscript_ (thn (he.run pins s σ H _ I h) fun v s1 z => ?_)
  obtain ⟨x, H1, I1, r1, q0⟩ := z
  refine wpAny_Slice (thn (po_none.run pins s1 σ H1 (fun o H2 => o = none ∧ H2 = H1) I1 ⟨rfl, rfl⟩) ?_)
  rintro vl s2 ⟨l, H2, I2, pl, rfl, rfl⟩
  refine thn (po_none.run pins s2 σ H2 (fun o H3 => o = none ∧ H3 = H2) I2 ⟨rfl, rfl⟩) ?_
  rintro vu s3 ⟨u, H3, I3, pu, rfl, rfl⟩
  rw [evalPart_some]
  refine thn (hst.run pins s3 σ H3 _ I3 q0) ?_
  rintro vs s4 ⟨y, H4, I4, r2, a, xs, ex, hx, q⟩
  subst ex
  cases r1
  have I5 : Inv X pins σ H4 { s4 with heap := s4.heap.push { cls := .type "slice", data := .fields #[vl, vu, vs] } } :=
    I4.kept (t' := s4.toks) fun b ob z => Heap.get?_push_of_some _ z
  obtain ⟨its, r, ht, hz⟩ := I5.tuple hx
  have hlen := r.length
  refine tail_any (ops := [.ref a, .ref s4.heap.objs.size]) ht.typeIs (PyProof.Rows.slot_tuple_getitem.lookup) ?_ (by with_unfolding_all rfl)
  rcases q with ⟨ey, q⟩ | ⟨ey, q⟩
  · subst ey
    obtain ⟨t, rfl⟩ := r2
    have ps : IsPart (.int (-1) t) (some (-1)) := .int (-1) t
    refine itemsBack ht (Heap.IsSliceOf.new _ vl vu _) pl pu ps its.length (by simp) (by simpa using adjAll its.length) ?_ (by rw [List.size_toArray, ← hlen]; exact hz)
    have e1 : (its.toArray.toList.drop (its.toArray.size - its.length)).reverse = its.reverse := by simp
    rw [e1]
    refine ⟨.ref _, _, I5.laid (t' := s4.toks) (o := .tup xs.reverse) (fun b ob z => Heap.get?_push_of_some _ z) (Nat.le_refl _) ?_, rfl, q _ (I5.hok.fresh (Nat.le_refl _))⟩
    exact ⟨by rw [List.length_reverse]; omega, _, (show Vals xs its from r).reverse, IsTup.new _ _⟩
  · subst ey
    obtain ⟨t, rfl⟩ := r2
    have ps : IsPart (.int 1 t) (some 1) := .int 1 t
    exact itemsOnce ht (Heap.IsSliceOf.new _ vl vu _) pl pu ps ⟨.ref a, H4, I5, rfl, q⟩
end
section
variable {L : La} {M : Amb} {n m : Nat} {H Hs H' : Hp} {σ : L2.St} {e : AEnv} {v : V} {a : A} {i : Nat}
def aStepT (wa ws : AW) : AW := fun e n q => wa e n fun a m => ws e m fun b k => ∃ xs, a.rd e = some (.tuple xs) ∧ ((b = .d (.int (-1)) ∧ q (.d (.tuple xs.reverse)) k) ∨ (b = .d (.int 1) ∧ q (.d (.tuple xs)) k))
theorem ab_stepT {t u : TE} {w x : AW} (h : AbE L t w) (h' : AbE L u x) : AbE L (tStepT L.K t u) (aStepT w x) := by
  intro M n H σ e q Q l R hw p
  refine h M n H σ e _ _ l R hw fun v H1 a m h1 R1 k1 r1 => ?_
  refine h' M m H1 σ e _ _ l R1 h1 fun u H2 b k h2 R2 k2 r2 => ?_
  obtain ⟨xs, h3, h2⟩ := h2
  obtain ⟨c, us, rfl, c1, c2⟩ := ((r1.step R1.ok k2 R.ok.there).rdv R2 h3).tuple
  refine ⟨c, us, rfl, l.1 ▸ c1, ?_⟩
  have pk := p.from R.ok (k1.trans k2)
  rcases h2 with ⟨rfl, hq⟩ | ⟨rfl, hq⟩
  · exact .inl ⟨relI r2, fun r hr => pk _ _ _ k hq (R2.new hr) (Kp.new hr) (relNewT R2 hr c2.reverse)⟩
  · exact .inr ⟨relI r2, okE R2 pk hq (.tup c1 c2)⟩
/-! ## l[::-1] of a list -/
def aRevL (w : AW) : AW := fun e n q => w e n fun a m => ∃ xs, a.rd e = some (.list xs) ∧ q (.ol xs.reverse) m
theorem ab_revL {t : TE} {w : AW} (h : AbE L t w) : AbE L (tRevL L.K t) (aRevL w) := by
  intro M n H σ e q Q l R hw p
  refine h M n H σ e _ _ l R hw fun v H1 a m h1 R1 k1 r1 => ?_
  obtain ⟨xs, h2, h1⟩ := h1
  obtain ⟨c, us, rfl, c1, c2⟩ := (r1.rdv R1 h2).list
  exact ⟨c, us, rfl, SqL.of c1, fun r hr => p.from R.ok k1 _ _ _ m h1 (R1.new hr) (Kp.new hr) (relNewL R1 hr c2.reverse)⟩
/-! ## x is True -/
def fIsB (f : Bool → Bool) (a b : A) : AW := fun e n q => ∃ x y, a = .d (.bool x) ∧ b = .d (.bool y) ∧ q (.d (.bool (f (decide (x = y))))) n
theorem oa_isB : OpA L (fun x y H Q => ∃ a b, x = .bl a ∧ y = .bl b ∧ Q (.bl (decide (a = b))) H) (fIsB id) := by
  intro M n H Hs σ e x y a b q Q l R ra rb h p
  obtain ⟨s, t, rfl, rfl, hq⟩ := h
  exact ⟨s, t, relBool ra, relBool rb, okE R p hq (.bl _)⟩
theorem oa_notB : OpA L (fun x y H Q => ∃ a b, x = .bl a ∧ y = .bl b ∧ Q (.bl (!decide (a = b))) H) (fIsB not) := by
  intro M n H Hs σ e x y a b q Q l R ra rb h p
  obtain ⟨s, t, rfl, rfl, hq⟩ := h
  exact ⟨s, t, relBool ra, relBool rb, okE R p hq (.bl _)⟩
theorem oa_NT : OpA L rNT (fIsTy not) := by
  intro M n H Hs σ e x y a b q Q l R ra rb h p
  obtain ⟨s, t, rfl, rfl, hq⟩ := h
  exact ⟨s, t, ra, rb, okE R p hq (.bl _)⟩
/-! ## f(b=.., a=..): two names handed in the other way about -/
def Arg1 (M : Amb) (H : Hp) (v : V) : A → Prop
  | .d x => Dz M.K (fun a => a ∈ M.hs ∨ M.S0 a) H v x
  | .hd => ∃ h, M.hand = some h ∧ v = .ref h
  | .rf f ks ps => RfOk M.K (fun a => a ∈ M.hs ∨ M.S0 a) H v f ks ps
  | _ => False
theorem ArgsOk.cons1 {vs : List V} {as : List A} (h : Arg1 M H v a) (r : ArgsOk M H vs as) : ArgsOk M H (v :: vs) (a :: as) := by
  cases a with
  | d x => exact .d h r
  | hd => obtain ⟨b, h1, rfl⟩ := h; exact .hd h1 r
  | rf _ _ _ => exact .rf h r
  | ol _ => exact h.elim
  | od _ => exact h.elim
  | ot _ _ => exact h.elim
  | «at» _ => exact h.elim
  | ty _ => exact h.elim
theorem ArgsOk.inv {vs : List V} {as : List A} (h : ArgsOk M H vs as) : (vs = [] ∧ as = []) ∨ ∃ v a us bs, vs = v :: us ∧ as = a :: bs ∧ Arg1 M H v a ∧ ArgsOk M H us bs := by
  cases h with
  | nil => exact .inl ⟨rfl, rfl⟩
  | d a b => exact .inr ⟨_, _, _, _, rfl, rfl, a, b⟩
  | hd a b => exact .inr ⟨_, _, _, _, rfl, rfl, ⟨_, a, rfl⟩, b⟩
  | rf a b => exact .inr ⟨_, _, _, _, rfl, rfl, a, b⟩
theorem ArgsOk.swp {vs : List V} {as : List A} (h : ArgsOk M H vs as) : ArgsOk M H (swp vs) (swp as) := by
  rcases h.inv with ⟨rfl, rfl⟩ | ⟨v1, a1, us, bs, rfl, rfl, h1, r1⟩
  · exact h
  rcases r1.inv with ⟨rfl, rfl⟩ | ⟨v2, a2, us, bs, rfl, rfl, h2, r2⟩
  · exact h
  rcases r2.inv with ⟨rfl, rfl⟩ | ⟨v3, a3, us, bs, rfl, rfl, h3, r3⟩
  · exact .cons1 h2 (.cons1 h1 .nil)
  · exact h
def aCallW (F : FS) (w : AAW) (k : Nat) : AW := fun e n q => w e n fun as m => as.length = k ∧ ∃ bs, args as = some bs ∧ F (swp bs) m q
theorem ab_callW {F : FS} {t : TA} {w : AAW} {E : XK} {k : Nat} (h : AbA L t w) : AbE L (tCallN 0 k (spA L F) (fun _ zs => swp zs) E tNil t) (aCallW F w k) := by
  intro M n H σ e q Q l R hw p
  show t σ H _
  refine h M n H σ e _ _ l R hw fun vs H1 as m h1 R1 k1 r1 => ?_
  obtain ⟨hl, bs, h2, h3⟩ := h1
  refine ⟨rfl, by rw [r1.len]; exact hl, ?_⟩
  refine ⟨M.sub' H1 (M.S σ e), swp bs, m, q, l, rfl, fun a z => R1.there z, ⟨R1.ok.hand, R1.ok.tabs⟩, rfl, rfl, (argsOf (S0 := M.S σ e) (N := M.sub' H1 (M.S σ e)) R1 r1 rfl rfl rfl (fun a z => z) h2).swp, h3, fun v H2 a k h4 k2 O2 r2 => ?_⟩
  have O3 : M.Ok k H2 := ⟨O2.hand, O2.tabs⟩
  exact p.from R.ok k1 v H2 a k h4 (R1.step k2 O3) k2 (retRel (N := M.sub' H1 (M.S σ e)) R1 rfl rfl (fun a z => .inr z) r2)
/-! ## dict(l) of a list of pairs -/
theorem relNewK {vs : List (Key × V)} {xs : List (PyData × PyData)} {p : Addr} (R : Rep M n H σ e) (hp : H p = none) (h : Dzk M.K (M.S σ e) H vs xs) : RelR M (M.S σ e) H (upd H p (.dK vs)) σ e (.ref p) (.od xs) :=
  ⟨p, vs, rfl, hp, R.nS hp, upd_same, h.fresh (S := M.S σ e) R hp⟩
theorem keyDz {K : PySem.W.Frag} {S : Addr → Prop} {k : Key} (h : Dz K S H v (kD k)) : v = kV k := by
  cases k <;> (cases h; rfl)
theorem pairsK {K : PySem.W.Frag} {S : Addr → Prop} : ∀ {mm : KM} {us : List V}, Dzs K S H us (itemsD mm) →
    ∃ (ps : List Addr) (kvs : List (Key × V)), us = ps.map V.ref ∧ Paired (fun p kv => SqT K H p [kV kv.1, kv.2]) ps kvs ∧ Dkm K S H kvs mm
  | [], us, h => by cases h; exact ⟨[], [], rfl, .nil, .nil⟩
  | (k, d) :: mm, us, h => by
    have e : itemsD ((k, d) :: mm) = .tuple [kD k, d] :: itemsD mm := rfl
    rw [e] at h
    cases h with
    | cons a b =>
      obtain ⟨ps, kvs, rfl, h2, h3⟩ := pairsK b
      cases a with
      | @tup c xs _ a1 a2 =>
        cases a2 with
        | cons x1 x2 =>
          cases x2 with
          | cons y1 y2 =>
            cases y2
            obtain rfl := keyDz x1
            exact ⟨c :: ps, (k, _) :: kvs, rfl, .cons a1 h2, .cons y1 h3⟩
def rDictP (K : PySem.W.Frag) : List V → Hp → VK → Prop := fun xs H Q => ∃ (a : Addr) (ps : List Addr) (kvs : List (Key × V)), xs = [.ref a] ∧ SqL K H a (ps.map V.ref) ∧ Paired (fun p kv => SqT K H p [kV kv.1, kv.2]) ps kvs ∧
  ∀ p, H p = none → Q (.ref p) (upd H p (.dK (mergeK [] kvs)))
theorem call_dictQ {X : Cx} (hc : X.calm = true) (K : PySem.W.Frag) (hk : X.K = K := by rfl) : CallR X (.type "dict") (rDictP K) := by
  subst hk
  exact call_dictP hc
def fDictP : List A → AW := fun as e n q => ∃ a mm, as = [a] ∧ a.rd e = some (.list (itemsD mm)) ∧ q (.od (kvD (mergeM [] mm))) n
theorem cb_dictP : CbA L (rDictP L.K) fDictP := by
  intro M n H Hs σ e vs as q Q l R ra h p
  obtain ⟨a, mm, rfl, h1, h4⟩ := h
  obtain ⟨v, rfl, r⟩ := rels1 ra
  obtain ⟨c, us, rfl, c1, c2⟩ := (r.rdv R h1).list
  obtain ⟨ps, kvs, rfl, h2, h3⟩ := pairsK c2
  exact ⟨c, ps, kvs, rfl, SqL.of c1, l.1 ▸ h2, fun r hr => p _ _ _ n h4 (R.new hr) (Kp.new hr) (relNewK R hr (Dkm.merge h3 .nil).dzk)⟩
/-! ## list(zip(a, b)) of two lists -/
def fListZipL : List A → AW := fun as e n q => ∃ a b xs ys, as = [a, b] ∧ a.rd e = some (.list xs) ∧ b.rd e = some (.list ys) ∧ q (.ol (zipD xs ys)) n
theorem cb_listZipL : CbA L (Ly.rListZipL L.K) fListZipL := by
  intro M n H Hs σ e vs as q Q l R ra h p
  obtain ⟨a, b, xs, ys, rfl, h1, h2, h4⟩ := h
  obtain ⟨v, w, rfl, r, r2⟩ := rels2 ra
  obtain ⟨c, us, rfl, c1, c2⟩ := (r.rdv R h1).list
  obtain ⟨d, us2, rfl, d1, d2⟩ := (r2.rdv R h2).list
  refine ⟨c, d, us, us2, rfl, SqL.of c1, SqL.of d1, fun ts S hl hn hne hS hSn => ?_⟩
  obtain ⟨R2, k2, z⟩ := zipRun ts R hl hn hne c2 d2
  have hS2 : putP H ts (us.zip us2) S = none := by rw [putP_off _ _ _ hSn]; exact hS
  exact p.from R.ok k2 _ _ _ n h4 (R2.new hS2) (Kp.new hS2) (relNewL R2 hS2 z)
/-! ## {k: v} -/
def aDisp1 (wk wv : AW) : AW := fun e n q => wk e n fun a m => wv e m fun b k => ∃ x key y, a = .d x ∧ dK' x = some key ∧ b.sto = some y ∧ q (.od (kvD [(key, y)])) k
theorem ab_disp1 {tk tv : TE} {wk wv : AW} (h : AbE L tk wk) (h' : AbE L tv wv) : AbE L (tDisp [(tk, tv)]) (aDisp1 wk wv) := by
  intro M n H σ e q Q l R hw p c hc
  have R0 := Rep.more (T := fun b => b = c) R (Kp.new hc) (R.new (o := .dK []) hc) fun b hb => by
    subst hb
    exact ⟨hc, by rw [upd_same]; simp, R.nS hc⟩
  have nc : c ∉ M.hs := fun z => R.ok.there c z hc
  refine h (M.more fun b => b = c) n _ σ e _ _ l R0 hw fun v H1 a m h1 R1 k1 r1 => ?_
  refine h' (M.more fun b => b = c) m H1 σ e _ _ l R1 h1 fun u H2 b k h2 R2 k2 r2 => ?_
  obtain ⟨x, key, y, rfl, e1, e2, hq⟩ := h2
  have hc2 : H2 c = some (.dK []) := k2 c _ nc (k1 c _ nc upd_same)
  refine ⟨hc2, [(key, u)], ?_, by show 1 ≤ 15; decide, ?_⟩
  · show [(v, u)] = _
    rw [keyRel r1 e1]; rfl
  · have zy : Dz M.K ((M.more fun b => b = c).S σ e) H2 u y := r2.sto e2
    have kk : Kp M.hs H (upd H2 c (.dK (mergeK [] [(key, u)]))) := (((Kp.new hc).trans k1).trans k2).put0 hc
    have O2 : M.Ok k (upd H2 c (.dK (mergeK [] [(key, u)]))) := by
      refine ⟨fun h q => ?_, fun t ht => ?_⟩
      · have hm : h ∈ M.hs := List.mem_append_left _ (by rw [q]; exact List.mem_singleton.mpr rfl)
        refine M.hp.keep (ms := [c]) (R2.ok.hand h q) (Kp.put (by simp)) ?_ (one1 (Loose.dK hc2))
        simp only [List.mem_singleton]
        exact fun z => nc (by rw [← z]; exact hm)
      · refine TabX.keep (R2.ok.tabs t ht) (ms := [c]) (Kp.put (by simp)) ?_ (one1 (dKNoCode hc2))
        simp only [List.mem_singleton]
        exact fun z => nc (by rw [← z]; exact List.mem_append_right _ ht)
    refine p _ _ _ k hq (R.step kk O2) kk ⟨c, _, rfl, hc, R.nS hc, upd_same, ?_⟩
    refine .cons ?_ .nil
    refine Dz.map (fun b q hb hq => by rw [upd_ne (fun z => hb (.inr (.inr (.inl z))))]; exact hq) (fun b xs hb => SqT.kp (ms := [c]) (Kp.put (by simp)) (fun q hq => by rw [List.mem_singleton.mp hq]; exact .dK hc2) hb) (fun b z => .inl ?_) zy
    rcases z with rfl | z | z | z
    · exact .inr (.inr (.inl rfl))
    · exact .inl z
    · exact .inr (.inl z)
    · exact .inr (.inr (.inr z))
end
end Ah

namespace Ah
open PySem PySem.Spec PyProof.Rows L2
theorem aIter_ind {wt : ATW} {wb : ASW} {d : AD} (G : Nat → AEnv → Nat → Prop) (h0 : ∀ e n, ¬ G 0 e n)
    (h : ∀ j e n, G (j + 1) e n → (∀ e n, G j e n → aIter wt wb d j e n) → wt e n fun b m => if b = true then wb { d with nx := aIter wt wb d j, ct := aIter wt wb d j, bk := d.nx } e m else d.nx e m) : ∀ j e n, G j e n → aIter wt wb d j e n
  | 0, e, n, g => (h0 e n g).elim
  | j + 1, e, n, g => h j e n g (aIter_ind G h0 h j)
theorem popA {T : Tg} {d : AD} {e : AEnv} {n i : Nat} {l : List PyData} {y : PyData} (h : e[i]? = some (some (.ol (l ++ [y])))) (k : putT T y (e.set i (some (.ol l))) fun e' => d.nx e' n) : aPop i T d e n :=
  ⟨_, y, h, by simp, by rw [List.dropLast_concat]; exact k⟩
theorem ifT {c : Bool} {p q : Prop} (h : c = true) (hp : p) : if c = true then p else q := by rw [if_pos h]; exact hp
theorem ifF {c : Bool} {p q : Prop} (h : c = false) (hq : q) : if c = true then p else q := by rw [if_neg (by rw [h]; exact Bool.false_ne_true)]; exact hq
theorem truL {l : List PyData} {y : PyData} : truD (.list (l ++ [y])) = true := by cases l <;> rfl
end Ah

namespace Lx
open PySem PySem.Spec PyProof.Rows L2 PySem.W
/-! ## sorted(l) of a list of data -/
section
variable {X : Cx} {pins : List (Addr × Obj)} {σ : L2.St} {H : Hp} {s : Shared}
theorem eachRel (I : Inv X pins σ H s) : ∀ {vs : List V} {ds : List PyData} {its : List Value}, Vals vs its → DpAll X.K H vs ds → EachIs (fun u (b : V × PyData) => RelV b.1 u ∧ ∃ as, Reads s.heap u b.2 as) its (vs.zip ds)
  | _, _, _, .nil, h => by cases h; exact .nil
  | _, _, _, .cons r rr, h => by
    cases h with
    | cons a b => exact .cons ⟨r, Dp.reads I _ _ _ a r⟩ (eachRel I rr b)
theorem eachVals : ∀ {out : List Value} {rs : List (V × PyData)}, EachIs (fun u (b : V × PyData) => RelV b.1 u ∧ ∃ as, Reads s.heap u b.2 as) out rs → Vals (rs.map Prod.fst) out
  | _, _, .nil => .nil
  | _, _, .cons r rr => .cons r.1 (eachVals rr)
def rSortData (K : PySem.W.Frag) : List V → Hp → VK → Prop := fun xs H Q => ∃ (a : Addr) (vs : List V) (ds : List PyData), xs = [.ref a] ∧ SqL K H a vs ∧ DpAll K H vs ds ∧ AllAlike ds ∧ Sortable ds ∧ (∀ d ∈ ds, d.depth ≤ 50) ∧
  ∀ (rs : List (V × PyData)) (p : Addr), rs = (vs.zip ds).mergeSort (dataLe false Prod.snd) → H p = none → Q (.ref p) (upd H p (.lst (rs.map Prod.fst)))
theorem call_sortData (hu : X.A.units + 65 < cLine) (K : PySem.W.Frag) (hk : X.K = K := by rfl) : CallR X (.builtin "sorted") (rSortData K) := by
  subst hk
  intro pins s σ H xs us Q I r h
  obtain ⟨a, vs, ds, rfl, hs, hd, hal, hk, hdep, q⟩ := h
  obtain ⟨its, rv, hl, hz⟩ := I.list hs
  rw [Vals.ref1 r]
  have er := eachRel I rv hd
  have lv : vs.length = ds.length := Ah.DpAll.length hd
  have em : (vs.zip ds).map Prod.snd = ds := List.map_snd_zip (by omega)
  have lz : (vs.zip ds).length = vs.length := by rw [List.length_zip]; omega
  refine sorted_data (bs := vs.zip ds) (enc := Prod.snd) (R := fun u (b : V × PyData) => RelV b.1 u ∧ ∃ as, Reads s.heap u b.2 as) hl.isList er (er.mono fun _ _ z => z.2) (by rw [em]; exact hal) (by rw [em]; exact hk) (by rw [lz]; exact hz) (fun b hb => ?_) fun out ho he => ?_
  · have := hdep b.2 (by rw [← em]; exact List.mem_map.mpr ⟨b, hb, rfl⟩)
    omega
  · obtain ⟨ep, he'⟩ := PyProof.Rows.sortedAll_at s.heap its out.toArray
    exact ⟨.ref _, upd H (s.heap.objs.size + 1) (.lst (((vs.zip ds).mergeSort (dataLe false Prod.snd)).map Prod.fst)), I.laid (t' := s.toks) (fun _ _ => PyProof.Rows.sortedAll_old) (Nat.le_succ _) ⟨by rw [List.length_map, List.length_mergeSort, lz]; exact hz, out, ep, eachVals he, he'⟩, rfl, q _ _ rfl (I.hok.fresh (Nat.le_succ _))⟩
end
end Lx
namespace Ah
open PySem PySem.Spec PyProof.Rows L2 Lz
section
variable {L : La} {M : Amb} {n m : Nat} {H Hs H' : Hp} {σ : L2.St} {e : AEnv} {v : V} {a : A} {i : Nat}
theorem dzsZip {K : PySem.W.Frag} {S : Addr → Prop} : ∀ {vs : List V} {ds : List PyData}, Dzs K S H vs ds → ∀ p ∈ vs.zip ds, Dz K S H p.1 p.2
  | _, _, .nil, p, h => by simp at h
  | _, _, .cons a b, p, h => by
    rw [List.zip_cons_cons] at h
    rcases List.mem_cons.mp h with rfl | h
    · exact a
    · exact dzsZip b p h
theorem dzsOf {K : PySem.W.Frag} {S : Addr → Prop} : ∀ {rs : List (V × PyData)}, (∀ p ∈ rs, Dz K S H p.1 p.2) → Dzs K S H (rs.map Prod.fst) (rs.map Prod.snd)
  | [], _ => .nil
  | p :: r, h => .cons (h p List.mem_cons_self) (dzsOf fun q hq => h q (List.mem_cons_of_mem _ hq))
/-- data in order -/
def sortD (ds : List PyData) : List PyData := ds.mergeSort (PySem.W.dataLe false id)
def fSortD : List A → AW := fun as e n q => ∃ a ds, as = [a] ∧ a.rd e = some (.list ds) ∧ PySem.W.AllAlike ds ∧ PySem.W.Sortable ds ∧ (∀ d ∈ ds, d.depth ≤ 50) ∧ PyData.hasDictAll ds = false ∧ q (.ol (sortD ds)) n
theorem cb_sortD : CbA L (Lx.rSortData L.K) fSortD := by
  intro M n H Hs σ e vs as q Q l R ra h p
  obtain ⟨a, ds, rfl, h1, h2, h3, h4, h5, hq⟩ := h
  obtain ⟨v, rfl, r⟩ := rels1 ra
  obtain ⟨c, us, rfl, c1, c2⟩ := (r.rdv R h1).list
  have lv := c2.length
  refine ⟨c, us, ds, rfl, SqL.of c1, l.1 ▸ Dzs.dp ds h5 c2, h2, h3, h4, fun rs r hrs hr => ?_⟩
  have z : Dzs M.K (M.S σ e) H (rs.map Prod.fst) (rs.map Prod.snd) := dzsOf fun p hp => dzsZip c2 p (by rw [hrs] at hp; exact List.mem_mergeSort.mp hp)
  have es : rs.map Prod.snd = sortD ds := by
    rw [hrs]
    unfold sortD
    have e1 := PySem.W.sort_maps (r := PySem.W.dataLe false (Prod.snd (α := V))) (s := PySem.W.dataLe false id) Prod.snd (l := us.zip ds) (fun _ _ _ _ => rfl)
    rw [e1, List.map_snd_zip (by omega)]
  rw [es] at z
  exact p _ _ _ n hq (R.new hr) (Kp.new hr) (relNewL R hr z)
theorem sortPerm (ds : List PyData) : (sortD ds).Perm ds := List.mergeSort_perm ..
end
end Ah

namespace Lx
open PySem PySem.Spec PyProof.Rows L2 PySem.W Lz
/-! ## sorted(d.items()) -/
mutual
theorem readsThere {h : Heap} : ∀ {v : Value} {d : PyData} {as : List Addr}, Reads h v d as → ∀ a ∈ as, a < h.objs.size
  | _, _, _, .none, a, ha => by cases ha
  | _, _, _, .bool _, a, ha => by cases ha
  | _, _, _, .int _ _, a, ha => by cases ha
  | _, _, _, .str _ _, a, ha => by cases ha
  | _, _, _, .list ho _ _ r, a, ha => by
    rcases List.mem_cons.mp ha with rfl | ha
    · exact Heap.lt_size ho
    · exact readsAllThere r a ha
  | _, _, _, .tuple ho _ _ r, a, ha => readsAllThere r a ha
  | _, _, _, .dict ho _ _ r r2, a, ha => by
    rcases List.mem_append.mp ha with ha | ha
    · rcases List.mem_cons.mp ha with rfl | ha
      · exact Heap.lt_size ho
      · exact readsAllThere r a ha
    · exact readsAllThere r2 a ha
theorem readsAllThere {h : Heap} : ∀ {v : List Value} {d : List PyData} {as : List Addr}, ReadsAll h v d as → ∀ a ∈ as, a < h.objs.size
  | _, _, _, .nil, a, ha => by cases ha
  | _, _, _, .cons r rr, a, ha => by
    rcases List.mem_append.mp ha with ha | ha
    · exact readsThere r a ha
    · exact readsAllThere rr a ha
end
def itemsV (kvs : List (Key × V)) (ds : List PyData) : List PyData := (kvs.zip ds).map fun q => .tuple [Ah.kD q.1.1, q.2]
def tSortItems (K : PySem.W.Frag) (te : TE) : TE := fun σ H Q => te σ H fun x H1 => ∃ (d : Addr) (kvs : List (Key × V)) (ds : List PyData), x = .ref d ∧ H1 d = some (.dK kvs) ∧ DpAll K H1 (kvs.map (·.2)) ds ∧
  AllAlike (itemsV kvs ds) ∧ Sortable (itemsV kvs ds) ∧ (∀ d ∈ itemsV kvs ds, d.depth ≤ 50) ∧
  ∀ (ts : List Addr) (p : Addr) (rs : List (V × PyData)), ts.length = (kvP kvs).length → ts.Nodup → (∀ t ∈ ts, H1 t = none) → H1 p = none → p ∉ ts → rs = ((ts.map V.ref).zip (itemsV kvs ds)).mergeSort (dataLe false Prod.snd) →
    Q (.ref p) (upd (putP H1 ts (kvP kvs)) p (.lst (rs.map Prod.fst)))
theorem keyReads {h : Heap} {k : Key} {u : Value} (h' : keyIs k u = true) : Reads h u (Ah.kD k) [] := by
  cases k with
  | inl i =>
    have r : RelV (kV (.inl i)) u := relV_key h'
    obtain ⟨t, rfl⟩ := r
    exact .int i t
  | inr s =>
    have r : RelV (kV (.inr s)) u := relV_key h'
    obtain ⟨t, rfl⟩ := r
    exact .str s t
section
variable {X : Cx} {e : Expr} {te : TE} {p apos cpos pos : Pos}
theorem eachPairs {h : Heap} {H : Hp} {s1 : Shared} {pins : List (Addr × Obj)} {σ : L2.St} (I1 : Inv X pins σ H s1) (up : ∀ b o, s1.heap.get? b = some o → h.get? b = some o) (B : Addr) (hB : s1.heap.objs.size ≤ B) :
    ∀ {as : List Addr} {kvs : List (Key × V)} {ds : List PyData} {vs : List (Key × Value)}, as.length = kvs.length → KV kvs vs → DpAll X.K H (kvs.map (·.2)) ds →
      (∀ (j : Nat) (a : Addr), as[j]? = some a → ∃ key k x, vs[j]? = some (k, x) ∧ keyIs k key = true ∧ h.get? a = some { cls := .type "tuple", data := .seq #[key, x] }) →
      EachIs (fun u (b : V × PyData) => RelV b.1 u ∧ ∃ as, Reads h u b.2 as ∧ B ∉ as) (as.map Value.ref) ((as.map V.ref).zip (itemsV kvs ds))
  | [], kvs, ds, vs, hl, _, _, _ => .nil
  | a :: as, [], ds, vs, hl, _, _, _ => by simp at hl
  | a :: as, kv :: kvs, ds, vs, hl, r, hd, hp => by
    cases r with
    | @cons _ q _ vs' r1 r2 =>
      cases hd with
      | @cons _ _ d ds' d1 d2 =>
        have e0 : itemsV (kv :: kvs) (d :: ds') = .tuple [Ah.kD kv.1, d] :: itemsV kvs ds' := rfl
        rw [e0]
        obtain ⟨key, k, x, f1, f2, f3⟩ := hp 0 a rfl
        obtain rfl : q = (k, x) := by simpa using f1
        have ek : kv.1 = k := r1.1
        have ex : RelV kv.2 x := r1.2
        obtain ⟨as', rd⟩ := Dp.reads I1 _ _ _ d1 ex
        have rd' := PyProof.Rows.Reads.keeps up rd
        have nB : B ∉ as' := fun z => absurd (readsThere rd B z) (Nat.not_lt.mpr hB)
        refine .cons ⟨rfl, as', ?_, nB⟩ (eachPairs I1 up B hB (by simpa using hl) r2 d2 fun j b hj => hp (j + 1) b (by simpa using hj))
        have rk : Reads h key (Ah.kD kv.1) [] := by rw [ek]; exact keyReads f2
        have ra : ReadsAll h [key, x] [Ah.kD kv.1, d] ([] ++ (as' ++ [])) := .cons rk (.cons rd' .nil)
        rw [List.nil_append, List.append_nil] at ra
        exact .tuple (n := 0) f3 rfl rfl ra
theorem pe_sortItems (hc : X.calm = true) (hu : X.A.units + 65 < cLine) (he : PE X e te) (K : PySem.W.Frag) (hg : Gl X "sorted") (hm : X.mg "sorted" = none) (hK : X.K = K := by rfl) (hbase : attributeBase e "items" X.env (eval e X.env) = eval e X.env := by rfl) (hline : (apos.endLine == cpos.line) = true := by rfl)
    (hs : starEach [.Call (.Attribute e "items" apos) [] [] cpos] X.env = (false, eval (.Call (.Attribute e "items" apos) [] [] cpos) X.env) :: starEach [] X.env := by rfl) :
    PE X (.Call (.Name "sorted" p) [.Call (.Attribute e "items" apos) [] [] cpos] [] pos) (tSortItems K te) := by
  subst hK
  refine ⟨fun pins s σ H Q I hq => ?_⟩
  refine wpAny_Call_Name_kw (ld_blt I hg hm boot_sorted ?_)
  refine PyProof.Rows.callWith_builtin1 ?_ hs rfl
  rw [hs]
  show wpAny _ _ (spliced ((false, eval (.Call (.Attribute e "items" apos) [] [] cpos) X.env) :: backTo pos (starEach [] X.env))) _ _ s
  refine Calls.spliced_cons ?_
  refine wpAny_Call_method (T := "dict") (id := "dict.items") hbase rfl hline F.plainAttrs_dict F.slot_dict_items F.type_dict_items (thn (he.run pins s σ H _ I hq) fun u s1 ⟨x, H1, I1, rx, d, kvs, ds, ex, hd, hdp, hal, hsk, hdep, q⟩ => ?_)
  subst ex
  obtain rfl : u = Value.ref d := rx
  obtain ⟨hz, hs0, vs, kv, hdo⟩ := I1.hok d _ hd
  obtain ⟨ep, hat⟩ := hdo.dictAt
  have lk : kvs.length = vs.length := Paired.length kv
  refine ⟨hdo.typeIs, hdo.mapOf.noDict, ?_⟩
  show wpAny _ _ (callWith cpos (.builtin "dict.items") [.ref d] [] []) _ X.xe s1
  refine method_meetsIn F.slot_dict_items F.entry_dict_items rfl (PySem.evalArgs_none ⟨rfl, hdo.typeIs, F.args_dict_items_1 _, _, meets_dict_items (mixKind X.prog X.w) d hs0, ⟨vs, hdo⟩, ?_⟩)
  refine Calls.spliced_nil ?_
  refine Calls.call_function_entry PyProof.Rows.kind_sorted PyProof.Rows.plain_sorted PyProof.Rows.entry_sorted (PyProof.Rows.args_sorted1 _) ?_
  unfold Builtin.«sorted»
  refine wpAny_bind (m := checkCount "sorted" 1 1 _) (wpAny_pure ?_)
  refine wpAny_bind (PySem.W.kdx_collect (A := X.A.in1) (knd := mixKind X.prog X.w) (kvs := vs) (ep := ep) (I1.ok.hd hc) ⟨_, Heap.get?_push_size _ rfl, rfl, rfl⟩ (hat.push _) (by omega) fun h' tk as hk hl hG => ?_)
  have up : ∀ b o, s1.heap.get? b = some o → h'.get? b = some o := fun b o z => hk b o (Heap.get?_push_of_some _ z)
  have sz : (s1.heap.push { cls := .type "dict_items", data := .fields #[.ref d] }).objs.size = s1.heap.objs.size + 1 := Heap.size_push ..
  have abv : ∀ t ∈ as, s1.heap.objs.size ≤ t := fun t ht => by
    have z := hG.above t ht
    exact Nat.le_trans (by rw [sz]; exact Nat.le_succ _) (Nat.le_of_lt z)
  have nd : as.Nodup := List.Pairwise.imp (fun {a b} (h : a < b) => Nat.ne_of_lt h) hG.rise
  have there : ∀ t ∈ as, t < h'.objs.size := fun t ht => hG.there ht
  have hSl : s1.heap.objs.size ≤ h'.objs.size := by
    rcases Nat.lt_or_ge h'.objs.size s1.heap.objs.size with l | l
    · exact absurd (Heap.lt_size (hk s1.heap.objs.size _ (Heap.get?_push_size _ rfl))) (by exact Nat.not_lt.mpr (Nat.le_of_lt l))
    · exact l
  have len : as.length = (kvP kvs).length := by rw [hl, ← lk]; exact (List.length_map ..).symm
  refine wpAny_bind (wpAny_newList ?_ (by rw [List.length_map, hl, ← lk]; exact hz))
  have up2 : ∀ b o, h'.get? b = some o → (h'.push (seqObj "list" (as.map Value.ref).toArray 0)).get? b = some o := fun b o z => Heap.get?_push_of_some _ z
  have hoL : (h'.push (seqObj "list" (as.map Value.ref).toArray 0)).get? h'.objs.size = some (seqObj "list" (as.map Value.ref).toArray 0) := Heap.get?_push_size _ rfl
  have er := eachPairs (h := h'.push (seqObj "list" (as.map Value.ref).toArray 0)) I1 (fun b o z => up2 b o (up b o z)) h'.objs.size hSl (as := as) (by rw [hl, ← lk]) kv hdp fun j a hj => by
    obtain ⟨key, k, x, f1, f2, f3⟩ := hG.pairs j a hj
    exact ⟨key, k, x, f1, f2, up2 _ _ f3⟩
  have liv : (itemsV kvs ds).length = kvs.length := by
    unfold itemsV
    have := Ah.DpAll.length hdp
    rw [List.length_map] at this
    rw [List.length_map, List.length_zip]
    omega
  have em : ((as.map V.ref).zip (itemsV kvs ds)).map Prod.snd = itemsV kvs ds := List.map_snd_zip (by rw [List.length_map, liv, hl, lk]; exact Nat.le_refl _)
  have lzz : ((as.map V.ref).zip (itemsV kvs ds)).length = kvs.length := by rw [List.length_zip, List.length_map, liv, hl, lk, Nat.min_self]
  refine wpAny_bind (wpAny_holding (list_sort_data (bs := (as.map V.ref).zip (itemsV kvs ds)) (enc := Prod.snd) (R := fun u (b : V × PyData) => RelV b.1 u) hoL (er.mono fun _ _ z => z.1) (er.mono fun _ _ z => z.2) (by rw [em]; exact hal) (by rw [em]; exact hsk) (by rw [lzz]; exact hz) (fun b hb => ?_) fun out ho he' => ?_))
  · have := hdep b.2 (by rw [← em]; exact List.mem_map.mpr ⟨b, hb, rfl⟩)
    show X.A.in1.units + 1 + b.2.depth < cLine
    show X.A.units + 1 + 1 + b.2.depth < cLine
    omega
  · refine wpAny_pure ⟨_, rfl, ?_⟩
    have hvals : ∀ {out : List Value} {rs : List (V × PyData)}, EachIs (fun u (b : V × PyData) => RelV b.1 u) out rs → Vals (rs.map Prod.fst) out := by
      intro out rs h
      induction h with
      | nil => exact .nil
      | cons r _ ih => exact .cons r ih
    obtain ⟨ep2, hat2⟩ := PyProof.Rows.sortedHeap_at (vs := as.map Value.ref) (out := out.toArray) hoL
    have kpA : ∀ b o, h'.get? b = some o → (sortedHeap (h'.push (seqObj "list" (as.map Value.ref).toArray 0)) h'.objs.size (as.map Value.ref) out.toArray).get? b = some o := fun b o z => by
      have lb := Heap.lt_size z
      rw [PyProof.Rows.sortedHeap_old (Nat.ne_of_lt lb) (Heap.lt_size (up2 b o z))]
      exact up2 b o z
    have pr : ∀ (j : Nat) (a : Addr) (q : V × V), as[j]? = some a → (kvP kvs)[j]? = some q → ∃ x y, RelV q.1 x ∧ RelV q.2 y ∧ IsPair (sortedHeap (h'.push (seqObj "list" (as.map Value.ref).toArray 0)) h'.objs.size (as.map Value.ref) out.toArray) a x y := fun j a q e1 e2 => by
      obtain ⟨key, k, x, f1, f2, f3⟩ := hG.pairs j a e1
      unfold kvP at e2
      rw [List.getElem?_map] at e2
      cases e3 : kvs[j]? with
      | none => rw [e3] at e2; cases e2
      | some kp =>
        rw [e3] at e2
        obtain rfl := Option.some.inj e2
        obtain ⟨qv, g1, g2, g3⟩ := LiI.paired_get kv e3
        rw [f1] at g1
        cases g1
        have rk : RelV (kV kp.1) key := by
          rw [g2]
          exact relV_key (show keyIs k key = true from f2)
        exact ⟨key, x, rk, g3, kpA _ _ f3⟩
    have ok : ObjOk X.prog X.w (upd (putP H1 as (kvP kvs)) h'.objs.size (.lst ((((as.map V.ref).zip (itemsV kvs ds)).mergeSort (dataLe false Prod.snd)).map Prod.fst))) (sortedHeap (h'.push (seqObj "list" (as.map Value.ref).toArray 0)) h'.objs.size (as.map Value.ref) out.toArray) h'.objs.size (.lst ((((as.map V.ref).zip (itemsV kvs ds)).mergeSort (dataLe false Prod.snd)).map Prod.fst)) :=
      ⟨by rw [List.length_map, List.length_mergeSort, lzz]; exact hz, out, ep2, hvals he', hat2⟩
    obtain ⟨n1, n2, J⟩ := laidG (tk := tk) I1 (fun b o z => kpA b o (up b o z)) hSl (fun z => Nat.lt_irrefl _ (there _ z)) nd abv len pr ok
    exact ⟨.ref _, _, J, rfl, q as _ _ len nd n2 n1 (fun z => Nat.lt_irrefl _ (there _ z)) rfl⟩
end
end Lx

namespace Ah
open PySem PySem.Spec PyProof.Rows L2 Lz
section
variable {L : La} {M : Amb} {n m : Nat} {H Hs H' : Hp} {σ : L2.St} {e : AEnv} {v : V} {a : A} {i : Nat}
/-! ## sorted(d.items()), told of data -/
def aSortItems (w : AW) : AW := fun e n q => w e n fun a m => ∃ mm, a.rd e = some (.dict (kvD mm)) ∧ PySem.W.AllAlike (itemsD mm) ∧ PySem.W.Sortable (itemsD mm) ∧ (∀ d ∈ itemsD mm, d.depth ≤ 50) ∧ PyData.hasDictAll (mm.map (·.2)) = false ∧ q (.ol (sortD (itemsD mm))) m
theorem itemsVD {K : PySem.W.Frag} {S : Addr → Prop} : ∀ {vs : List (Key × V)} {mm : KM}, Dkm K S H vs mm → Lx.itemsV vs (mm.map (·.2)) = itemsD mm
  | _, _, .nil => rfl
  | _, _, .cons (k := k) (d := d) (vs := vs) (m := m) _ b => by
    show PyData.tuple [kD k, d] :: Lx.itemsV vs (m.map (·.2)) = _
    rw [itemsVD b]; rfl
theorem ab_sortItems {t : TE} {w : AW} (h : AbE L t w) : AbE L (Lx.tSortItems L.K t) (aSortItems w) := by
  intro M n H σ e q Q l R hw p
  refine h M n H σ e _ _ l R hw fun v H1 a m h1 R1 k1 r1 => ?_
  obtain ⟨mm, e1, g1, g2, g3, g4, g5⟩ := h1
  obtain ⟨c, vs, rfl, c1, c2⟩ := (r1.rdv R1 e1).km
  obtain ⟨z1, z2⟩ := dkmZip c2
  have ev := itemsVD c2
  refine ⟨c, vs, mm.map (·.2), rfl, c1, l.1 ▸ Dzs.dp _ g4 z2, by rw [ev]; exact g1, by rw [ev]; exact g2, by rw [ev]; exact g3, fun ts S rs hl hn hne hS hSn hrs => ?_⟩
  have ek : kvP vs = (vs.map fun q => kV q.1).zip (vs.map fun q => q.2) := (zip_maps _ _ vs).symm
  have ed : itemsD mm = zipD (mm.map fun p => kD p.1) (mm.map fun p => p.2) := by
    unfold zipD
    rw [zip_maps, List.map_map]
    rfl
  rw [ek] at hl ⊢
  obtain ⟨R2, k2, z⟩ := zipRun ts R1 hl hn hne z1 z2
  rw [← ed] at z
  have hS2 : putP H1 ts ((vs.map fun q => kV q.1).zip (vs.map fun q => q.2)) S = none := by rw [putP_off _ _ _ hSn]; exact hS
  have lz := z.length
  rw [ev] at hrs
  have zz : Dzs M.K (M.S σ e) (putP H1 ts ((vs.map fun q => kV q.1).zip (vs.map fun q => q.2))) (rs.map Prod.fst) (rs.map Prod.snd) := dzsOf fun p hp => dzsZip z p (by rw [hrs] at hp; exact List.mem_mergeSort.mp hp)
  have es : rs.map Prod.snd = sortD (itemsD mm) := by
    rw [hrs]
    unfold sortD
    have e1 := PySem.W.sort_maps (r := PySem.W.dataLe false (Prod.snd (α := V))) (s := PySem.W.dataLe false id) Prod.snd (l := (ts.map V.ref).zip (itemsD mm)) (fun _ _ _ _ => rfl)
    rw [e1, List.map_snd_zip (by omega)]
  rw [es] at zz
  exact p.from R.ok (k1.trans k2) _ _ _ m g5 (R2.new hS2) (Kp.new hS2) (relNewL R2 hS2 zz)
end
end Ah

namespace Ah
open PySem PySem.Spec PyProof.Rows L2 Lz
/-! ## dict comprehensions -/
section
variable {L : La} {M : Amb} {n m : Nat} {H Hs H' : Hp} {σ : L2.St} {e : AEnv} {v : V} {a : A} {i : Nat}
theorem Dkm.map {K : PySem.W.Frag} {S S' : Addr → Prop} (hk : ∀ a o, ¬ S a → H a = some o → H' a = some o) (ht : ∀ a xs, SqT K H a xs → SqT K H' a xs) (hs : ∀ a, S' a → S a ∨ H a = none) : ∀ {vs : List (Key × V)} {mm : KM}, Dkm K S H vs mm → Dkm K S' H' vs mm
  | _, _, .nil => .nil
  | _, _, .cons a b => .cons (Dz.map hk ht hs a) (Dkm.map hk ht hs b)
theorem Dkm.step {S S' : Addr → Prop} {vs : List (Key × V)} {mm : KM} (O : M.Ok n H) (k : Kp M.hs H H') (hS : ∀ a ∈ M.hs, S a) (h : Dkm M.K S H vs mm) (hs : ∀ a, S' a → S a ∨ H a = none) : Dkm M.K S' H' vs mm :=
  Dkm.map (fun a o na e => k a o (fun z => na (hS a z)) e) (sqT_kp k O.loose) hs h
def aGoD (T : Tg) (wt : ATW) (wk wv : AW) (e0 : AEnv) (q : AQ) : List PyData → KM → Nat → Prop
  | [], acc, n => q (.od (kvD acc)) n
  | x :: r, acc, n => putT T x e0 fun e' => wt e' n fun b m => if b = true then wk e' m fun a k => wv e' k fun c k2 => ∃ xk key y, a = .d xk ∧ dK' xk = some key ∧ c.sto = some y ∧ acc.length < sizeLine ∧ aGoD T wt wk wv e0 q r (putM acc key y) k2 else aGoD T wt wk wv e0 q r acc m
def aDc (src : AIW) (T : Tg) (wt : ATW) (wk wv : AW) (vs : List Nat) : AW := fun e n q => src e n fun xs m => Hold (aGoD T wt wk wv (wipeA e vs) q xs [] m)
/-- the dict D otherwise filled -/
theorem Rep.blkPutK {D : Addr} {S : Addr → Prop} {P : List (V × PyData)} {us vs : List (Key × V)} (R : Rep (M.blk D S P) n H σ e) (hD : H D = some (.dK us)) (h0 : M.H0 D = none) (hS : ¬ S D) (sub : ∀ b, M.S σ e b → S b) :
    Rep (M.blk D S P) n (upd H D (.dK vs)) σ e := by
  have sD : (M.blk D S P).S σ e D := .inr (.inr (.inl rfl))
  have keep : ∀ b q, ¬ (M.blk D S P).S σ e b → H b = some q → upd H D (.dK vs) b = some q := fun b q hb hq => by
    rw [upd_ne (fun z => hb (by rw [z]; exact sD))]; exact hq
  have tup : ∀ b xs, SqT M.K H b xs → SqT M.K (upd H D (.dK vs)) b xs := fun b xs hb =>
    SqT.kp (ms := [D]) (Kp.put (by simp)) (fun q hq => by rw [List.mem_singleton.mp hq]; exact .dK hD) hb
  have dhs : D ∉ M.hs := fun z => hS (sub D (Amb.sub D z))
  have ne : ∀ {h}, h ∈ M.hs → h ≠ D := fun {h} hh z => dhs (by rw [← z]; exact hh)
  have own : ∀ b, OwnS σ e b → b ≠ D := fun b hb z => hS (by rw [← z]; exact sub b (.inl hb))
  refine ⟨R.len, fun i a ha => ?_, R.inj, ⟨fun h q => ?_, fun t ht => ?_⟩, R.kp.put0 h0, fun b hb => ?_, R.hs0, (fun z => by cases z), fun p hp => Dz.map keep tup (fun _ z => .inl z) (R.pin p hp)⟩
  · obtain ⟨v, h1, h2⟩ := R.slot i a ha
    refine ⟨v, h1, ?_⟩
    cases a with
    | d x => exact Dz.map keep tup (fun _ z => .inl z) h2
    | hd => exact h2
    | ol xs =>
      obtain ⟨b, vs, e1, e2, e3, e4⟩ := h2
      subst e1
      exact ⟨b, vs, rfl, e2, by rw [upd_ne (own b ⟨i, _, h1, ha, trivial⟩)]; exact e3, Dzs.map keep tup (fun _ z => .inl z) e4⟩
    | od xs =>
      obtain ⟨b, vs, e1, e2, e3, e4⟩ := h2
      subst e1
      exact ⟨b, vs, rfl, e2, by rw [upd_ne (own b ⟨i, _, h1, ha, trivial⟩)]; exact e3, Dzk.map keep tup (fun _ z => .inl z) e4⟩
    | ot w xs =>
      obtain ⟨b, vs, e1, e2, e3, e4⟩ := h2
      subst e1
      exact ⟨b, vs, rfl, e2, by rw [upd_ne (own b ⟨i, _, h1, ha, trivial⟩)]; exact e3, Dzt.map keep tup (fun _ z => .inl z) e4⟩
    | «at» i => exact h2
    | ty s => exact h2
    | rf _ _ _ => exact RfOk.map (fun d q e => by rw [upd_ne (fun z => dKNoCode hD q (by rw [← z]; exact e))]; exact e) keep tup (fun _ z => .inl z) h2
  · refine M.hp.keep (ms := [D]) (R.ok.hand h q) (Kp.put (by simp)) ?_ (one1 (Loose.dK hD))
    have : h ∈ M.hs := List.mem_append_left _ (by rw [show M.hand = some h from q]; exact List.mem_singleton.mpr rfl)
    simpa using ne this
  · refine TabX.keep (R.ok.tabs t ht) (ms := [D]) (Kp.put (by simp)) ?_ (one1 (dKNoCode hD))
    simpa using ne (List.mem_append_right _ ht)
  · by_cases h : b = D
    · rw [h, upd_same]; intro z; cases z
    · rw [upd_ne h]; exact R.s0 b hb
theorem ab_dc {wi : TI} {g : TG} {tt : TT} {tk te : TE} {w : AIW} {T : Tg} {wt : ATW} {wk wv : AW} {vs : List Nat} (hi : AbI L wi w) (hg : AbG L g T) (ht : AbT L tt wt) (hkk : AbE L tk wk) (hv : AbE L te wv) (hs' : (T.slots.all fun j => vs.contains j) = true) :
    AbE L (tDc wi g tt tk te vs) (aDc w T wt wk wv vs) := by
  have hs : ∀ j ∈ T.slots, j ∈ vs := fun j hj => by simpa using List.all_eq_true.mp hs' j hj
  intro M n H σ e q Q l R hw p
  refine hi M n H σ e _ _ l R hw fun J H1 xs m P0 h1 R1 k1 hP W => ?_
  replace h1 := unhold h1
  intro D hD
  have nS : ¬ M.S σ e D := R1.nS hD
  have h0 : M.H0 D = none := R1.kp.free hD fun z => nS (Amb.sub D z)
  have hsD : D ∉ M.hs := fun z => nS (Amb.sub D z)
  let B : Amb := M.blk D (M.S σ e) P0
  have lB : L.Of B := l
  have sub0 : ∀ b, M.S (wipe σ vs) (wipeA e vs) b → M.S σ e b := fun b z => by
    rcases z with z | z
    · exact .inl (ownWipe vs z)
    · exact .inr z
  have sl0 : ∀ (i : Nat) (a : A), (wipeA e vs)[i]? = some (some a) → ∃ v, (wipe σ vs)[i]? = some (some v) ∧ SlotOk M (M.S σ e) H1 v a := by
    suffices h : ∀ us : List Nat, ∀ (i : Nat) (a : A), (wipeA e us)[i]? = some (some a) → ∃ v, (wipe σ us)[i]? = some (some v) ∧ SlotOk M (M.S σ e) H1 v a from h vs
    intro us
    induction us with
    | nil => exact R1.slot
    | cons u us ih =>
      intro i a ha
      rw [wipeA] at ha
      rcases getSet ha with ⟨_, z, _⟩ | ⟨ni, ha⟩
      · cases z
      · obtain ⟨v, h1, h2⟩ := ih i a ha
        exact ⟨v, by rw [L2.wipe, setNe ni]; exact h1, h2⟩
  have RB : Rep B m (upd H1 D (.dK [])) (wipe σ vs) (wipeA e vs) := (R1.wipe vs).blk hD (fun b z => R1.there z) sub0 sl0 hP
  have weak : ∀ {H σ e n}, Rep B n H σ e → ∀ p ∈ P0, Dz M.K (fun _ => False) H p.1 p.2 := fun {H σ e n} R p hp => (R.pin p hp).weak fun _ z => z.elim
  have S' : ∀ {σ2 e2}, ∀ b, b = D ∨ M.S σ e b → B.S σ2 e2 b := fun b z => .inr (.inr z)
  refine ⟨fun i c H => c = xs.length - i ∧ i ≤ xs.length ∧ ∃ (n : Nat) (acc : KM) (us : List (Key × V)), Rep B n H (wipe σ vs) (wipeA e vs) ∧ Kp M.hs H1 H ∧ H D = some (.dK us) ∧ Dkm M.K (fun b => b = D ∨ M.S σ e b) H us acc ∧ aGoD T wt wk wv (wipeA e vs) q (xs.drop i) acc n,
    ⟨xs.length, rfl, Nat.zero_le _, m, [], [], RB, Kp.new hD, upd_same, .nil, h1⟩, ?_⟩
  rintro i c H2 ⟨rfl, hil, n2, acc, us, R2, k2, hD2, hz2, h2⟩
  by_cases hlt : i < xs.length
  · rw [List.drop_eq_getElem_cons hlt, aGoD] at h2
    refine .inr ⟨W.goes i H2 hlt (weak R2), fun H => ∃ (n : Nat) (acc : KM) (us : List (Key × V)), Rep B n H (wipe σ vs) (wipeA e vs) ∧ Kp M.hs H1 H ∧ H D = some (.dK us) ∧ Dkm M.K (fun b => b = D ∨ M.S σ e b) H us acc ∧ aGoD T wt wk wv (wipeA e vs) q (xs.drop (i + 1)) acc n,
      fun H' h => ⟨_, by omega, rfl, hlt, h⟩, fun x H3 y => ?_⟩
    obtain ⟨kk, yy⟩ := W.yields i H2 x H3 hlt (weak R2) y
    have R3 : Rep B n2 H3 (wipe σ vs) (wipeA e vs) := R2.step (kk.wide (by simp)) (R2.ok.kp0 kk)
    obtain ⟨dd, h3, h4⟩ := yy (B.S (wipe σ vs) (wipeA e vs)) (fun p hp => R2.pin p hp) fun b z => R2.there z
    rw [List.getElem?_eq_getElem hlt] at h3
    cases h3
    have hsB : ∀ b ∈ B.hs, (b = D ∨ M.S σ e b) := fun b z => .inr (Amb.sub b z)
    refine hg B n2 H3 _ _ x _ _ _ lB R3 h4 h2 fun σ4 e4 h5 R4 c4 s4 => ⟨wipeChg hs c4, ?_⟩
    refine ht B n2 H3 σ4 e4 _ _ lB R4 h5 fun b H5 m5 h6 R5 k5 => ?_
    have hD5 : H5 D = some (.dK us) := k5 D _ hsD (kk D _ (by simp) hD2)
    have hz5 : Dkm M.K (fun b => b = D ∨ M.S σ e b) H5 us acc := Dkm.step (M := B) R3.ok k5 hsB (Dkm.step (M := B) R2.ok (kk.wide (by simp) : Kp B.hs H2 H3) hsB hz2 fun _ z => .inl z) fun _ z => .inl z
    have k15 : Kp M.hs H1 H5 := (k2.trans (kk.wide (by simp))).trans k5
    have R35 : Rep B m5 H5 (wipe σ vs) (wipeA e vs) := R3.step k5 R5.ok
    cases b with
    | false => exact ⟨m5, acc, us, R35, k15, hD5, hz5, h6⟩
    | true =>
      refine hkk B m5 H5 σ4 e4 _ _ lB R5 h6 fun v1 H6 a1 m6 h7 R6 k6 r6 => ?_
      refine hv B m6 H6 σ4 e4 _ _ lB R6 h7 fun v H7 a m7 h8 R7 k7 r7 => ?_
      obtain ⟨xk, key, y, rfl, hkey, hy, hlen, h8⟩ := h8
      have ek : v1 = kV key := keyRel r6 hkey
      have zy : Dz M.K (fun b => b = D ∨ M.S σ e b) H7 v y := Dz.weak (r7.sto hy) fun b z => .inl (S' b z)
      have k67 : Kp M.hs H5 H7 := k6.trans k7
      have hD7 : H7 D = some (.dK us) := k67 D _ hsD hD5
      have hz7 : Dkm M.K (fun b => b = D ∨ M.S σ e b) H7 us acc := Dkm.step (M := B) R5.ok k67 hsB hz5 fun _ z => .inl z
      have R37 : Rep B m7 H7 (wipe σ vs) (wipeA e vs) := R35.step k67 R7.ok
      have keep : ∀ b q, ¬ (b = D ∨ M.S σ e b) → H7 b = some q → upd H7 D (.dK (putK us key v)) b = some q := fun b q hb hq => by
        rw [upd_ne (fun z => hb (.inl z))]; exact hq
      have tup : ∀ b xs, SqT M.K H7 b xs → SqT M.K (upd H7 D (.dK (putK us key v))) b xs := fun b xs hb =>
        SqT.kp (ms := [D]) (Kp.put (by simp)) (fun q hq => by rw [List.mem_singleton.mp hq]; exact .dK hD7) hb
      refine ⟨us, key, ek, hD7, by rw [hz7.length]; exact hlen, m7, putM acc key y, putK us key v, R37.blkPutK hD7 h0 nS sub0, (k15.trans k67).put0 hD, upd_same, ?_, h8⟩
      exact Dkm.put (Dz.map keep tup (fun _ z => .inl z) zy) (Dkm.map keep tup (fun _ z => .inl z) hz7)
  · have e0 : i = xs.length := by omega
    subst e0
    rw [List.drop_length, aGoD] at h2
    refine .inl ⟨W.stops H2 (weak R2), p.from R.ok k1 _ _ _ n2 h2 (R1.step k2 ⟨R2.ok.hand, R2.ok.tabs⟩) k2 ⟨D, us, rfl, hD, nS, hD2, hz2.dzk⟩⟩
end
theorem aGoD_ind {T : Tg} {wt : ATW} {wk wv : AW} {e0 : AEnv} {q : AQ} (G : List PyData → KM → Nat → Prop) (h0 : ∀ acc n, G [] acc n → q (.od (kvD acc)) n)
    (h1 : ∀ x r acc n, G (x :: r) acc n → (∀ acc n, G r acc n → aGoD T wt wk wv e0 q r acc n) → aGoD T wt wk wv e0 q (x :: r) acc n) : ∀ xs acc n, G xs acc n → aGoD T wt wk wv e0 q xs acc n
  | [], acc, n, h => by rw [aGoD]; exact h0 acc n h
  | x :: r, acc, n, h => h1 x r acc n h (aGoD_ind G h0 h1 r)
end Ah

namespace Ah
open PySem PySem.Spec PyProof.Rows L2 Lz
section
variable {L : La} {M : Amb} {n m : Nat} {H Hs H' : Hp} {σ : L2.St} {e : AEnv} {v : V} {a : A} {i : Nat}
/-! ## list(range(n)) -/
def aLstRg (w : AW) : AW := fun e n q => w e n fun a m => ∃ j : Int, a = .d (.int j) ∧ 0 ≤ j ∧ j ≤ 1000000 ∧ q (.ol (rngD 0 j.toNat)) m
theorem rgD : ∀ (k : Nat), Dzs (K := M.K) (M.S σ e) H ((List.range k).map fun i : Nat => V.int (0 + (i : Nat))) (rngD 0 k) := by
  intro k
  unfold rngD
  generalize List.range k = l
  induction l with
  | nil => exact .nil
  | cons a r ih => exact .cons (.int _) ih
theorem ab_listRg {t : TE} {w : AW} (h : AbE L t w) : AbE L (tLstRg (tRg1 t)) (aLstRg w) := by
  intro M n H σ e q Q l R hw p
  refine h M n H σ e _ _ l R hw fun v H1 a m h1 R1 k1 r1 => ?_
  obtain ⟨j, rfl, j0, j1, hq⟩ := h1
  refine ⟨j, relI r1, .of_le (by omega) (by omega) (by omega) (by omega), fun r hr => ?_⟩
  refine p.from R.ok k1 _ _ _ m hq (R1.new hr) (Kp.new hr) (relNewL R1 hr ?_)
  unfold rgV
  rw [show (j - 0).toNat = j.toNat by omega]
  exact rgD _
/-! ## found.append(left.pop(i)) -/
def aAppPop (i j : Nat) (w : AAW) : ASW := fun d e n => (∃ xs, e[i]? = some (some (.ol xs))) ∧ (∃ ys, e[j]? = some (some (.ol ys))) ∧ i ≠ j ∧ w e n fun as m => ∃ xs ys y jj k, as = [.d (.int jj)] ∧ e[j]? = some (some (.ol ys)) ∧ -(2 ^ 63) ≤ jj ∧ jj < 2 ^ 63 ∧ seqIndex? jj ys.length = some k ∧ ys[k]? = some y ∧
  e[i]? = some (some (.ol xs)) ∧ xs.length < sizeLine ∧ d.nx ((e.set j (some (.ol (ys.eraseIdx k)))).set i (some (.ol (xs ++ [y])))) m
theorem as_appPop {i j : Nat} {t : TA} {w : AAW} (h : AbA L t w) : AbS L (tDrop (tBM L.K "list" rAppend (tVar i) (tCons (tBM L.K "list" rPopAt (tVar j) t) tNil))) (aAppPop i j w) := by
  intro M n H σ e D d l R hw k
  obtain ⟨⟨xs0, e0⟩, ⟨ys0, f0⟩, nij, hw⟩ := hw
  obtain ⟨c, vs, g1, g2, g3, g4⟩ := R.ol e0
  obtain ⟨b, us, p1, p2, p3, p4⟩ := R.ol f0
  refine ⟨.ref c, g1, tyL g3, .ref b, p1, tyL p3, ?_⟩
  refine h M n H σ e _ _ l.1 R hw fun ws H1 as m h1 R1 k1 r1 => ?_
  obtain ⟨xs, ys, y, jj, kk, rfl, hj, b1, b2, b3, hy, hi, hlen, h1⟩ := h1
  obtain rfl := r1.ints1
  obtain ⟨b', us', p1', p2', p3', p4'⟩ := R1.ol hj
  rw [p1] at p1'; cases p1'
  obtain ⟨v, h2, h3⟩ := p4'.get' hy
  refine ⟨b, us', jj, kk, v, rfl, rfl, p3', b1, b2, by rw [p4'.length]; exact b3, h2, ?_⟩
  have R2 := R1.putL p1 hj p3' (p4'.eraseIdx kk)
  have hv : Dz M.K (M.S σ (e.set j (some (.ol (ys.eraseIdx kk))))) (upd H1 b (.lst (us'.eraseIdx kk))) v y := by
    refine Dz.map (fun q o hb hq => by rw [upd_ne (fun z => hb (by rw [z]; exact p2'))]; exact hq) (fun q xs hb => SqT.kp (ms := [b]) (Kp.put (by simp)) (fun q hq => by rw [List.mem_singleton.mp hq]; exact .lst p3') hb) (fun q z => .inl ?_) h3
    rcases z with z | z
    · obtain ⟨j', y, q1, q2, q3⟩ := z
      rcases getSet q2 with ⟨rfl, _, _⟩ | ⟨nj, q2⟩
      · exact .inl ⟨j', _, q1, hj, trivial⟩
      · exact .inl ⟨j', y, q1, q2, q3⟩
    · exact .inr z
  have hi2 : (e.set j (some (.ol (ys.eraseIdx kk))))[i]? = some (some (.ol xs)) := by rw [setNe nij]; exact hi
  obtain ⟨c', vs', g1', g2', g3', g4'⟩ := R2.ol hi2
  rw [g1] at g1'; cases g1'
  exact ⟨c, vs', v, rfl, rfl, g3', by rw [g4'.length]; exact hlen, k.nx _ _ _ _ h1 (R2.putL g1 hi2 g3' (Dzs.append g4' (.cons hv .nil)))⟩
/-! ## (*t, ..) -/
def aStar (w : AW) (r : AAW) : AAW := fun e n q => w e n fun a m => ∃ xs, a.rd e = some (.tuple xs) ∧ r e m fun bs k => q (xs.map A.d ++ bs) k
theorem RelRs.append {vs us : List V} {as bs : List A} (h : RelRs M (M.S σ e) Hs H σ e vs as) (h' : RelRs M (M.S σ e) Hs H σ e us bs) : RelRs M (M.S σ e) Hs H σ e (vs ++ us) (as ++ bs) := by
  induction h with
  | nil => exact h'
  | cons a _ ih => exact .cons a ih
theorem relsD {vs : List V} {xs : List PyData} (h : Dzs M.K (M.S σ e) H vs xs) : RelRs M (M.S σ e) Hs H σ e vs (xs.map A.d) := by
  induction xs generalizing vs with
  | nil => cases h; exact .nil
  | cons x r ih => cases h with | cons a b => exact .cons a (ih b)
theorem ab_star {t : TE} {w : AW} {r : TA} {x : AAW} (h : AbE L t w) (h' : AbA L r x) : AbA L (StX.tStar L.K t r) (aStar w x) := by
  intro M n H σ e q Q l R hw p
  refine h M n H σ e _ _ l R hw fun v H1 a m h1 R1 k1 r1 => ?_
  obtain ⟨xs, h2, h1⟩ := h1
  obtain ⟨c, us, rfl, c1, c2⟩ := (r1.rdv R1 h2).tuple
  refine ⟨c, us, rfl, .inl (l.1 ▸ c1), ?_⟩
  refine h' M m H1 σ e _ _ l R1 h1 fun ws H2 bs k g2 R2 k2 r2 => ?_
  have c2' : Dzs M.K (M.S σ e) H2 us xs := Dzs.step R1.ok k2 Amb.sub c2 fun _ z => .inl z
  refine p _ _ _ k g2 R2 (k1.trans k2) ((relsD c2').append ?_)
  clear g2 p
  induction r2 with
  | nil => exact .nil
  | cons a _ ih => exact .cons (a.from R.ok k1) ih
theorem stosStar : ∀ (xs : List PyData) {bs : List A} {ys : List PyData}, stos bs = some ys → stos (xs.map A.d ++ bs) = some (xs ++ ys)
  | [], _, _, h => h
  | x :: r, bs, ys, h => by
    show stos (A.d x :: (r.map A.d ++ bs)) = _
    rw [stos, stosStar r h]
    rfl
/-! ## l.index(x) -/
def aIndex (w x : AW) : AW := fun e n q => w e n fun a m => (∃ ds, a.sto = some (.list ds)) ∧ x e m fun b k => ∃ ds y j z, a.sto = some (.list ds) ∧ b.sto = some y ∧ SeqAt.shaped (.list ds) = true ∧ SeqAt.shaped y = true ∧ PyData.hasDictAll ds = false ∧ y.hasDict = false ∧
  ds[j]? = some z ∧ PyData.eqv z y = true ∧ (∀ (m : Nat) (z' : PyData), m < j → ds[m]? = some z' → PyData.eqv z' y = false) ∧ q (.d (.int (j : Nat))) k
theorem indexQ {X : Cx} (K : PySem.W.Frag) (hu : X.A.units + 65 < cLine) (hk : X.K = K := by rfl) : MtR X "list.index" (rIndexD K) := hk ▸ mt_indexD hu
theorem ab_index {t u : TE} {w x : AW} (h : AbE L t w) (h' : AbE L u x) : AbE L (tBM L.K "list" (rIndexD L.K) t (tCons u tNil)) (aIndex w x) := by
  intro M n H σ e q Q l R hw p
  refine h M n H σ e _ _ l R hw fun v H1 a m h1 R1 k1 r1 => ?_
  obtain ⟨⟨ds0, hd0⟩, h1⟩ := h1
  have z0 := r1.sto hd0
  obtain ⟨c, us, rfl, c1⟩ : ∃ c us, v = .ref c ∧ H1 c = some (.lst us) := by
    cases z0 with
    | lst a b c => exact ⟨_, _, rfl, b⟩
  refine ⟨tyL c1, ?_⟩
  refine h' M m H1 σ e _ _ l R1 h1 fun w2 H2 b k g2 R2 k2 r2 => ?_
  obtain ⟨ds, y, j, z, hd, hy, s1, s2, n1, n2, q1, q2, q3, hq⟩ := g2
  have zl : Dz M.K (M.S σ e) H2 (.ref c) (.list ds) := (r1.step R1.ok k2 R.ok.there).sto hd
  have zy : Dz M.K (M.S σ e) H2 w2 y := r2.sto hy
  refine ⟨c, w2, y, ds, j, z, rfl, rfl, ?_, ?_, s1, s2, q1, q2, q3, okE R2 (p.from R.ok (k1.trans k2)) hq (.int _)⟩
  · rw [← l.1]; exact Dz.dp _ (by simp only [PyData.hasDict]; exact n1) zl
  · rw [← l.1]; exact Dz.dp _ n2 zy
/-! ## a, b, c = x, y, z -/
def tPar3F (f1 f2 f3 : Bool) (i j l : Nat) (ta : TA) : TS := tPar3 i j l ta
def aPar3F (f1 f2 f3 : Bool) (i j l : Nat) (wa wb wc : AW) : ASW := fun d e n => wa e n fun a m => a.set ∧ wb e m fun b k => b.set ∧ wc e k fun c k2 => c.set ∧ d.nx (((e.set i (some (a.frzB f1))).set j (some (b.frzB f2))).set l (some (c.frzB f3))) k2
theorem as_par3F {f1 f2 f3 : Bool} {i j l : Nat} {ta tb tc : TE} {wa wb wc : AW} (h1 : AbE L ta wa) (h2 : AbE L tb wb) (h3 : AbE L tc wc) : AbS L (tPar3F f1 f2 f3 i j l (tCons ta (tCons tb (tCons tc tNil)))) (aPar3F f1 f2 f3 i j l wa wb wc) := by
  intro M n H σ e D d l R hw k
  refine h1 M n H σ e _ _ l.1 R hw fun v H1 a m g1 R1 k1 r1 => ?_
  obtain ⟨sa, g1⟩ := g1
  obtain ⟨r1, sa⟩ := relFrzB (f := f1) r1 sa
  generalize a.frzB f1 = a at r1 sa g1
  have Rm := Rep.more R k1 R1 r1.new
  refine h2 (M.more (newOf v a)) m H1 σ e _ _ l.1 Rm g1 fun w H2 b m2 g2 R2 k2 r2 => ?_
  obtain ⟨sb, g2⟩ := g2
  obtain ⟨r2, sb⟩ := relFrzB (f := f2) r2 sb
  generalize b.frzB f2 = b at r2 sb g2
  have Rm2 := Rep.more Rm k2 R2 r2.new
  refine h3 ((M.more (newOf v a)).more (newOf w b)) m2 H2 σ e _ _ l.1 Rm2 g2 fun u H3 c m3 g3 R3 k3 r3 => ?_
  obtain ⟨sc, g4⟩ := g3
  obtain ⟨r3, sc⟩ := relFrzB (f := f3) r3 sc
  have Ra1 := setOk (i := i) R k1 R1 r1 sa
  have O2 : M.Ok m2 H2 := ⟨R2.ok.hand, R2.ok.tabs⟩
  have Ra2 := Ra1.step k2 O2
  have Rb2 := setOk (i := j) Ra1 k2 Ra2 (RelR.conv (N := M.more (newOf v a)) rfl rfl r2 (fun b z => by
    rcases setSub z with z | z | z | z
    · exact .inr (.inr (.inl z))
    · exact .inl z
    · exact .inr (.inl z)
    · exact .inr (.inr (.inr z))) sb) sb
  have O3 : M.Ok m3 H3 := ⟨R3.ok.hand, R3.ok.tabs⟩
  have Rb3 := Rb2.step k3 O3
  refine ⟨v, w, u, rfl, k.nx _ _ _ _ g4 (setOk Rb2 k3 Rb3 ?_ sc)⟩
  refine RelR.conv (N := (M.more (newOf v a)).more (newOf w b)) rfl rfl r3 (fun b z => ?_) sc
  rcases setSub z with z | z
  · exact .inr (.inr (.inl z))
  · rcases setSub z with z | z | z | z
    · exact .inr (.inr (.inr (.inl z)))
    · exact .inl z
    · exact .inr (.inl z)
    · exact .inr (.inr (.inr (.inr z)))
end
end Ah

namespace Ah
open PySem PySem.Spec PyProof.Rows L2 Lz
section
variable {L : La} {M : Amb} {n m : Nat} {H Hs H' : Hp} {σ : L2.St} {e : AEnv} {v : V} {a : A} {i : Nat}
/-! ## [(k,) + d[k] for k in d], d of tuples -/
abbrev TM := List (Key × List PyData)
def TM.km (mm : TM) : KM := mm.map fun p => (p.1, .tuple p.2)
def aKeysAdd (j l : Nat) : AW := fun e n q => j ≠ l ∧ l < e.length ∧ ∃ (mm : TM) (a : A), e[j]? = some (some a) ∧ (a = .od (kvD mm.km) ∨ a = .d (.dict (kvD mm.km))) ∧ (mm.map (·.1)).Nodup ∧ (∀ p ∈ mm, p.2.length ≤ 1000) ∧ mm.length ≤ 1000 ∧ q (.ol (mm.map fun p => .tuple (kD p.1 :: p.2))) n
theorem sqtUnlock {K : PySem.W.Frag} {c b : Addr} {od : Obj} {vs : List (Key × V)} {xs : List V} (hc : H c = some (.frz od (.dK vs))) (h : SqT K H b xs) : SqT K (upd H c (.dK vs)) b xs := by
  rcases h with (h | ⟨o, h⟩) | h
  · have hn : b ≠ c := fun z => by rw [z, hc] at h; cases h
    exact .inl (.inl (by rw [upd_ne hn]; exact h))
  · have hn : b ≠ c := fun z => by rw [z, hc] at h; cases h
    exact .inl (.inr ⟨o, by rw [upd_ne hn]; exact h⟩)
  · exact .inr h
inductive KPr (K : PySem.W.Frag) (S : Addr → Prop) (H H' : Hp) : List V → TM → Prop
  | nil : KPr K S H H' [] []
  | cons {r : Addr} {ws : List V} {k : Key} {xs : List PyData} {us : List V} {mm : TM} : SqT K H' r (kV k :: ws) → Dzs K S H ws xs → KPr K S H H' us mm → KPr K S H H' (.ref r :: us) ((k, xs) :: mm)
theorem KPr.to {K : PySem.W.Frag} {S : Addr → Prop} {H H1 H2 : Hp} (h : ∀ r xs, SqT K H1 r xs → SqT K H2 r xs) : ∀ {us : List V} {mm : TM}, KPr K S H H1 us mm → KPr K S H H2 us mm
  | _, _, .nil => .nil
  | _, _, .cons a b c => .cons (h _ _ a) b (c.to h)
theorem KPr.snoc {K : PySem.W.Frag} {S : Addr → Prop} {H H' : Hp} {r : Addr} {ws : List V} {k : Key} {xs : List PyData} (h1 : SqT K H' r (kV k :: ws)) (h2 : Dzs K S H ws xs) : ∀ {us : List V} {mm : TM}, KPr K S H H' us mm → KPr K S H H' (us ++ [.ref r]) (mm ++ [(k, xs)])
  | _, _, .nil => .cons h1 h2 .nil
  | _, _, .cons a b c => .cons a b (KPr.snoc h1 h2 c)
theorem KPr.length {K : PySem.W.Frag} {S : Addr → Prop} {H H' : Hp} : ∀ {us : List V} {mm : TM}, KPr K S H H' us mm → us.length = mm.length
  | _, _, .nil => rfl
  | _, _, .cons _ _ c => by rw [List.length_cons, List.length_cons, c.length]
theorem KPr.dzs {K : PySem.W.Frag} {S S' : Addr → Prop} {H H' : Hp} (h : ∀ {ws xs}, Dzs K S H ws xs → Dzs K S' H' ws xs) : ∀ {us : List V} {mm : TM}, KPr K S H H' us mm → Dzs K S' H' us (mm.map fun p => .tuple (kD p.1 :: p.2))
  | _, _, .nil => .nil
  | _, _, .cons (k := k) a b c => .cons (.tup a (.cons (by cases k with | inl i => exact .int i | inr s => exact .str s) (h b))) (c.dzs h)
theorem dkmAt {K : PySem.W.Frag} {S : Addr → Prop} {k : Key} : ∀ {vs : List (Key × V)} {mm : TM} {i : Nat} {v : V}, Dkm K S H vs mm.km → vs[i]? = some (k, v) → ∃ xs, mm[i]? = some (k, xs) ∧ Dz K S H v (.tuple xs)
  | vs, [], i, v, h, hi => by
    have h' : Dkm K S H vs [] := h
    cases h'
    cases hi
  | vs, p :: mm, i, v, h, hi => by
    have h' : Dkm K S H vs ((p.1, .tuple p.2) :: TM.km mm) := h
    cases h' with
    | cons a b =>
      cases i with
      | zero => cases hi; exact ⟨p.2, rfl, a⟩
      | succ i => exact dkmAt (i := i) b hi
theorem valAt {k : Key} {v : V} : ∀ {vs : List (Key × V)} {i : Nat}, (vs.map (·.1)).Nodup → vs[i]? = some (k, v) → valV vs k = some v
  | [], i, _, h => by cases h
  | p :: vs, 0, hn, h => by
    cases h
    simp [valV, List.find?_cons]
  | p :: vs, i + 1, hn, h => by
    rw [List.map_cons, List.nodup_cons] at hn
    have hm : k ∈ vs.map (·.1) := List.mem_map.mpr ⟨(k, v), List.mem_of_getElem? h, rfl⟩
    have ne : p.1 ≠ k := fun z => hn.1 (by rw [z]; exact hm)
    have ih := valAt (i := i) hn.2 h
    unfold valV at ih ⊢
    rw [List.find?_cons, decide_eq_false ne]
    exact ih
theorem dkmKeys {K : PySem.W.Frag} {S : Addr → Prop} : ∀ {vs : List (Key × V)} {mm : KM}, Dkm K S H vs mm → vs.map (·.1) = mm.map (·.1)
  | _, _, .nil => rfl
  | _, _, .cons _ b => by rw [List.map_cons, List.map_cons, dkmKeys b]
theorem ab_keysAdd {j l : Nat} : AbE L (tLockE (tLc (iKeys (tVar j)) (gName l) tYes (tOp (rAddQ L.K) (tTup (tCons (tVar l) tNil)) (tDGet (tVar j) (tVar l))) [l])) (aKeysAdd j l) := by
  intro M n H σ e q Q lo R hw p
  obtain ⟨njl, hle, mm, a, ha, haa, hnd, hxl, hml, hq⟩ := hw
  have ll : l < σ.length := by rw [R.len]; exact hle
  obtain ⟨c, vs, hσ, hc, hk⟩ : ∃ c vs, σ[j]? = some (some (.ref c)) ∧ H c = some (.dK vs) ∧ Dkm M.K (M.S σ e) H vs mm.km := by
    obtain ⟨v, h1, h2⟩ := R.slot j a ha
    rcases haa with rfl | rfl
    · obtain ⟨c, vs, rfl, _, h4, h5⟩ := h2
      exact ⟨c, vs, h1, h4, Dkm.of h5⟩
    · have h2 : Dz M.K (M.S σ e) H v (.dict (kvD mm.km)) := h2
      obtain ⟨c, vs, e1, h4, h5⟩ := (show Rdv M.K (M.S σ e) H v (.dict (kvD mm.km)) from .inr (.inr h2)).km
      subst e1
      exact ⟨c, vs, h1, h4, h5⟩
  have hlen : vs.length = mm.length := by rw [hk.length]; exact List.length_map _
  have hkn : (vs.map (·.1)).Nodup := by
    rw [dkmKeys hk]
    unfold TM.km
    rw [List.map_map]
    exact hnd
  refine ⟨c, .dK vs, hc, trivial, fun od => ?_⟩
  have up0 : ∀ b xs, SqT M.K H b xs → SqT M.K (upd H c (.frz od (.dK vs))) b xs := fun b xs h => SqT.kp (ms := [c]) (Kp.put (by simp)) (fun m hm => by rw [List.mem_singleton.mp hm]; exact .dK hc) h
  refine ⟨.ref c, hσ, c, od, rfl, .inl ⟨vs, upd_same, ?_⟩⟩
  intro D hD
  have hDc : D ≠ c := fun z => by rw [z, upd_same] at hD; cases hD
  have hDH : H D = none := by rw [upd_ne hDc] at hD; exact hD
  generalize hH0 : upd H c (.frz od (.dK vs)) = H0 at *
  have hc0 : H0 c = some (.frz od (.dK vs)) := by rw [← hH0, upd_same]
  refine ⟨fun i k H' => k = vs.length - i ∧ i ≤ vs.length ∧ ∃ us, Kp [] H0 H' ∧ H' D = some (.lst us) ∧ KPr M.K (M.S σ e) H H' us (mm.take i), ⟨vs.length, rfl, Nat.zero_le _, [], Kp.new hD, upd_same, .nil⟩, ?_⟩
  rintro i k H' ⟨rfl, hi, us, kp, hD', hr⟩
  have hc' : H' c = some (.frz od (.dK vs)) := kp c _ (by simp) hc0
  by_cases hlt : i < vs.length
  · refine .inr ⟨⟨hc', hlt⟩, fun H'' => ∃ us, Kp [] H0 H'' ∧ H'' D = some (.lst us) ∧ KPr M.K (M.S σ e) H H'' us (mm.take (i + 1)), fun H'' h => ⟨_, by omega, rfl, hlt, h⟩, fun x H'' y => ?_⟩
    obtain ⟨eH, key, v, hv, ex⟩ := y
    have eH := eH.symm
    subst eH ex
    obtain ⟨xs, hmi, hz⟩ := dkmAt hk hv
    cases hz with
    | @tup b ws _ t1 t2 =>
      have lx : ws.length ≤ 1000 := by rw [t2.length]; exact hxl (key, xs) (List.mem_of_getElem? hmi)
      show wipe ((wipe σ [l]).set l (some (kV key))) [l] = wipe σ [l] ∧ _
      have hw : wipe ((wipe σ [l]).set l (some (kV key))) [l] = wipe σ [l] := by
        show (((σ.set l none).set l (some (kV key))).set l none) = σ.set l none
        rw [List.set_set, List.set_set]
      refine ⟨hw, ?_⟩
      have hl2 : ((wipe σ [l]).set l (some (kV key)))[l]? = some (some (kV key)) := setAt (by show l < (σ.set l none).length; rw [List.length_set]; exact ll)
      have hj2 : ((wipe σ [l]).set l (some (kV key)))[j]? = some (some (.ref c)) := by
        rw [setNe njl]
        show (σ.set l none)[j]? = _
        rw [setNe njl]; exact hσ
      refine ⟨kV key, hl2, by show 1 ≤ sizeLine; exact szLe rfl, fun p' hp' => ?_⟩
      refine ⟨.ref c, hj2, kV key, hl2, c, .ref b, rfl, ?_, ?_⟩
      · refine .inl ⟨vs, key, .inr ⟨od, ?_⟩, rfl, (valAt hkn hv).symm⟩
        rw [upd_ne (fun z => by rw [← z, hc'] at hp'; cases hp')]
        exact hc'
      · have tb : SqT M.K H' b ws := SqT.kp (ms := []) kp (fun m z => by cases z) (up0 b ws t1)
        have tb2 : SqT M.K (upd H' p' (.tup [kV key])) b ws := SqT.kp (ms := []) (Kp.new hp') (fun m z => by cases z) tb
        refine .inr (.inr (.inl ⟨p', b, [kV key], ws, rfl, rfl, SqT.of upd_same, lo.1 ▸ tb2, ?_, fun r H4 k4 hr4 => ?_⟩))
        · show 1 + ws.length ≤ sizeLine
          rw [sizeLine_eq]; omega
        · rw [← lo.1] at hr4
          have k14 : Kp [] H' H4 := (Kp.new hp').trans k4
          have hD4 : H4 D = some (.lst us) := k14 D _ (by simp) hD'
          have ul : us.length ≤ 1000 := by rw [hr.length, List.length_take]; omega
          have keepT : ∀ r xs, SqT M.K H4 r xs → SqT M.K (upd H4 D (.lst (us ++ [.ref r]))) r xs := fun r xs h => SqT.kp (ms := [D]) (Kp.put (by simp)) (fun m hm => by rw [List.mem_singleton.mp hm]; exact .lst hD4) h
          have keepT2 : ∀ r' xs, SqT M.K H4 r' xs → SqT M.K (upd H4 D (.lst (us ++ [.ref r]))) r' xs := fun r' xs h => SqT.kp (ms := [D]) (Kp.put (by simp)) (fun m hm => by rw [List.mem_singleton.mp hm]; exact .lst hD4) h
          refine ⟨us, hD4, by rw [sizeLine_eq]; omega, us ++ [.ref r], (kp.trans k14).put0 hD, upd_same, ?_⟩
          rw [List.take_add_one, hmi]
          exact KPr.snoc (keepT _ _ hr4) t2 ((hr.to fun r xs h => SqT.kp (ms := []) k14 (fun m z => by cases z) h).to keepT2)
  · have e0 : i = vs.length := by omega
    subst e0
    refine .inl ⟨⟨hc', Nat.le_refl _⟩, hc', ?_⟩
    have k1 : Kp [] H (upd H' c (.dK vs)) := fun b o _ hb => by
      by_cases z : b = c
      · rw [z, hc] at hb
        rw [z, upd_same]; exact hb
      · rw [upd_ne z]
        exact kp b o (by simp) (by rw [← hH0, upd_ne z]; exact hb)
    have k2 : Kp M.hs H (upd H' c (.dK vs)) := k1.wide (by simp)
    have hr' : KPr M.K (M.S σ e) H (upd H' c (.dK vs)) us mm := by
      rw [hlen, List.take_length] at hr
      exact hr.to fun r xs h => sqtUnlock hc' h
    refine p _ _ _ n hq (R.step k2 (R.ok.kp0 k1)) k2 ⟨D, us, rfl, hDH, R.nS hDH, by rw [upd_ne hDc]; exact hD', ?_⟩
    refine hr'.dzs fun {ws xs} h => Dzs.step R.ok k2 Amb.sub h fun b z => ?_
    rcases z with rfl | z
    · exact .inr hDH
    · exact .inl z
end
end Ah

namespace Ah
open PySem PySem.Spec PyProof.Rows L2 Lz
section
variable {L : La} {M : Amb} {n m : Nat} {H Hs H' : Hp} {σ : L2.St} {e : AEnv} {v : V} {a : A} {i : Nat}
/-! ## a, b, c = x, y, z by way of a tuple (one of the names is a cell); new lists and dicts stay the frame's own -/
def tAsgT3 (f1 f2 f3 : Bool) (te : TE) (g : TG) : TS := tAsg te g
def tAsgT2 (f1 f2 : Bool) (te : TE) (g : TG) : TS := tAsg te g
theorem as_asgT3 {f1 f2 f3 : Bool} {i j l : Nat} {ta tb tc : TE} {wa wb wc : AW} (h1 : AbE L ta wa) (h2 : AbE L tb wb) (h3 : AbE L tc wc) :
    AbS L (tAsgT3 f1 f2 f3 (tTup (tCons ta (tCons tb (tCons tc tNil)))) (gTup L.K 3 (gCons (gName i) (gCons (gName j) (gCons (gName l) gNil))))) (aPar3F f1 f2 f3 i j l wa wb wc) := by
  intro M n H σ e D d lo R hw k
  unfold tAsgT3 tAsg tTup
  refine h1 M n H σ e _ _ lo.1 R hw fun v H1 a m g1 R1 k1 r1 => ?_
  obtain ⟨sa, g1⟩ := g1
  obtain ⟨r1, sa⟩ := relFrzB (f := f1) r1 sa
  generalize a.frzB f1 = a at r1 sa g1
  have Rm := Rep.more R k1 R1 r1.new
  refine h2 (M.more (newOf v a)) m H1 σ e _ _ lo.1 Rm g1 fun w H2 b m2 g2 R2 k2 r2 => ?_
  obtain ⟨sb, g2⟩ := g2
  obtain ⟨r2, sb⟩ := relFrzB (f := f2) r2 sb
  generalize b.frzB f2 = b at r2 sb g2
  have Rm2 := Rep.more Rm k2 R2 r2.new
  refine h3 ((M.more (newOf v a)).more (newOf w b)) m2 H2 σ e _ _ lo.1 Rm2 g2 fun u H3 c m3 g3 R3 k3 r3 => ?_
  obtain ⟨sc, g4⟩ := g3
  obtain ⟨r3, sc⟩ := relFrzB (f := f3) r3 sc
  have Ra1 := setOk (i := i) R k1 R1 r1 sa
  have O2 : M.Ok m2 H2 := ⟨R2.ok.hand, R2.ok.tabs⟩
  have Ra2 := Ra1.step k2 O2
  have Rb2 := setOk (i := j) Ra1 k2 Ra2 (RelR.conv (N := M.more (newOf v a)) rfl rfl r2 (fun b z => by
    rcases setSub z with z | z | z | z
    · exact .inr (.inr (.inl z))
    · exact .inl z
    · exact .inr (.inl z)
    · exact .inr (.inr (.inr z))) sb) sb
  have O3 : M.Ok m3 H3 := ⟨R3.ok.hand, R3.ok.tabs⟩
  have Rb3 := Rb2.step k3 O3
  refine ⟨szLe rfl, fun p hp => ?_⟩
  refine ⟨p, [v, w, u], rfl, SqT.of upd_same, rfl, v, [w, u], rfl, w, [u], rfl, u, [], rfl, rfl, ?_⟩
  have k4 : Kp M.hs H3 (upd H3 p (.tup [v, w, u])) := Kp.new hp
  have Rb4 : Rep M m3 (upd H3 p (.tup [v, w, u])) ((σ.set i (some v)).set j (some w)) ((e.set i (some a)).set j (some b)) := Rb3.new hp
  have cv : RelR M (M.S ((σ.set i (some v)).set j (some w)) ((e.set i (some a)).set j (some b))) H2 H3 ((σ.set i (some v)).set j (some w)) ((e.set i (some a)).set j (some b)) u (c.frzB f3) := by
    refine RelR.conv (N := (M.more (newOf v a)).more (newOf w b)) rfl rfl r3 (fun b z => ?_) sc
    rcases setSub z with z | z
    · exact .inr (.inr (.inl z))
    · rcases setSub z with z | z | z | z
      · exact .inr (.inr (.inr (.inl z)))
      · exact .inl z
      · exact .inr (.inl z)
      · exact .inr (.inr (.inr (.inr z)))
  have kk3 : Kp M.hs H2 H3 := k3
  exact k.nx _ _ _ _ g4 (setOk Rb2 (kk3.trans k4) Rb4 (cv.step Rb3.ok k4 Rb2.ok.there) sc)
theorem as_asgT2 {f1 f2 : Bool} {i j : Nat} {ta tb : TE} {wa wb : AW} (h1 : AbE L ta wa) (h2 : AbE L tb wb) :
    AbS L (tAsgT2 f1 f2 (tTup (tCons ta (tCons tb tNil))) (gTup L.K 2 (gCons (gName i) (gCons (gName j) gNil)))) (aParF f1 f2 i j wa wb) := by
  intro M n H σ e D d lo R hw k
  unfold tAsgT2 tAsg tTup
  refine h1 M n H σ e _ _ lo.1 R hw fun v H1 a m g1 R1 k1 r1 => ?_
  obtain ⟨sa, g1⟩ := g1
  obtain ⟨r1, sa⟩ := relFrzB (f := f1) r1 sa
  generalize a.frzB f1 = a at r1 sa g1
  have Rm := Rep.more R k1 R1 r1.new
  refine h2 (M.more (newOf v a)) m H1 σ e _ _ lo.1 Rm g1 fun w H2 b m2 g2 R2 k2 r2 => ?_
  obtain ⟨sb, g3⟩ := g2
  obtain ⟨r2, sb⟩ := relFrzB (f := f2) r2 sb
  have Ra1 := setOk (i := i) R k1 R1 r1 sa
  have O2 : M.Ok m2 H2 := ⟨R2.ok.hand, R2.ok.tabs⟩
  have Ra2 := Ra1.step k2 O2
  refine ⟨szLe rfl, fun p hp => ?_⟩
  refine ⟨p, [v, w], rfl, SqT.of upd_same, rfl, v, [w], rfl, w, [], rfl, rfl, ?_⟩
  have k4 : Kp M.hs H2 (upd H2 p (.tup [v, w])) := Kp.new hp
  have Ra3 : Rep M m2 (upd H2 p (.tup [v, w])) (σ.set i (some v)) (e.set i (some a)) := Ra2.new hp
  have cv : RelR M (M.S (σ.set i (some v)) (e.set i (some a))) H1 H2 (σ.set i (some v)) (e.set i (some a)) w (b.frzB f2) := by
    refine RelR.conv (N := M.more (newOf v a)) rfl rfl r2 (fun b z => ?_) sb
    rcases setSub z with z | z | z | z
    · exact .inr (.inr (.inl z))
    · exact .inl z
    · exact .inr (.inl z)
    · exact .inr (.inr (.inr z))
  have kk2 : Kp M.hs H1 H2 := k2
  exact k.nx _ _ _ _ g3 (setOk Ra1 (kk2.trans k4) Ra3 (cv.step Ra2.ok k4 Ra1.ok.there) sb)
/-! ## maps by texts -/
abbrev AM (β : Type) := List (Str × β)
def AM.km {β : Type} (enc : β → PyData) (m : AM β) : KM := m.map fun p => (.inr p.1, enc p.2)
def AM.has {β : Type} (m : AM β) (z : Str) : Bool := m.any fun p => decide (p.1 = z)
def AM.put {β : Type} (m : AM β) (z : Str) (x : β) : AM β := if m.has z = true then m.map (fun p => if p.1 = z then (p.1, x) else p) else m ++ [(z, x)]
def AM.get {β : Type} (m : AM β) (z : Str) : Option β := (m.find? fun p => decide (p.1 = z)).map (·.2)
theorem keyDec (a z : Str) : decide ((.inr a : Key) = .inr z) = decide (a = z) := by
  by_cases h : a = z
  · rw [h, decide_eq_true rfl, decide_eq_true rfl]
  · rw [decide_eq_false h, decide_eq_false fun q => h (by injection q)]
theorem amHas {β : Type} (enc : β → PyData) (m : AM β) (z : Str) : ((m.km enc).any fun p => decide (p.1 = (.inr z : Key))) = m.has z := by
  unfold AM.km AM.has
  rw [List.any_map]
  congr 1
  funext p
  exact keyDec p.1 z
theorem amPut {β : Type} (enc : β → PyData) (m : AM β) (z : Str) (x : β) : putM (m.km enc) (.inr z) (enc x) = (m.put z x).km enc := by
  unfold putM AM.put
  rw [amHas]
  cases h : m.has z with
  | false =>
    rw [if_neg Bool.false_ne_true, if_neg Bool.false_ne_true]
    unfold AM.km
    rw [List.map_append]; rfl
  | true =>
    rw [if_pos rfl, if_pos rfl]
    unfold AM.km
    rw [List.map_map, List.map_map]
    refine List.map_congr_left fun p hp => ?_
    show (if (Sum.inr p.1 : Key) = .inr z then _ else _) = _
    by_cases h : p.1 = z
    · rw [if_pos (by rw [h])]
      show _ = ((Sum.inr (if p.1 = z then (p.1, x) else p).1 : Key), enc (if p.1 = z then (p.1, x) else p).2)
      rw [if_pos h]
    · rw [if_neg (fun q => h (by injection q))]
      show _ = ((Sum.inr (if p.1 = z then (p.1, x) else p).1 : Key), enc (if p.1 = z then (p.1, x) else p).2)
      rw [if_neg h]
theorem amVal {β : Type} (enc : β → PyData) (m : AM β) (z : Str) : valM (m.km enc) (.inr z) = (m.get z).map enc := by
  unfold valM AM.get AM.km
  rw [List.find?_map]
  have e : ((fun p : Key × PyData => decide (p.1 = (.inr z : Key))) ∘ fun p : Str × β => ((.inr p.1 : Key), enc p.2)) = fun p => decide (p.1 = z) := by
    funext p
    exact keyDec p.1 z
  rw [e]
  cases m.find? fun p => decide (p.1 = z) <;> rfl
theorem amKeys {β : Type} (m : AM β) (z : Str) (x : β) (h : m.has z = true) : (m.put z x).map (·.1) = m.map (·.1) := by
  unfold AM.put
  rw [if_pos h, List.map_map]
  refine List.map_congr_left fun p _ => ?_
  show (if p.1 = z then (p.1, x) else p).1 = p.1
  split <;> rfl
theorem amHasMem {β : Type} {m : AM β} {z : Str} : m.has z = true ↔ z ∈ m.map (·.1) := by
  unfold AM.has
  rw [List.any_eq_true]
  constructor
  · rintro ⟨p, hp, e⟩
    exact List.mem_map.mpr ⟨p, hp, of_decide_eq_true e⟩
  · intro h
    obtain ⟨p, hp, e⟩ := List.mem_map.mp h
    exact ⟨p, hp, decide_eq_true e⟩
theorem amNodup {β : Type} {m : AM β} (h : (m.map (·.1)).Nodup) (z : Str) (x : β) : ((m.put z x).map (·.1)).Nodup := by
  cases hz : m.has z with
  | true => rw [amKeys m z x hz]; exact h
  | false =>
    unfold AM.put
    rw [hz, if_neg Bool.false_ne_true, List.map_append]
    refine List.nodup_append.mpr ⟨h, by simp, fun a ha b hb => ?_⟩
    have : b = z := by simpa using hb
    subst this
    intro e
    subst e
    rw [amHasMem.mpr ha] at hz
    cases hz
theorem amPutP {β : Type} {m : AM β} {z : Str} {x : β} {P : Str × β → Prop} (h : ∀ p ∈ m, P p) (hx : P (z, x)) : ∀ p ∈ m.put z x, P p := by
  intro p hp
  unfold AM.put at hp
  split at hp
  · obtain ⟨r, hr, rfl⟩ := List.mem_map.mp hp
    by_cases hz : r.1 = z
    · rw [if_pos hz, hz]; exact hx
    · rw [if_neg hz]; exact h r hr
  · rcases List.mem_append.mp hp with hp | hp
    · exact h p hp
    · rw [List.mem_singleton.mp hp]; exact hx
theorem amPutMem {β : Type} {m : AM β} {z : Str} {x : β} : (z, x) ∈ m.put z x := by
  unfold AM.put
  split
  · rename_i h
    obtain ⟨p, hp, e⟩ := List.mem_map.mp (amHasMem.mp h)
    exact List.mem_map.mpr ⟨p, hp, by rw [if_pos e, e]⟩
  · exact List.mem_append_right _ (List.mem_singleton.mpr rfl)
theorem amPutLen {β : Type} (m : AM β) (z : Str) (x : β) : (m.put z x).length ≤ m.length + 1 := by
  unfold AM.put
  split
  · rw [List.length_map]; omega
  · rw [List.length_append, List.length_singleton]; omega
theorem amGet {β : Type} {m : AM β} (h : (m.map (·.1)).Nodup) {z : Str} {x : β} (hm : (z, x) ∈ m) : m.get z = some x := by
  unfold AM.get
  induction m with
  | nil => cases hm
  | cons p r ih =>
    rw [List.map_cons, List.nodup_cons] at h
    rw [List.find?_cons]
    rcases List.mem_cons.mp hm with e | hm
    · subst e
      rw [decide_eq_true rfl]; rfl
    · have ne : p.1 ≠ z := fun e => h.1 (by rw [e]; exact List.mem_map.mpr ⟨(z, x), hm, rfl⟩)
      rw [decide_eq_false ne]
      exact ih h.2 hm
theorem amGetMem {β : Type} {m : AM β} {z : Str} {x : β} (h : m.get z = some x) : (z, x) ∈ m := by
  unfold AM.get at h
  cases hf : m.find? fun p => decide (p.1 = z) with
  | none => rw [hf] at h; cases h
  | some p =>
    rw [hf] at h
    have h2 := List.find?_some hf
    have h3 : p.1 = z := of_decide_eq_true h2
    have h4 : p.2 = x := Option.some.inj h
    rw [← h3, ← h4]
    exact List.mem_of_find?_eq_some hf
theorem amItems {β : Type} (enc : β → PyData) (m : AM β) : itemsD (m.km enc) = m.map fun p => .tuple [.str p.1, enc p.2] := by
  unfold itemsD AM.km
  rw [List.map_map]
  rfl
/-- what is sorted is made of a list in another order -/
theorem sortMap {α : Type} (f : α → PyData) (m : List α) : ∃ m' : List α, m'.Perm m ∧ sortD (m.map f) = m'.map f := by
  refine ⟨m.mergeSort fun a b => PySem.W.dataLe false id (f a) (f b), List.mergeSort_perm _ _, ?_⟩
  unfold sortD
  exact (PySem.W.sort_maps (r := fun a b => PySem.W.dataLe false id (f a) (f b)) (s := PySem.W.dataLe false id) f (fun _ _ _ _ => rfl)).symm
end
end Ah

namespace Ah
open PySem PySem.Spec PyProof.Rows L2
/-! ## built-ins with the written part said: they may stand in a comprehension -/
section
variable {X : Cx}
theorem lenQ (K : PySem.W.Frag) (hk : X.K = K := by rfl) : CallR X (.builtin "len") (fun xs H Q => ∃ x n, xs = [x] ∧ LenV K x H n ∧ Q (.int n) H) := hk ▸ call_len
theorem listQ (K : PySem.W.Frag) (hk : X.K = K := by rfl) : CallR X (.type "list") (fun xs H Q => ∃ p ys, xs = [.ref p] ∧ (SqL K H p ys ∨ SqT K H p ys) ∧ ∀ l, H l = none → Q (.ref l) (upd H l (.lst ys))) := hk ▸ call_list_of
theorem tupQ (K : PySem.W.Frag) (hk : X.K = K := by rfl) : CallR X (.type "tuple") (fun xs H Q => ∃ p ys, xs = [.ref p] ∧ ((SqL K H p ys ∧ ∀ l, H l = none → Q (.ref l) (upd H l (.tup ys))) ∨ (SqT K H p ys ∧ Q (.ref p) H))) := hk ▸ call_tuple_of
theorem typQ (K : PySem.W.Frag) (hk : X.K = K := by rfl) : CallR X (.type "type") (rTyp K) := hk ▸ call_type1
theorem isiQ (K : PySem.W.Frag) (hk : X.K = K := by rfl) : CallR X (.builtin "isinstance") (rIsi K) := hk ▸ call_isi
theorem reprQ (K : PySem.W.Frag) (hg : X.A.guards = some []) (hu : X.A.units + 64 < cLine) (hk : X.K = K := by rfl) : CallR X (.builtin "repr") (rReprY K) := hk ▸ call_reprY hg hu
end
end Ah

namespace Ah
open PySem PySem.Spec PyProof.Rows L2
section
variable {L : La}
def fMax2 : List A → AW := fun as _ n q => ∃ i j : Int, as = [.d (.int i), .d (.int j)] ∧ q (.d (.int (if j > i then j else i))) n
theorem cb_max2 : CbA L (fun xs H Q => ∃ i j, xs = [V.int i, V.int j] ∧ Q (V.int (if j > i then j else i)) H) fMax2 := by
  intro M n H Hs σ e vs as q Q l R ra h p
  obtain ⟨i, j, rfl, h4⟩ := h
  obtain ⟨v, w, rfl, r1, r2⟩ := rels2 ra
  cases r1
  cases r2
  exact ⟨i, j, rfl, okE R p h4 (.int _)⟩
end
end Ah

namespace Ah
open PySem PySem.Spec PyProof.Rows L2
/-! ## statements that leave the first slot as it is -/
structure EOkK (v0 : Option V) (M : Amb) (D : Ends) (d : AD) : Prop where
  nx : ∀ σ e H n, σ[0]? = some v0 → d.nx e n → Rep M n H σ e → D.nx σ H
  bk : ∀ σ e H n, σ[0]? = some v0 → d.bk e n → Rep M n H σ e → D.bk σ H
  ct : ∀ σ e H n, σ[0]? = some v0 → d.ct e n → Rep M n H σ e → D.ct σ H
  rt : ∀ v H a n, d.rt a n → Kp M.hs M.H0 H → M.Ok n H → RetOk M M.H0 H v a → D.rt v H
def AbSK (L : La) (t : TS) (w : ASW) : Prop := ∀ v0 M n H σ e D d, L.Of M ∧ M.st = true → σ[0]? = some v0 → Rep M n H σ e → w d e n → EOkK v0 M D d → t D σ H
section
variable {L : La} {i : Nat}
theorem sk_next : AbSK L tNext aNext := fun v0 M n H σ e D d l hv R h k => k.nx _ _ _ _ hv h R
theorem sk_seq {t u : TS} {w x : ASW} (h : AbSK L t w) (h' : AbSK L u x) : AbSK L (tSeq t u) (aSeq w x) := by
  intro v0 M n H σ e D d l hv R hw k
  unfold aSeq at hw
  exact h v0 M n H σ e _ _ l hv R hw ⟨fun σ' e' H' n' hv' q R' => h' v0 M n' H' σ' e' D d l hv' R' q k, k.bk, k.ct, k.rt⟩
theorem sk_ret {t : TE} {w : AW} (h : AbE L t w) : AbSK L (tRet t) (aRet w) := by
  intro v0 M n H σ e D d l hv R hw k
  exact h M n H σ e _ _ l.1 R hw fun v H1 a m h1 R1 k1 r1 => k.rt _ _ _ _ h1.2 R1.kp R1.ok (retOf R R1 r1 h1.1)
theorem sk_if {c : TT} {t u : TS} {w : ATW} {x y : ASW} (hc : AbT L c w) (ht : AbSK L t x) (hu : AbSK L u y) : AbSK L (tIfS c t u) (aIfS w x y) := by
  intro v0 M n H σ e D d l hv R hw k
  refine hc M n H σ e _ _ l.1 R hw fun b H1 m h1 R1 k1 => ?_
  cases b with
  | true => exact ht v0 M m H1 σ e D d l hv R1 h1 k
  | false => exact hu v0 M m H1 σ e D d l hv R1 h1 k
theorem keep0 {σ : L2.St} {v0 : Option V} {x : Option V} (hi : i ≠ 0) (hv : σ[0]? = some v0) : (σ.set i x)[0]? = some v0 := by
  rw [List.getElem?_set, if_neg hi]; exact hv
theorem sk_setF {t : TE} {w : AW} (hi : i ≠ 0) (h : AbE L t w) : AbSK L (tAsgF t (gName i)) (aSetF i w) := by
  intro v0 M n H σ e D d l hv R hw k
  refine h M n H σ e _ _ l.1 R hw fun v H1 a m h1 R1 k1 r1 => ?_
  show D.nx _ _
  obtain ⟨ha, h1⟩ := h1
  obtain ⟨r2, ha2⟩ := relFrz r1 ha
  exact k.nx _ _ _ _ (keep0 hi hv) h1 (setOk R k1 R1 r2 ha2)
theorem sk_for {wi : TI} {tb : TS} {w : AIW} {T : Tg} {wb : ASW} (i0 : i ≠ 0) (hi : AbI L wi w) (hg : AbG L (gName i) T) (hb : AbSK L tb wb) : AbSK L (tFor wi (gName i) tb) (aFor w T wb) := by
  intro v0 M n H σ e D d l hv R hw k
  refine hi M n H σ e _ _ l.1 R hw fun J H1 xs m P0 h1 R1 k1 hP W => ?_
  replace h1 := unhold h1
  have weak : ∀ {H σ e n}, Rep (M.pin P0) n H σ e → ∀ p ∈ P0, Dz M.K (fun _ => False) H p.1 p.2 := fun {H σ e n} R p hp => (R.pin p (List.mem_append_left _ hp)).weak fun _ z => z.elim
  refine ⟨fun i c σ H => c = xs.length - i ∧ i ≤ xs.length ∧ σ[0]? = some v0 ∧ ∃ e n, Rep (M.pin P0) n H σ e ∧ aLoop T wb d (xs.drop i) e n, ⟨xs.length, rfl, Nat.zero_le _, hv, e, m, R1.pinned hP, h1⟩, ?_⟩
  rintro j c σ2 H2 ⟨rfl, hj, hv2, e2, n2, R2, h2⟩
  by_cases hlt : j < xs.length
  · rw [List.drop_eq_getElem_cons hlt, aLoop] at h2
    refine .inr ⟨W.goes j H2 hlt (weak R2), fun σ H => σ[0]? = some v0 ∧ ∃ e n, Rep (M.pin P0) n H σ e ∧ aLoop T wb d (xs.drop (j + 1)) e n, fun σ' H' h => ⟨_, by omega, rfl, hlt, h⟩, fun x H3 y => ?_⟩
    obtain ⟨kk, yy⟩ := W.yields j H2 x H3 hlt (weak R2) y
    have R3 : Rep (M.pin P0) n2 H3 σ2 e2 := R2.step (kk.wide (by simp)) (R2.ok.kp0 kk)
    obtain ⟨dd, h3, h4⟩ := yy ((M.pin P0).S σ2 e2) (fun p hp => R2.pin p (List.mem_append_left _ hp)) fun b z => R2.there z
    rw [List.getElem?_eq_getElem hlt] at h3
    cases h3
    have step := hg (M.pin P0) n2 H3 σ2 e2 x _ _ (fun σ4 H4 => σ4 = σ2.set i (some x) → tb { D with nx := fun σ H => σ[0]? = some v0 ∧ ∃ e n, Rep (M.pin P0) n H σ e ∧ aLoop T wb d (xs.drop (j + 1)) e n, ct := fun σ H => σ[0]? = some v0 ∧ ∃ e n, Rep (M.pin P0) n H σ e ∧ aLoop T wb d (xs.drop (j + 1)) e n, bk := D.nx } σ4 H4) l.1 R3 h4 h2 fun σ4 e4 h5 R4 _ _ e0 => by
      subst e0
      refine hb v0 (M.pin P0) n2 H3 _ e4 _ _ l (keep0 i0 hv2) R4 h5 ⟨fun σ' e' H' n' hv' h R' => ⟨hv', e', n', R', h⟩, fun σ' e' H' n' hv' h R' => k.nx _ _ _ _ hv' h R'.unpinned, fun σ' e' H' n' hv' h R' => ⟨hv', e', n', R', h⟩, fun v H' a n' h k' O' r' => ?_⟩
      refine k.rt v H' a n' h k' ⟨O'.hand, O'.tabs⟩ ?_
      cases a <;> exact r'
    exact step rfl
  · have e0 : j = xs.length := by omega
    subst e0
    rw [List.drop_length, aLoop] at h2
    exact .inl ⟨W.stops H2 (weak R2), k.nx _ _ _ _ hv2 h2 R2.unpinned⟩
theorem skRun {t : TS} {w : ASW} {v0 : Option V} {M : Amb} {n : Nat} {H : Hp} {σ : L2.St} {e : AEnv} {D : Ends} {d : AD} (h : AbSK L t w) (l : L.Of M ∧ M.st = true) (hv : σ[0]? = some v0) (R : Rep M n H σ e) (go : w d e n) (k : EOkK v0 M D d) : t D σ H :=
  h v0 M n H σ e D d l hv R go k
end
end Ah

namespace Ah
open PySem PySem.Spec PyProof.Rows L2 Lz
/-! ## d.update(d2), d2 new -/
def rUpd : V → List V → Hp → VK → Prop := fun x xs H Q => ∃ (a b : Addr) (kvs more : List (Key × V)), x = .ref a ∧ xs = [.ref b] ∧ H a = some (.dK kvs) ∧ H b = some (.dK more) ∧ a ≠ b ∧ kvs.length + more.length ≤ sizeLine ∧ Q .non (upd H a (.dK (mergeK kvs more)))
theorem mt_update {X : Cx} : MtR X "dict.update" rUpd := by
  intro pins s σ H x xs v us Q I rx rs h
  obtain ⟨a, b, kvs, more, rfl, rfl, e1, e2, ne, hl, q⟩ := h
  cases rx
  rw [Vals.ref1 rs]
  obtain ⟨z, hd, vs, rel, dd⟩ := dk_of I.hok e1
  obtain ⟨z2, hd2, vs2, rel2, dd2⟩ := dk_of I.hok e2
  refine call_meetsIn PySem.F.slot_dict_update dd.typeIs PySem.F.entry_dict_update (PySem.F.args_dict_update_2 _ _) (meets_dict_update (mixKind X.prog X.w) a b ne hd2) ⟨vs, vs2, dd, dd2, by rw [← rel.length, ← rel2.length]; exact hl, fun h' dd' dd2' hs => ?_⟩
  have hl2 : (mergeK kvs more).length ≤ sizeLine := Nat.le_trans (length_mergeK more kvs) hl
  have he : ∃ q, h'.get? a = some q := let ⟨q, _, _, hq, _⟩ := dd'; ⟨q, hq⟩
  exact ⟨.non, _, d_write (t' := s.toks) I (by rw [e1]; exact True.intro) hs he (dk_new hl2 hd (KV.merge rel2 rel) dd'), rfl, q⟩
section
variable {L : La} {M : Amb} {n m : Nat} {H Hs H' : Hp} {σ : L2.St} {e : AEnv} {v : V} {a : A} {i : Nat}
def aUpd (i : Nat) (w : AAW) : ASW := fun d e n => (∃ mm, e[i]? = some (some (.od (kvD mm)))) ∧ w e n fun as m => ∃ mm more, as = [.od (kvD more)] ∧ e[i]? = some (some (.od (kvD mm))) ∧ mm.length + more.length ≤ sizeLine ∧ d.nx (e.set i (some (.od (kvD (mergeM mm more))))) m
theorem as_update {t : TA} {w : AAW} (h : AbA L t w) : AbS L (tDrop (tBM L.K "dict" rUpd (tVar i) t)) (aUpd i w) := by
  intro M n H σ e D d l R hw k
  obtain ⟨⟨mm0, h0⟩, hw⟩ := hw
  obtain ⟨c, vs, g1, g2, g3, g4⟩ := R.od h0
  refine ⟨.ref c, g1, .inr (.inr (.inl ⟨rfl, .inl ⟨_, g3⟩⟩)), h M n H σ e _ _ l.1 R hw fun us H1 as m h1 R1 k1 r1 => ?_⟩
  obtain ⟨mm, more, rfl, hx, hlen, h1⟩ := h1
  obtain ⟨v, rfl, b, ws, rfl, b1, b2, b3, b4⟩ := rels1 r1
  obtain ⟨c', vs', g1', g2', g3', g4'⟩ := R1.od hx
  rw [g1] at g1'; cases g1'
  have ne : c ≠ b := fun z => b2 (by rw [← z]; exact g2)
  have km : Dkm M.K (fun q => q = b ∨ M.S σ e q) H1 ws more := Dkm.of b4
  refine ⟨c, b, vs', ws, rfl, rfl, g3', b3, ne, by rw [g4'.length, km.length]; exact hlen, k.nx _ _ _ _ h1 (R1.putK g1 hx g3' (Dkm.merge ?_ g4').dzk)⟩
  exact Dkm.of (b4.weak fun q z => .inl (.inr z))
/-! ## len(set(l)), l a list of tuples of whole numbers -/
def tLenSetT (K : PySem.W.Frag) (ta : TE) : TE := fun σ H Q => ta σ H fun x H1 => ∃ (l : Addr) (ks : List (Addr × List Int)), x = V.ref l ∧ SqL K H1 l (ks.map fun p => V.ref p.1) ∧ (∀ p ∈ ks, SqT K H1 p.1 (p.2.map V.int)) ∧ ks.length < 64 ∧ (ks.map (·.2)).Nodup ∧ Q (.int (ks.length : Nat)) H1
theorem pe_lenSetT {X : Cx} {a : Expr} {ta : TE} {p p2 q pos : Pos} (hu : X.A.units + 65 < cLine) (hg : Gl X "len") (hm : X.mg "len" = none) (hg2 : Gl X "set") (hm2 : X.mg "set" = none) (ha : PE X a ta) (hc : X.calm = true := by rfl)
    (na : starEach [a] X.env = (false, eval a X.env) :: starEach [] X.env := by rfl) : PE X (.Call (.Name "len" p) [.Call (.Name "set" p2) [a] [] q] [] pos) (tLenSetT X.K ta) := by
  refine ⟨fun pins s σ H Q I h => ?_⟩
  refine Call_ (ld_blt I hg hm PySem.boot_len ?_)
  refine PyProof.Rows.callWith_builtin1 (PyProof.Rows.args_cons ?_ rfl) rfl rfl
  refine Call_ (ld_blt I hg2 hm2 PyProof.Rows.boot_set ?_)
  refine PyProof.Rows.callWith_type1 (PyProof.Rows.args_cons (thn (ha.run pins s σ H _ I h) fun v s1 ⟨x, H1, I1, r1, q1⟩ => PyProof.Rows.args_nil ?_) na) na rfl
  obtain ⟨l, ks, rfl, hq, hk, hf, hnd, q1⟩ := q1
  cases r1
  obtain ⟨its, rv, pl, hz⟩ := I1.list hq
  refine call_set_tups (P := X.prog) (w := X.w) ks (I1.ok.hd hc) pl.isList (by simpa using refs_of_vals rv) (fun p hp => I1.isT (hk p hp)) hf (by omega) fun h' tk L es ep t R g k => ?_
  refine PyProof.Rows.args_nil ?_
  obtain ⟨o, ho, hex, hd⟩ := R.ob
  have hsz : es.size = ks.length := by
    rw [SetTR.size (s := { s1 with heap := h', toks := tk }) R]
    have pm : (L.map (·.2)).Perm (ks.map (·.2)) := by
      refine (List.perm_ext_iff_of_nodup R.nd hnd).mpr fun z => ⟨fun hz => ?_, fun hz => ?_⟩
      · obtain ⟨p, hp, rfl⟩ := List.mem_map.mp hz
        exact List.mem_map.mpr ⟨p, List.mem_of_mem_take (g.sub p hp), rfl⟩
      · obtain ⟨p, hp, rfl⟩ := List.mem_map.mp hz
        exact g.all p (by rw [List.take_length]; exact hp)
    have := pm.length_eq
    rw [List.length_map, List.length_map] at this
    exact this
  have I2 : Inv X pins σ H1 { s1 with heap := h', toks := tk } := I1.kept k
  refine call_len_set ho hex hd (SetTR.fits (s := { s1 with heap := h', toks := tk }) R) (by omega) ⟨.int ks.length, H1, I2.tok _, ⟨_, by rw [hsz]⟩, q1⟩
def placeI (ks : List Int) : PyData := .tuple (ks.map PyData.int)
def aLenSetT (w : AW) : AW := fun e n q => w e n fun a m => ∃ kss : List (List Int), a.rd e = some (.list (kss.map placeI)) ∧ kss.length < 64 ∧ kss.Nodup ∧ q (.d (.int (kss.length : Nat))) m
theorem intsV {K : PySem.W.Frag} {S : Addr → Prop} : ∀ {ks : List Int} {us : List V}, Dzs K S H us (ks.map PyData.int) → us = ks.map V.int
  | [], us, h => by cases h; rfl
  | k :: ks, us, h => by
    rw [List.map_cons] at h
    cases h with
    | cons a b => cases a; rw [List.map_cons, ← intsV b]
theorem placesV {K : PySem.W.Frag} {S : Addr → Prop} : ∀ {kss : List (List Int)} {us : List V}, Dzs K S H us (kss.map placeI) → ∃ ks : List (Addr × List Int), us = ks.map (fun p => V.ref p.1) ∧ (∀ p ∈ ks, SqT K H p.1 (p.2.map V.int)) ∧ ks.map (·.2) = kss
  | [], us, h => by cases h; exact ⟨[], rfl, by simp, rfl⟩
  | z :: kss, us, h => by
    rw [List.map_cons] at h
    cases h with
    | cons a b =>
      obtain ⟨ks, rfl, h2, h3⟩ := placesV b
      unfold placeI at a
      cases a with
      | @tup c xs _ a1 a2 =>
        obtain rfl := intsV a2
        refine ⟨(c, z) :: ks, rfl, fun p hp => ?_, by rw [List.map_cons, h3]⟩
        rcases List.mem_cons.mp hp with rfl | hp
        · exact a1
        · exact h2 p hp
theorem ab_lenSetT {t : TE} {w : AW} (h : AbE L t w) : AbE L (tLenSetT L.K t) (aLenSetT w) := by
  intro M n H σ e q Q l R hw p
  refine h M n H σ e _ _ l R hw fun v H1 a m h1 R1 k1 r1 => ?_
  obtain ⟨kss, h2, h3, h4, hq⟩ := h1
  obtain ⟨c, us, rfl, c1, c2⟩ := (r1.rdv R1 h2).list
  obtain ⟨ks, rfl, g2, rfl⟩ := placesV c2
  rw [List.length_map] at h3 hq
  exact ⟨c, ks, rfl, SqL.of c1, fun p hp => l.1 ▸ g2 p hp, h3, h4, okE R1 (p.from R.ok k1) hq (.int _)⟩
end
end Ah

namespace Ah
open PySem PySem.Spec PyProof.Rows L2 Lz
section
variable {X : Cx}
/-! ## x = {k: v for ..} -/
theorem sw_trueD {kx vx : Expr} {gs : List Comprehension} {scope : Scope} {pos py : Pos} {y : Str} {l : Nat} {env : Env} (hk : env.scope.kind = .function) (hy : env.scope.names.lookup y = some .local) (hl : (py.line == pos.line) = true)
    (ha : (scope.names.any fun (n, k) => n == y && (k == .local || k == .cell)) = false) : swapsWith (.DictComp kx vx gs scope pos) (some (.Name y py)) l env = pure true := by
  have ky : env.kindOf y = some .local := hy
  have hb : env.blockKind = .function := by unfold Env.blockKind; rw [hk]; rfl
  unfold swapsWith
  simp only [hb, ky, ha, Expr.pos, hl]
  rfl
theorem ps_setDc {i : Nat} {y : Str} {py : Pos} {kx vx tg iter : Expr} {ifs : List Expr} {scope : Scope} {own : List (Str × Nat)} {pos spos : Pos} {wi : TI} {g : TG} {tt : TT} {tk tv : TE} (hc : X.calm = true) (hN : X.N.Nodup) (hy : X.N[i]? = some y) (hyl : X.env.scope.names.lookup y = some .local)
    (hsw : swapsWith (.DictComp kx vx [⟨tg, iter, ifs, 0⟩] scope pos) (some (.Name y py)) spos.line X.env = pure true) (hi : PI X tg iter wi) (ok : BlkOk X.N X.env.scope scope own)
    (hg : ∀ (s : Shared) (H : Hp) (C : Addr) (cl : List (Str × Addr)) (fp : List Addr), PG (X.blk s H scope (compEnvC scope cl C X.env) fp) tg g) (ht : ∀ (s : Shared) (H : Hp) (C : Addr) (cl : List (Str × Addr)) (fp : List Addr), PTs (X.blk s H scope (compEnvC scope cl C X.env) fp) ifs tt)
    (hk : ∀ (s : Shared) (H : Hp) (C : Addr) (cl : List (Str × Addr)) (fp : List Addr), PE (X.blk s H scope (compEnvC scope cl C X.env) fp) kx tk)
    (he : ∀ (s : Shared) (H : Hp) (C : Addr) (cl : List (Str × Addr)) (fp : List Addr), PE (X.blk s H scope (compEnvC scope cl C X.env) fp) vx tv) (hs : ∀ x, foldedSetIterable iter X.env x = pure x := by intro _; rfl) :
    PS X (.Assign [.Name y py] (.DictComp kx vx [⟨tg, iter, ifs, 0⟩] scope pos) spos) (tAsg (tDc wi g tt tk tv (own.map (·.2))) (gName i)) := by
  refine ⟨fun pins s σ H D I h => ?_⟩
  rw [exec_Assign_Name_used _ _ _ _ hsw]
  refine wpAny_bind (wpAny_standAt (wpAny_bind ?_))
  show wpAny _ X.A (do let _ ← comprehension (.DictComp kx vx [⟨tg, iter, ifs, 0⟩] scope pos) scope X.env (firstIterPos [⟨tg, iter, ifs, 0⟩] pos) newDict false (eval iter X.env) (some (assign (.Name y py) X.env))) _ _ s
  have h : tDc wi g tt tk tv (own.map (·.2)) σ H (fun x H1 => gName i x σ H1 D.nx) := h
  refine wpAny_bind (thn (dc_core (Qf := fun _ s' => SP X pins D .next s') hc hN I hi ok hg ht hk he hs h fun L C s' m H' I' q hn f => ?_) fun _ s' hq => wpAny_pure (wpAny_pure hq))
  show wpAny _ _ (assign (.Name y py) X.env (.ref L)) _ _ _
  refine wpAny_assign_Name (store_ok2 (v := V.ref L) I' hN hy (.inl hyl) rfl (fun s2 I2 ⟨a, sb, ha⟩ => ?_) (.inr hyl))
  obtain ⟨f0, f1, f2, f3, f4, f5⟩ := f
  have haC : C ≠ a := by
    rcases ha with z | z
    · rw [z]; exact f1
    · exact fun e => f4 y a z e.symm
  refine ⟨m, hn.sameBut sb haC, fun h3 sb3 => ?_⟩
  exact ⟨_, H', I2.turned (t' := s2.toks) (fun b o hb e => (sb3.2 b hb).trans e) f0 f1 f3 f4 f5, q⟩
/-- (*t, ..) with the written part said -/
theorem paStar (K : PySem.W.Frag) {e : Expr} {es : List Expr} {te : TE} {t : TA} {p : Pos} (he : PE X e te) (hr : PA X es t) (hk : X.K = K := by rfl) (hs : starEach (.Starred e p :: es) X.env = (true, eval e X.env) :: starEach es X.env := by rfl) : PA X (.Starred e p :: es) (StX.tStar K te t) := hk ▸ StX.pa_star he hr hs
/-- x.m(..) with the written part said -/
theorem pe_bmQ (K : PySem.W.Frag) {o e : Expr} {es : List Expr} {name : Str} {id T : String} {to : TE} {t : TA} {r : V → List V → Hp → VK → Prop} {apos cpos : Pos} (pa : PlainAttrs T) (slot : Slot T name id) (hty : typeOf (.builtin id) = pure (.type "method_descriptor")) (hm : MtR X id r) (ho : PE X o to) (ha : PA X (e :: es) t) (hk : X.K = K := by rfl)
    (hbase : attributeBase o name X.env (eval o X.env) = eval o X.env := by rfl)
    (hfew : ((backTo cpos (starEach (e :: es) X.env)).all (fun x => !x.1) && (backToKw cpos (keywordEach [] X.env)).all (fun x => x.1.isSome) && decide ((e :: es).length + ([] : List Keyword).length + (if ([] : List Keyword).isEmpty then 0 else 1) < 30)) = true := by rfl)
    (hline : (apos.endLine == cpos.line) = true := by rfl) (hs : starEach (e :: es) X.env = (false, eval e X.env) :: starEach es X.env := by rfl) (hplain : (backTo cpos (starEach es X.env)).any (·.1) = false := by rfl) :
    PE X (.Call (.Attribute o name apos) (e :: es) [] cpos) (tBM K T r to t) := hk ▸ pe_bm pa slot hty hm ho ha hbase hfew hline hs hplain
theorem pi_anyQ (K : PySem.W.Frag) {tg l : Expr} {t : TE} (hl : PE X l t) (hk : X.K = K := by rfl) : PI X tg l (iAny K t) := hk ▸ pi_any hl
/-- a comprehension within a comprehension: the names around are the outer one's -/
theorem relabelled {env : Env} : ∀ {names : List (Str × NameKind)} {x : Str}, names.lookup x = some .cell ∨ names.lookup x = some .free →
    (names.map fun (n, k) => if (k == NameKind.free && env.scope.kind == .function && env.kindOf n == some .cell) then (n, NameKind.cell) else (n, k)).lookup x = some .cell ∨
    (names.map fun (n, k) => if (k == NameKind.free && env.scope.kind == .function && env.kindOf n == some .cell) then (n, NameKind.cell) else (n, k)).lookup x = some .free
  | [], x, h => by rcases h with h | h <;> cases h
  | (n, k) :: r, x, h => by
    have ih := @relabelled env r x
    rw [List.map_cons]
    by_cases hx : (x == n) = true
    · have e : ∀ k', (List.lookup x ((n, k') :: r)) = some k' := fun k' => by rw [List.lookup_cons, hx]
      rw [e k] at h
      have e2 : ∀ (k' : NameKind) (r' : List (Str × NameKind)), List.lookup x ((n, k') :: r') = some k' := fun k' r' => by rw [List.lookup_cons, hx]
      dsimp only
      split
      · exact .inl (e2 _ _)
      · rw [e2]
        exact h
    · have hx' : (x == n) = false := by simpa using hx
      have e2 : ∀ (k' : NameKind) (r' : List (Str × NameKind)), List.lookup x ((n, k') :: r') = List.lookup x r' := fun k' r' => by rw [List.lookup_cons, hx']
      rw [e2] at h
      dsimp only
      split
      · rw [e2]; exact ih h
      · rw [e2]; exact ih h
theorem blkIn {N : List Str} {s : Shared} {H : Hp} {scope scope2 : Scope} {cl : List (Str × Addr)} {C : Addr} {fp : List Addr} {own : List (Str × Nat)} (h : blkC N scope scope2 own = true) (hN : X.N = N := by rfl) :
    BlkOk (X.blk s H scope (compEnvC scope cl C X.env) fp).N (X.blk s H scope (compEnvC scope cl C X.env) fp).env.scope scope2 own := by
  have b : BlkOk N scope scope2 own := blkOk_by h
  subst hN
  exact ⟨b.kind, b.uniq, b.ix, fun y hy e => relabelled (b.free y hy e), b.own⟩
end
end Ah

namespace Ah
open PySem PySem.Spec PyProof.Rows L2 Lz
section
variable {L : La} {i : Nat}
theorem sk_parF {f1 f2 : Bool} {j : Nat} {ta tb : TE} {wa wb : AW} (i0 : i ≠ 0) (j0 : j ≠ 0) (h1 : AbE L ta wa) (h2 : AbE L tb wb) : AbSK L (tParF f1 f2 i j (tCons ta (tCons tb tNil))) (aParF f1 f2 i j wa wb) := by
  intro v0 M n H σ e D d l hv R hw k
  refine h1 M n H σ e _ _ l.1 R hw fun v H1 a m g1 R1 k1 r1 => ?_
  obtain ⟨sa, g1⟩ := g1
  obtain ⟨r1, sa⟩ := relFrzB (f := f1) r1 sa
  generalize a.frzB f1 = a at r1 sa g1
  have Rm := Rep.more R k1 R1 r1.new
  refine h2 (M.more (newOf v a)) m H1 σ e _ _ l.1 Rm g1 fun w H2 b m2 g2 R2 k2 r2 => ?_
  obtain ⟨sb, g3⟩ := g2
  obtain ⟨r2, sb⟩ := relFrzB (f := f2) r2 sb
  have Ra1 := setOk (i := i) R k1 R1 r1 sa
  have O2 : M.Ok m2 H2 := ⟨R2.ok.hand, R2.ok.tabs⟩
  have Ra2 := Ra1.step k2 O2
  refine ⟨v, w, rfl, k.nx _ _ _ _ (keep0 j0 (keep0 i0 hv)) g3 (setOk Ra1 k2 Ra2 ?_ sb)⟩
  refine RelR.conv (N := M.more (newOf v a)) rfl rfl r2 (fun b z => ?_) sb
  rcases setSub z with z | z | z | z
  · exact .inr (.inr (.inl z))
  · exact .inl z
  · exact .inr (.inl z)
  · exact .inr (.inr (.inr z))
theorem sk_set {t : TE} {w : AW} (i0 : i ≠ 0) (h : AbE L t w) : AbSK L (tAsg t (gName i)) (aSet i w) := by
  intro v0 M n H σ e D d l hv R hw k
  refine h M n H σ e _ _ l.1 R hw fun v H1 a m h1 R1 k1 r1 => ?_
  show D.nx _ _
  obtain ⟨ha, h1⟩ := h1
  refine k.nx _ _ _ _ (keep0 i0 hv) h1 ?_
  cases a with
  | d x => exact R1.setD r1
  | hd => exact R1.setHd r1
  | ol xs =>
    obtain ⟨a, vs, e1, e2, e3, e4, e5⟩ := r1
    exact Rep.setO R k1 R1 e1 e2 e3 trivial ⟨a, vs, e1, R.kp.free e2 (fun z => e3 (Amb.sub a z)), e4, e5⟩
  | od xs =>
    obtain ⟨a, vs, e1, e2, e3, e4, e5⟩ := r1
    exact Rep.setO R k1 R1 e1 e2 e3 trivial ⟨a, vs, e1, R.kp.free e2 (fun z => e3 (Amb.sub a z)), e4, e5⟩
  | ot w xs =>
    obtain ⟨a, vs, e1, e2, e3, e4, e5⟩ := r1
    exact Rep.setO R k1 R1 e1 e2 e3 trivial ⟨a, vs, e1, R.kp.free e2 (fun z => e3 (Amb.sub a z)), e4, e5⟩
  | «at» i => exact ha.elim
  | ty s => exact ha.elim
  | rf _ _ _ => exact ha.elim
theorem sk_append {t : TA} {w : AAW} (h : AbA L t w) : AbSK L (tDrop (tBM L.K "list" rAppend (tVar i) t)) (fun d e n => (∃ xs, e[i]? = some (some (.ol xs))) ∧ aApp i w d e n) := by
  intro v0 M n H σ e D d l hv R hw k
  obtain ⟨⟨xs0, h0⟩, hw⟩ := hw
  obtain ⟨c, vs, g1, g2, g3, g4⟩ := R.ol h0
  refine ⟨.ref c, g1, tyL g3, h M n H σ e _ _ l.1 R hw fun us H1 as m h1 R1 k1 r1 => ?_⟩
  obtain ⟨a, y, xs, rfl, hy, hx, hlen, h1⟩ := h1
  obtain ⟨v, rfl, r⟩ := rels1 r1
  obtain ⟨c', vs', g1', g2', g3', g4'⟩ := R1.ol hx
  rw [g1] at g1'; cases g1'
  refine ⟨c, vs', v, rfl, rfl, g3', by rw [g4'.length]; exact hlen, k.nx _ _ _ _ hv h1 (R1.putL g1 hx g3' (Dzs.append g4' (.cons (r.sto hy) .nil)))⟩
theorem sk_forG {wi : TI} {g : TG} {tb : TS} {w : AIW} {T : Tg} {wb : ASW} (i0 : T.slots.contains 0 = false) (hi : AbI L wi w) (hg : AbG L g T) (hb : AbSK L tb wb) : AbSK L (tFor wi g tb) (aFor w T wb) := by
  intro v0 M n H σ e D d l hv R hw k
  refine hi M n H σ e _ _ l.1 R hw fun J H1 xs m P0 h1 R1 k1 hP W => ?_
  replace h1 := unhold h1
  have weak : ∀ {H σ e n}, Rep (M.pin P0) n H σ e → ∀ p ∈ P0, Dz M.K (fun _ => False) H p.1 p.2 := fun {H σ e n} R p hp => (R.pin p (List.mem_append_left _ hp)).weak fun _ z => z.elim
  refine ⟨fun i c σ H => c = xs.length - i ∧ i ≤ xs.length ∧ σ[0]? = some v0 ∧ ∃ e n, Rep (M.pin P0) n H σ e ∧ aLoop T wb d (xs.drop i) e n, ⟨xs.length, rfl, Nat.zero_le _, hv, e, m, R1.pinned hP, h1⟩, ?_⟩
  rintro j c σ2 H2 ⟨rfl, hj, hv2, e2, n2, R2, h2⟩
  by_cases hlt : j < xs.length
  · rw [List.drop_eq_getElem_cons hlt, aLoop] at h2
    refine .inr ⟨W.goes j H2 hlt (weak R2), fun σ H => σ[0]? = some v0 ∧ ∃ e n, Rep (M.pin P0) n H σ e ∧ aLoop T wb d (xs.drop (j + 1)) e n, fun σ' H' h => ⟨_, by omega, rfl, hlt, h⟩, fun x H3 y => ?_⟩
    obtain ⟨kk, yy⟩ := W.yields j H2 x H3 hlt (weak R2) y
    have R3 : Rep (M.pin P0) n2 H3 σ2 e2 := R2.step (kk.wide (by simp)) (R2.ok.kp0 kk)
    obtain ⟨dd, h3, h4⟩ := yy ((M.pin P0).S σ2 e2) (fun p hp => R2.pin p (List.mem_append_left _ hp)) fun b z => R2.there z
    rw [List.getElem?_eq_getElem hlt] at h3
    cases h3
    refine hg (M.pin P0) n2 H3 σ2 e2 x _ _ _ l.1 R3 h4 h2 fun σ4 e4 h5 R4 c4 _ => ?_
    have n0 : 0 ∉ T.slots := fun z => by simp [z] at i0
    refine hb v0 (M.pin P0) n2 H3 _ e4 _ _ l ((c4.2 0 n0).trans hv2) R4 h5 ⟨fun σ' e' H' n' hv' h R' => ⟨hv', e', n', R', h⟩, fun σ' e' H' n' hv' h R' => k.nx _ _ _ _ hv' h R'.unpinned, fun σ' e' H' n' hv' h R' => ⟨hv', e', n', R', h⟩, fun v H' a n' h k' O' r' => ?_⟩
    refine k.rt v H' a n' h k' ⟨O'.hand, O'.tabs⟩ ?_
    cases a <;> exact r'
  · have e0 : j = xs.length := by omega
    subst e0
    rw [List.drop_length, aLoop] at h2
    exact .inl ⟨W.stops H2 (weak R2), k.nx _ _ _ _ hv2 h2 R2.unpinned⟩
theorem sk_frz {t : TS} {w : ASW} (h : AbSK L t w) : AbSK L (tFrz i t) (aFrz i w) := fun v0 M n H σ e D d l hv R hw k => h v0 M n H σ _ D d l hv (R.frz l.2) hw k
end
end Ah

namespace Ah
open PySem PySem.Spec PyProof.Rows L2 Lz
theorem minQ {X : Cx} (K : PySem.W.Frag) (hc : X.calm = true) (hk : X.K = K := by rfl) : CallR X (.builtin "min") (rMin K) := hk ▸ cr_min hc
section
variable {L : La}
/-! ## min of a list of whole numbers; int of a truth -/
def fMinL : List A → AW := fun as e n q => ∃ (a : A) (is : List Int), as = [a] ∧ a.rd e = some (.list (is.map PyData.int)) ∧ 0 < is.length ∧ ∀ m, m ∈ is → (∀ y, y ∈ is → m ≤ y) → q (.d (.int m)) n
theorem cb_minL : CbA L (rMin L.K) fMinL := by
  intro M n H Hs σ e vs as q Q l R ra h p
  obtain ⟨a, is, rfl, h1, h2, h4⟩ := h
  obtain ⟨v, rfl, r⟩ := rels1 ra
  obtain ⟨c, us, rfl, c1, c2⟩ := (r.rdv R h1).list
  obtain rfl := intsV c2
  exact ⟨c, is, rfl, SqL.of c1, h2, fun m hm hl => okE R p (h4 m hm hl) (.int _)⟩
def fIntB : List A → AW := fun as _ n q => ∃ b : Bool, as = [.d (.bool b)] ∧ q (.d (.int (if b then 1 else 0))) n
theorem cb_intB : CbA L (fun xs H Q => (∃ i, xs = [V.int i] ∧ Q (V.int i) H) ∨ ∃ k, xs = [V.bl k] ∧ Q (V.int (if k then 1 else 0)) H) fIntB := by
  intro M n H Hs σ e vs as q Q l R ra h p
  obtain ⟨b, rfl, h4⟩ := h
  obtain ⟨v, rfl, r⟩ := rels1 ra
  cases r
  exact .inr ⟨b, rfl, okE R p h4 (.int _)⟩
end
end Ah

/-! dicts by tuples of numbers and texts: the rules, then the lifts -/
namespace Ah
open PySem PySem.Spec PyProof.Rows L2
/-- the dict at a: its entries, their keys' tuples there -/
def XAt (w : World) (K : PySem.W.Frag) (H : Hp) (a : Addr) (xs : List (List Key × Addr × Value)) : Prop := H a = some (dTX w a xs) ∧ ∀ x ∈ xs, SqT K H x.2.1 (x.1.map kV)
section
variable {X : Cx} {pins : List (Addr × Obj)} {σ : L2.St} {H : Hp} {s : Shared} {a b : Addr} {xs : List (List Key × Addr × Value)} {k : List Key} {A : Around} {E : Value → Shared → Prop}
theorem key_ofS {ks : List Key} (I : Inv X pins σ H s) (e : SqT X.K H b (ks.map kV)) : (tupleKind (mixKind X.prog X.w)).is s.heap ks b := by
  rcases e with e | ⟨o, its, n, h1, h2, h3, _, r⟩
  · obtain ⟨_, its, r, o, h1, h2, n, h3⟩ := (show ObjOk X.prog X.w H s.heap b (.tup (ks.map kV)) from e.ok I.hok)
    exact ⟨o, its.toArray, n, h1, h2, h3, by simpa using items_are r⟩
  · exact ⟨o, its, n, I.kIn b o h1, h2, h3, items_are r⟩
theorem x_of (I : Inv X pins σ H s) (h : XAt X.w X.K H a xs) : (a == sysModules) = false ∧ xs.length ≤ sizeLine ∧ s.heap.DictOfH (tupleKind (mixKind X.prog X.w)) a xs := by
  obtain ⟨⟨z, hl, P, o, es, ep, h1, h2, h3, h4, h5⟩, _⟩ := (show ObjOk X.prog X.w H s.heap a (dTX X.w a xs) from I.hok a _ h.1)
  exact ⟨z, hl, o, es, ep, h1, h2, h3, h4, fun x hx => key_ofS I (h.2 x hx), h5⟩
theorem dTX_new {P : Program} {w : World} {H' : Hp} {h' : Heap} (z : (a == sysModules) = false) (hl : xs.length ≤ sizeLine) (dd : h'.DictOfH (tupleKind (mixKind P w)) a xs) : ObjOk P w H' h' a (dTX w a xs) := by
  obtain ⟨o, es, ep, h1, h2, h3, h4, _, h5⟩ := dd
  exact ⟨⟨z, hl, P, o, es, ep, h1, h2, h3, h4, h5⟩, ⟨o, h1⟩, fun g1 g2 ⟨z, hl, P, o, es, ep, q1, q2⟩ st => ⟨z, hl, P, o, es, ep, st _ q1, q2⟩⟩
theorem x_getItem {p : Addr × Value} {Q : Value → Shared → Prop} (hu : A.units + 1 < cLine) (I : Inv X pins σ H s) (g : XAt X.w X.K H a xs) (hk : SqT X.K H b (k.map kV)) (hp : atKey xs k = some p) (h : ∀ s', Inv X pins σ H s' → Q p.2 s') :
    wpAny (model X.prog X.w) A (getItem (.ref a) (.ref b)) Q E s := by
  obtain ⟨_, _, dd⟩ := x_of I g
  exact wpAny_getItem_heap (tupleKind_room_in1 hu) (key_ofS I hk) dd hp (h _ (I.tok _))
theorem x_in {Q : Value → Shared → Prop} (hu : A.units + 1 < cLine) (I : Inv X pins σ H s) (g : XAt X.w X.K H a xs) (hk : SqT X.K H b (k.map kV)) (h : ∀ s', Inv X pins σ H s' → Q (.bool (atKey xs k).isSome) s') :
    wpAny (model X.prog X.w) A (compareOp .In (.ref b) (.ref a)) Q E s := by
  obtain ⟨hd, _, dd⟩ := x_of I g
  exact wpAny_in_heap (tupleKind_room_in1 hu) (key_ofS I hk) hd dd (h _ (I.tok _))
theorem x_notIn {Q : Value → Shared → Prop} (hu : A.units + 1 < cLine) (I : Inv X pins σ H s) (g : XAt X.w X.K H a xs) (hk : SqT X.K H b (k.map kV)) (h : ∀ s', Inv X pins σ H s' → Q (.bool (!(atKey xs k).isSome)) s') :
    wpAny (model X.prog X.w) A (compareOp .NotIn (.ref b) (.ref a)) Q E s := by
  obtain ⟨hd, _, dd⟩ := x_of I g
  exact wpAny_notIn_heap (tupleKind_room_in1 hu) (key_ofS I hk) hd dd (h _ (I.tok _))
theorem x_get1 {Q : Value → Shared → Prop} (hu : A.units + 1 < cLine) (I : Inv X pins σ H s) (g : XAt X.w X.K H a xs) (hk : SqT X.K H b (k.map kV)) (h : ∀ s', Inv X pins σ H s' → Q (((atKey xs k).map (·.2)).getD .none) s') :
    wpAny (model X.prog X.w) A (call (.builtin "dict.get") [.ref a, .ref b]) Q E s := by
  obtain ⟨hd, _, dd⟩ := x_of I g
  exact call_meetsIn PySem.F.slot_dict_get dd.typeIs PySem.F.entry_dict_get (PySem.F.args_dict_get_2 _ _) (meetsH_dict_get (tupleKind (mixKind X.prog X.w)) a b hd) ⟨tupleKind_room_in1 hu, k, xs, key_ofS I hk, dd, h _ (I.tok _)⟩
theorem storedLen (xs : List (List Key × Addr × Value)) (k : List Key) (b : Addr) (u : Value) : (storedH xs k b u).length ≤ xs.length + 1 := by
  unfold storedH
  split
  · rw [List.length_map]; omega
  · rw [List.length_append, List.length_singleton]; omega
theorem x_setItem {r : Value} {Q : Unit → Shared → Prop} (hu : A.units + 1 < cLine) (I : Inv X pins σ H s) (g : XAt X.w X.K H a xs) (hk : SqT X.K H b (k.map kV)) (hl : xs.length < sizeLine) (h : ∀ s', Inv X pins σ (upd H a (dTX X.w a (storedH xs k b r))) s' → Q () s') :
    wpAny (model X.prog X.w) A (setItem (.ref a) (.ref b) r) Q E s := by
  obtain ⟨hd, hz, dd⟩ := x_of I g
  refine wpAny_setItem_heap (hsz := hz) (tupleKind_room_in1 hu) (key_ofS I hk) dd fun h' dd' hs => h _ ?_
  have he : ∃ q, h'.get? a = some q := let ⟨q, _, _, hq, _⟩ := dd'; ⟨q, hq⟩
  exact d_write I (by rw [g.1]; exact True.intro) hs he (dTX_new hd (by have := storedLen xs k b r; omega) dd')
end
/-! ## the readings -/
def tXNew (w : World) : TE := fun _ H Q => ∀ p, H p = none → Q (.ref p) (upd H p (dTX w p []))
def tXGet (w : World) (K : PySem.W.Frag) (td ty : TE) : TE := fun σ H Q => td σ H fun x H1 => ty σ H1 fun y H2 => ∃ a b xs k p v, x = .ref a ∧ y = .ref b ∧ XAt w K H2 a xs ∧ SqT K H2 b (k.map kV) ∧ atKey xs k = some p ∧ RelV v p.2 ∧ Q v H2
def tXIn (w : World) (K : PySem.W.Frag) (ty td : TE) : TE := fun σ H Q => ty σ H fun y H1 => td σ H1 fun x H2 => ∃ a b xs k, x = .ref a ∧ y = .ref b ∧ XAt w K H2 a xs ∧ SqT K H2 b (k.map kV) ∧ Q (.bl (atKey xs k).isSome) H2
def tXNotIn (w : World) (K : PySem.W.Frag) (ty td : TE) : TE := fun σ H Q => ty σ H fun y H1 => td σ H1 fun x H2 => ∃ a b xs k, x = .ref a ∧ y = .ref b ∧ XAt w K H2 a xs ∧ SqT K H2 b (k.map kV) ∧ Q (.bl (!(atKey xs k).isSome)) H2
def tXGet1 (w : World) (K : PySem.W.Frag) (td ty : TE) : TE := fun σ H Q => td σ H fun x H1 => ∃ a, x = .ref a ∧ (∃ xs, XAt w K H1 a xs) ∧ ty σ H1 fun y H2 => ∃ b xs k v, y = .ref b ∧ XAt w K H2 a xs ∧ SqT K H2 b (k.map kV) ∧ RelV v (((atKey xs k).map (·.2)).getD .none) ∧ Q v H2
def sXPut (w : World) (K : PySem.W.Frag) (td ty tv : TE) : TS := fun D σ H => tv σ H fun v H1 => td σ H1 fun x H2 => ty σ H2 fun y H3 => ∃ a b xs k, x = .ref a ∧ y = .ref b ∧ XAt w K H3 a xs ∧ SqT K H3 b (k.map kV) ∧ xs.length < sizeLine ∧ ∀ u, RelV v u → D.nx σ (upd H3 a (dTX w a (storedH xs k b u)))
section
variable {X : Cx} {o i e value : Expr} {pos pos' apos cpos : Pos} {td ty tv : TE}
theorem pe_xnew : PE X (.Dict [] [] pos) (tXNew X.w) := ⟨fun pins s σ H Q I h =>
  wpAny_Dict_empty ⟨.ref s.heap.objs.size, _, I.laid (a := s.heap.objs.size) (o := dTX X.w s.heap.objs.size []) (t' := s.toks) (fun _ _ q => Heap.get?_push_of_some _ q) (Nat.le_refl _)
    (dTX_new (P := X.prog) (beq_eq_false_iff_ne.mpr (Ne.symm (Nat.ne_of_lt I.big))) (Nat.zero_le _) ⟨_, #[], 0, Heap.get?_push_size _ rfl, ⟨rfl, rfl, rfl⟩, rfl, rfl, fun x hx => (by cases hx), List.nodup_nil⟩), rfl, h _ (I.hok.fresh (Nat.le_refl _))⟩⟩
theorem pe_xget (hu : X.A.units + 1 < cLine) (ho : PE X o td) (hi : PE X i ty) (hs : NoSl i) : PE X (.Subscript o i pos) (tXGet X.w X.K td ty) := by
  refine ⟨fun pins s σ H Q I h => ?_⟩
  refine subD_of PySem.F.slot_dict_getitem.lookup hs (thn (ho.run pins s σ H _ I h) fun u s1 ⟨x, H1, I1, rx, q1⟩ => thn (hi.run pins s1 σ H1 _ I1 q1) fun iv s2 ⟨y, H2, I2, ry, a, b, xs, k, p, v, ex, ey, g, hk, hp, rv, q2⟩ => ?_)
  subst ex ey
  obtain rfl : u = Value.ref a := rx
  obtain rfl : iv = Value.ref b := ry
  exact ⟨(x_of I2 g).2.2.typeIs, x_getItem hu I2 g hk hp fun s3 I3 => ⟨v, H2, I3, rv, q2⟩⟩
theorem pc_xin (hu : X.A.units + 1 < cLine) (hi : PE X i ty) (ho : PE X o td) : PC X .In i o (tXIn X.w X.K ty td) := by
  refine ⟨fun pins s σ H Q I h => ?_⟩
  refine thn (hi.run pins s σ H _ I h) fun iv s1 ⟨y, H1, I1, ry, q1⟩ => thn (ho.run pins s1 σ H1 _ I1 q1) fun u s2 ⟨x, H2, I2, rx, a, b, xs, k, ex, ey, g, hk, q2⟩ => ?_
  subst ex ey
  obtain rfl : u = Value.ref a := rx
  obtain rfl : iv = Value.ref b := ry
  exact x_in hu I2 g hk fun s3 I3 => ⟨.bl _, H2, I3, rfl, q2⟩
theorem pc_xnotin (hu : X.A.units + 1 < cLine) (hi : PE X i ty) (ho : PE X o td) : PC X .NotIn i o (tXNotIn X.w X.K ty td) := by
  refine ⟨fun pins s σ H Q I h => ?_⟩
  refine thn (hi.run pins s σ H _ I h) fun iv s1 ⟨y, H1, I1, ry, q1⟩ => thn (ho.run pins s1 σ H1 _ I1 q1) fun u s2 ⟨x, H2, I2, rx, a, b, xs, k, ex, ey, g, hk, q2⟩ => ?_
  subst ex ey
  obtain rfl : u = Value.ref a := rx
  obtain rfl : iv = Value.ref b := ry
  exact x_notIn hu I2 g hk fun s3 I3 => ⟨.bl _, H2, I3, rfl, q2⟩
theorem pe_xget1 (hu : X.A.units + 1 < cLine) (ho : PE X o td) (he : PE X e ty) (m : M1 X o "get" apos e cpos) : PE X (.Call (.Attribute o "get" apos) [e] [] cpos) (tXGet1 X.w X.K td ty) := by
  refine ⟨fun pins s σ H Q I h => ?_⟩
  refine wpAny_Call_method m.base m.few m.line PySem.F.plainAttrs_dict PySem.F.slot_dict_get PySem.F.type_dict_get (thn (ho.run pins s σ H _ I h) fun u s1 ⟨x, H1, I1, rx, a, ex, ⟨xs0, d⟩, q1⟩ => ?_)
  subst ex
  obtain rfl : u = Value.ref a := rx
  obtain ⟨_, _, dd⟩ := x_of I1 d
  refine ⟨dd.typeIs, fun b q => ?_, ?_⟩
  · cases q
    obtain ⟨ob, _, _, h1, h2, _⟩ := dd
    exact ⟨ob, h1, h2.2.1⟩
  rw [m.trees]
  refine Calls.callWith_builtin rfl (Calls.evalArgs_plain (Calls.spliced_cons (thn (he.run pins s1 σ H1 _ I1 q1) fun iv s2 ⟨y, H2, I2, ry, b, xs, k, v, ey, g, hk, rv, q2⟩ => Calls.spliced_nil ?_)))
  subst ey
  obtain rfl : iv = Value.ref b := ry
  exact x_get1 hu I2 g hk fun s3 I3 => ⟨v, H2, I3, rv, q2⟩
theorem ps_xput (hu : X.A.units + 1 < cLine) (ho : PE X o td) (hi : PE X i ty) (hv : PE X value tv) (hs : swapsWith value (some (.Subscript o i pos')) pos.line X.env = pure false) :
    PS X (.Assign [.Subscript o i pos'] value pos) (sXPut X.w X.K td ty tv) := by
  refine ⟨fun pins s σ H D I h => ?_⟩
  refine wpAny_Assign_Subscript (thn (hv.run pins s σ H _ I h) fun r s1 ⟨v, H1, I1, rv, q1⟩ => thn (ho.run pins s1 σ H1 _ I1 q1) fun u s2 ⟨x, H2, I2, rx, q2⟩ => thn (hi.run pins s2 σ H2 _ I2 q2) fun iv s3 ⟨y, H3, I3, ry, a, b, xs, k, ex, ey, g, hk, hl, q3⟩ => ?_) hs
  subst ex ey
  obtain rfl : u = Value.ref a := rx
  obtain rfl : iv = Value.ref b := ry
  exact x_setItem hu I3 g hk hl fun s4 I4 => ⟨σ, _, I4, q3 r rv⟩
theorem pe_xnewQ (w : World) (hw : X.w = w) : PE X (.Dict [] [] pos) (tXNew w) := hw ▸ pe_xnew
theorem pe_xgetQ (w : World) (K : PySem.W.Frag) (hw : X.w = w) (hK : X.K = K) (hu : X.A.units + 1 < cLine) (ho : PE X o td) (hi : PE X i ty) (hs : NoSl i) : PE X (.Subscript o i pos) (tXGet w K td ty) := by
  subst hw hK; exact pe_xget hu ho hi hs
theorem pc_xinQ (w : World) (K : PySem.W.Frag) (hw : X.w = w) (hK : X.K = K) (hu : X.A.units + 1 < cLine) (hi : PE X i ty) (ho : PE X o td) : PC X .In i o (tXIn w K ty td) := by
  subst hw hK; exact pc_xin hu hi ho
theorem pc_xnotinQ (w : World) (K : PySem.W.Frag) (hw : X.w = w) (hK : X.K = K) (hu : X.A.units + 1 < cLine) (hi : PE X i ty) (ho : PE X o td) : PC X .NotIn i o (tXNotIn w K ty td) := by
  subst hw hK; exact pc_xnotin hu hi ho
theorem pe_xget1Q (w : World) (K : PySem.W.Frag) (hw : X.w = w) (hK : X.K = K) (hu : X.A.units + 1 < cLine) (ho : PE X o td) (he : PE X e ty) (m : M1 X o "get" apos e cpos) : PE X (.Call (.Attribute o "get" apos) [e] [] cpos) (tXGet1 w K td ty) := by
  subst hw hK; exact pe_xget1 hu ho he m
theorem ps_xputQ (w : World) (K : PySem.W.Frag) (hw : X.w = w) (hK : X.K = K) (hu : X.A.units + 1 < cLine) (ho : PE X o td) (hi : PE X i ty) (hv : PE X value tv) (hs : swapsWith value (some (.Subscript o i pos')) pos.line X.env = pure false) :
    PS X (.Assign [.Subscript o i pos'] value pos) (sXPut w K td ty tv) := by
  subst hw hK; exact ps_xput hu ho hi hv hs
end
end Ah

/-! dicts by tuples of numbers and texts: the lifts -/
namespace Ah
open PySem PySem.Spec PyProof.Rows L2
abbrev XM := List (List Key × PyData)
def valX (m : XM) (k : List Key) : Option PyData := (m.find? fun p => decide (p.1 = k)).map (·.2)
def putX (m : XM) (k : List Key) (d : PyData) : XM := if (valX m k).isSome = true then m.map (fun p => if p.1 = k then (p.1, d) else p) else m ++ [(k, d)]
/-- the key that data is -/
def dTs : List PyData → Option (List Key)
  | [] => some []
  | x :: r => match dK' x, dTs r with
    | some k, some ks => some (k :: ks)
    | _, _ => none
def dT' : PyData → Option (List Key)
  | .tuple ds => dTs ds
  | _ => none
section
variable {K : PySem.W.Frag} {S : Addr → Prop} {H : Hp}
theorem keysRel : ∀ {vs : List V} {ds : List PyData} {ks : List Key}, Dzs K S H vs ds → dTs ds = some ks → vs = ks.map kV
  | _, _, _, .nil, h => by cases h; rfl
  | _, _, _, .cons (d := x) (ds := r) a b, h => by
    rw [dTs] at h
    cases e1 : dK' x with
    | none => rw [e1] at h; cases h
    | some k =>
      cases e2 : dTs r with
      | none => rw [e1, e2] at h; cases h
      | some ks =>
        rw [e1, e2] at h
        cases h
        rw [List.map_cons, ← keyRel a e1, ← keysRel b e2]
theorem keyRelT {v : V} {x : PyData} {k : List Key} (h : Dz K S H v x) (hk : dT' x = some k) : ∃ b, v = .ref b ∧ SqT K H b (k.map kV) := by
  cases h with
  | @tup b vs ds t r => exact ⟨b, rfl, by rw [← keysRel r hk]; exact t⟩
  | _ => cases hk
theorem Dzt.keys : ∀ {xs : List (List Key × Addr × Value)} {m : XM}, Dzt K S H xs m → ∀ x ∈ xs, SqT K H x.2.1 (x.1.map kV)
  | _, _, .nil, x, hx => by cases hx
  | _, _, .cons t r a b, x, hx => by
    rcases List.mem_cons.mp hx with rfl | hx
    · exact t
    · exact Dzt.keys b x hx
theorem Dzt.length : ∀ {xs : List (List Key × Addr × Value)} {m : XM}, Dzt K S H xs m → xs.length = m.length
  | _, _, .nil => rfl
  | _, _, .cons t r a b => by rw [List.length_cons, List.length_cons, Dzt.length b]
theorem Dzt.val {k : List Key} : ∀ {xs : List (List Key × Addr × Value)} {m : XM}, Dzt K S H xs m → (atKey xs k = none ∧ valX m k = none) ∨ ∃ p v d, atKey xs k = some p ∧ RelV v p.2 ∧ valX m k = some d ∧ Dz K S H v d
  | _, _, .nil => .inl ⟨rfl, rfl⟩
  | _, _, .cons (k := k') (b := b) (u := u) (v := v) (vs := xs) (d := d) (ds := m) t r a z => by
    by_cases h : k' = k
    · exact .inr ⟨(b, u), v, d, by simp [atKey, List.find?_cons, h], r, by simp [valX, List.find?_cons, h], a⟩
    · have e1 : atKey ((k', b, u) :: xs) k = atKey xs k := by simp [atKey, List.find?_cons, h]
      have e2 : valX ((k', d) :: m) k = valX m k := by simp [valX, List.find?_cons, h]
      rw [e1, e2]
      exact Dzt.val z
theorem Dzt.some_ {k : List Key} {xs : List (List Key × Addr × Value)} {m : XM} (h : Dzt K S H xs m) : (atKey xs k).isSome = (valX m k).isSome := by
  rcases h.val (k := k) with ⟨h1, h2⟩ | ⟨p, v, d, h1, _, h2, _⟩ <;> rw [h1, h2] <;> rfl
theorem Dzt.repl {k : List Key} {v : V} {u : Value} {d : PyData} (ru : RelV v u) (hv : Dz K S H v d) : ∀ {xs : List (List Key × Addr × Value)} {m : XM}, Dzt K S H xs m → Dzt K S H (xs.map (putAt k u)) (m.map fun p => if p.1 = k then (p.1, d) else p)
  | _, _, .nil => .nil
  | _, _, .cons (k := k') t r a b => by
    rw [List.map_cons, List.map_cons]
    unfold putAt
    by_cases h : k' = k
    · rw [if_pos h, if_pos h]; exact .cons t ru hv (Dzt.repl ru hv b)
    · rw [if_neg h, if_neg h]; exact .cons t r a (Dzt.repl ru hv b)
theorem Dzt.snoc {k : List Key} {c : Addr} {v : V} {u : Value} {d : PyData} (t0 : SqT K H c (k.map kV)) (ru : RelV v u) (hv : Dz K S H v d) : ∀ {xs : List (List Key × Addr × Value)} {m : XM}, Dzt K S H xs m → Dzt K S H (xs ++ [(k, c, u)]) (m ++ [(k, d)])
  | _, _, .nil => .cons t0 ru hv .nil
  | _, _, .cons t r a b => .cons t r a (Dzt.snoc t0 ru hv b)
theorem Dzt.put {k : List Key} {c : Addr} {v : V} {u : Value} {d : PyData} {xs : List (List Key × Addr × Value)} {m : XM} (t0 : SqT K H c (k.map kV)) (ru : RelV v u) (hv : Dz K S H v d) (h : Dzt K S H xs m) : Dzt K S H (storedH xs k c u) (putX m k d) := by
  unfold storedH putX
  rw [h.some_]
  split
  · exact h.repl ru hv
  · exact h.snoc t0 ru hv
end
theorem Loose.dTX {H : Hp} {m : Addr} {w : World} {c : Addr} {l : List (List Key × Addr × Value)} (h : H m = some (dTX w c l)) : Loose H m := ⟨fun xs e => (by rw [h] at e; cases e), fun o u e => (by rw [h] at e; cases e)⟩
section
variable {L : La} {M : Amb} {n m : Nat} {H Hs H' : Hp} {σ : L2.St} {e : AEnv} {v : V} {a : A} {i : Nat} {w : World}
theorem Rep.ot {mm : XM} (R : Rep M n H σ e) (h : e[i]? = some (some (.ot w mm))) : ∃ c vs, σ[i]? = some (some (.ref c)) ∧ M.S σ e c ∧ H c = some (dTX w c vs) ∧ Dzt M.K (M.S σ e) H vs mm := by
  obtain ⟨v, h1, h2⟩ := R.slot i _ h
  obtain ⟨c, vs, rfl, h3, h4, h5⟩ := h2
  exact ⟨c, vs, h1, .inl ⟨i, _, h1, h, trivial⟩, h4, h5⟩
theorem Rep.putX (R : Rep M n H σ e) {c : Addr} {xs xs' : XM} {vs vs' : List (List Key × Addr × Value)} (h1 : σ[i]? = some (some (.ref c))) (h2 : e[i]? = some (some (.ot w xs))) (h3 : H c = some (dTX w c vs)) (h : Dzt M.K (M.S σ e) H vs' xs') :
    Rep M n (upd H c (dTX w c vs')) σ (e.set i (some (.ot w xs'))) := by
  have sc : M.S σ e c := .inl ⟨i, _, h1, h2, trivial⟩
  refine R.putO h1 h2 trivial trivial (fun _ => by simp) (fun _ _ => by simp) ⟨c, vs', rfl, R.own_new ⟨i, _, h1, h2, trivial⟩, upd_same, ?_⟩
  exact Dzt.map (fun b q hb hq => by rw [upd_ne (fun z => hb (by rw [z]; exact sc))]; exact hq) (fun b xs hb => SqT.kp (ms := [c]) (Kp.put (by simp)) (fun q hq => by rw [List.mem_singleton.mp hq]; exact .dTX h3) hb) (fun _ z => .inl z) h
theorem ab_xnew : AbE L (tXNew w) (fun _ n q => q (.ot w []) n) := by
  intro M n H σ e q Q l R h p r hr
  exact p _ _ _ n h (R.new hr) (Kp.new hr) ⟨r, [], rfl, hr, R.nS hr, upd_same, .nil⟩
/-- y in d, y not in d -/
def aXIn (w : World) (f : Bool → Bool) (wy : AW) (i : Nat) : AW := fun e n q => wy e n fun b m => ∃ x k mm, b = .d x ∧ dT' x = some k ∧ e[i]? = some (some (.ot w mm)) ∧ q (.d (.bool (f (valX mm k).isSome))) m
theorem ab_xin {ty : TE} {wy : AW} (h : AbE L ty wy) : AbE L (tXIn w L.K ty (tVar i)) (aXIn w id wy i) := by
  intro M n H σ e q Q l R hw p
  refine h M n H σ e _ _ l R hw fun v H1 b m g1 R1 k1 r1 => ?_
  obtain ⟨x, k, mm, rfl, e2, e3, g⟩ := g1
  obtain ⟨c, xs, c0, c1, c2, c3⟩ := R1.ot e3
  obtain ⟨bb, rfl, t⟩ := keyRelT r1 e2
  refine ⟨.ref c, c0, c, bb, xs, k, rfl, rfl, ⟨c2, l.1 ▸ c3.keys⟩, l.1 ▸ t, ?_⟩
  rw [c3.some_]
  exact okE R1 (p.from R.ok k1) g (.bl _)
theorem ab_xnotin {ty : TE} {wy : AW} (h : AbE L ty wy) : AbE L (tXNotIn w L.K ty (tVar i)) (aXIn w not wy i) := by
  intro M n H σ e q Q l R hw p
  refine h M n H σ e _ _ l R hw fun v H1 b m g1 R1 k1 r1 => ?_
  obtain ⟨x, k, mm, rfl, e2, e3, g⟩ := g1
  obtain ⟨c, xs, c0, c1, c2, c3⟩ := R1.ot e3
  obtain ⟨bb, rfl, t⟩ := keyRelT r1 e2
  refine ⟨.ref c, c0, c, bb, xs, k, rfl, rfl, ⟨c2, l.1 ▸ c3.keys⟩, l.1 ▸ t, ?_⟩
  rw [c3.some_]
  exact okE R1 (p.from R.ok k1) g (.bl _)
/-- d[y] -/
def aXGet (w : World) (i : Nat) (wy : AW) : AW := fun e n q => (∃ mm, e[i]? = some (some (.ot w mm))) ∧ wy e n fun b m => ∃ x k mm d, b = .d x ∧ dT' x = some k ∧ e[i]? = some (some (.ot w mm)) ∧ valX mm k = some d ∧ q (.d d) m
theorem ab_xget {ty : TE} {wy : AW} (h : AbE L ty wy) : AbE L (tXGet w L.K (tVar i) ty) (aXGet w i wy) := by
  intro M n H σ e q Q l R hw p
  obtain ⟨⟨mm0, e0⟩, hw⟩ := hw
  obtain ⟨c, xs, c0, c1, c2, c3⟩ := R.ot e0
  refine ⟨.ref c, c0, ?_⟩
  refine h M n H σ e _ _ l R hw fun v H1 b m g1 R1 k1 r1 => ?_
  obtain ⟨x, k, mm, d, rfl, e2, e3, e4, g⟩ := g1
  obtain ⟨c', xs', c0', c1', c2', c3'⟩ := R1.ot e3
  rw [c0] at c0'; cases c0'
  obtain ⟨bb, rfl, t⟩ := keyRelT r1 e2
  rcases c3'.val (k := k) with ⟨_, z⟩ | ⟨pp, u, d', f1, f2, f3, f4⟩
  · rw [e4] at z; cases z
  · rw [e4] at f3; cases f3
    exact ⟨c, bb, xs', k, pp, u, rfl, rfl, ⟨c2', l.1 ▸ c3'.keys⟩, l.1 ▸ t, f1, f2, okE R1 (p.from R.ok k1) g f4⟩
/-- d.get(y) -/
def aXGet1 (w : World) (i : Nat) (wy : AW) : AW := fun e n q => (∃ mm, e[i]? = some (some (.ot w mm))) ∧ wy e n fun b m => ∃ x k mm, b = .d x ∧ dT' x = some k ∧ e[i]? = some (some (.ot w mm)) ∧ q (.d ((valX mm k).getD .none)) m
theorem ab_xget1 {ty : TE} {wy : AW} (h : AbE L ty wy) : AbE L (tXGet1 w L.K (tVar i) ty) (aXGet1 w i wy) := by
  intro M n H σ e q Q l R hw p
  obtain ⟨⟨mm0, e0⟩, hw⟩ := hw
  obtain ⟨c, xs, c0, c1, c2, c3⟩ := R.ot e0
  refine ⟨.ref c, c0, c, rfl, ⟨xs, c2, l.1 ▸ c3.keys⟩, ?_⟩
  refine h M n H σ e _ _ l R hw fun v H1 b m g1 R1 k1 r1 => ?_
  obtain ⟨x, k, mm, rfl, e2, e3, g⟩ := g1
  obtain ⟨c', xs', c0', c1', c2', c3'⟩ := R1.ot e3
  rw [c0] at c0'; cases c0'
  obtain ⟨bb, rfl, t⟩ := keyRelT r1 e2
  rcases c3'.val (k := k) with ⟨z1, z2⟩ | ⟨pp, u, d', f1, f2, f3, f4⟩
  · rw [z2] at g
    exact ⟨bb, xs', k, .non, rfl, ⟨c2', l.1 ▸ c3'.keys⟩, l.1 ▸ t, by rw [z1]; exact rfl, okE R1 (p.from R.ok k1) g .non⟩
  · rw [f3] at g
    exact ⟨bb, xs', k, u, rfl, ⟨c2', l.1 ▸ c3'.keys⟩, l.1 ▸ t, by rw [f1]; exact f2, okE R1 (p.from R.ok k1) g f4⟩
/-- d[y] = v -/
def aXPut (w : World) (i : Nat) (wv wy : AW) : ASW := fun d e n => wv e n fun a m => (∃ mm, e[i]? = some (some (.ot w mm))) ∧ wy e m fun b k => ∃ y x key mm, a.sto = some y ∧ b = .d x ∧ dT' x = some key ∧ e[i]? = some (some (.ot w mm)) ∧ mm.length < sizeLine ∧ d.nx (e.set i (some (.ot w (putX mm key y)))) k
theorem as_xput {tv ty : TE} {wv wy : AW} (h1 : AbE L tv wv) (h2 : AbE L ty wy) : AbS L (sXPut w L.K (tVar i) ty tv) (aXPut w i wv wy) := by
  intro M n H σ e D d l R hw k
  refine h1 M n H σ e _ _ l.1 R hw fun v H1 a m g1 R1 k1 r1 => ?_
  obtain ⟨⟨mm0, e0⟩, g1⟩ := g1
  obtain ⟨c, vs, c0, c1, c2, c3⟩ := R1.ot e0
  refine ⟨.ref c, c0, ?_⟩
  refine h2 M m H1 σ e _ _ l.1 R1 g1 fun wv H2 b m2 g2 R2 k2 r2 => ?_
  obtain ⟨y, x, key, mm, e1, rfl, e3, e4, e5, g3⟩ := g2
  obtain ⟨c', vs', c0', c1', c2', c3'⟩ := R2.ot e4
  rw [c0] at c0'; cases c0'
  have zy := (r1.step R1.ok k2 R.ok.there).sto e1
  obtain ⟨bb, rfl, t⟩ := keyRelT r2 e3
  exact ⟨c, bb, vs', key, rfl, rfl, ⟨c2', l.1.1 ▸ c3'.keys⟩, l.1.1 ▸ t, by rw [c3'.length]; exact e5, fun u ru => k.nx _ _ _ _ g3 (R2.putX c0 e4 c2' (c3'.put t ru zy))⟩
end
end Ah

/-! more methods of texts -/
namespace Ah
open PySem PySem.Spec PyProof.Rows L2
section
variable {L : La} {M : Amb} {n m : Nat} {H Hs H' : Hp} {σ : L2.St} {e : AEnv} {v : V} {a : A} {i : Nat}
theorem dzStrs {K : PySem.W.Frag} {S : Addr → Prop} : ∀ ys : List Str, Dzs K S H (ys.map V.str) (ys.map PyData.str)
  | [] => .nil
  | y :: r => .cons (.str y) (dzStrs r)
/-- x.split(y) -/
def fSplit (a b : A) : AW := fun e n q => ∃ x y, a = .d (.str x) ∧ b = .d (.str y) ∧ (y.length == 0) = false ∧ x.length + 2 ≤ sizeLine ∧ q (.ol ((Txt.split x y).map .str)) n
theorem ma_split : MtA L (fun x xs H Q => ∃ a b, x = .str a ∧ xs = [.str b] ∧ (b.length == 0) = false ∧ a.length + 2 ≤ sizeLine ∧ rNewStrs (Txt.split a b) H Q) fSplit := by
  intro M n H Hs σ e x y a b q Q l R ra rb h p
  obtain ⟨i, j, rfl, rfl, h1, h2, hq⟩ := h
  exact ⟨i, j, relS ra, by rw [relS rb], h1, h2, fun r hr => p _ _ _ n hq (R.new hr) (Kp.new hr) (relNewL R hr (dzStrs _))⟩
end
end Ah

namespace Ah
open PySem PySem.Spec PyProof.Rows L2 LamX NdefX
/-! ## lambdas with parameters and captured names -/
structure LF where
  qual : Str
  params : Arguments
  body : Expr
  scope : Scope
  cl : List (Str × Addr)
  c : Addr
abbrev LF.nf (F : LF) : NF := ⟨"<lambda>", F.qual, F.params, [], F.scope, F.cl, F.c⟩
abbrev LF.fd (F : LF) (pm ctv : Value) : FuncData := PySem.W.kla_fn "<lambda>" F.qual F.params F.body F.scope F.cl pm (.ref F.c) ctv
/-- the object at f is the lambda F -/
def FnL (f : Addr) (F : LF) : HO := .ext fun h => ∃ (od : Option Addr) (sl : Array (Option Value)) (pm ctv : Value), h.get? f = some (⟨.type "function", od, .func (F.fd pm ctv), sl⟩ : Obj)
theorem fnL_at {P : Program} {w : World} {H : Hp} {h : Heap} {f : Addr} {F : LF} (hok : HOk P w H h) (e : H f = some (FnL f F)) : ∃ (od : Option Addr) (sl : Array (Option Value)) (pm ctv : Value), h.get? f = some (⟨.type "function", od, .func (F.fd pm ctv), sl⟩ : Obj) := by
  obtain ⟨z, _, _⟩ := hok f _ e
  exact z
section
variable {X : Cx} {pins : List (Addr × Obj)} {σ : L2.St} {H : Hp} {s : Shared}
theorem inv_fnL {F : LF} {o : Obj} {h0 : Heap} {t' t0 : Nat} {pm ctv : Value} (I : Inv X pins σ H { s with heap := h0, toks := t0 }) (ho : o = { cls := .type "function", data := .func (F.fd pm ctv) }) :
    Inv X pins σ (upd H h0.objs.size (FnL h0.objs.size F)) { s with heap := h0.push o, toks := t' } := by
  subst ho
  refine I.laid (a := h0.objs.size) (fun b u e => Heap.get?_push_of_some _ e) (Nat.le_refl _) ?_
  have e : (h0.push ({ cls := .type "function", data := .func (F.fd pm ctv) } : Obj)).get? h0.objs.size = some ({ cls := .type "function", data := .func (F.fd pm ctv) } : Obj) := Heap.get?_push_size _ rfl
  exact ⟨⟨_, _, pm, ctv, e⟩, ⟨_, e⟩, fun h1 h2 ⟨od, sl, p, t, z⟩ st => ⟨od, sl, p, t, st _ z⟩⟩
/-- the lambda's object is made: its code object is new, or found in the table -/
theorem lam_make {T : List NTab} {nm : Nat → Nat → Str} {c P : Addr} {params : Arguments} {body : Expr} {scope : Scope} {pos : Pos} {E : Value → Shared → Prop} {Q : Value → Shared → Prop} (I : Inv X pins σ H s) (TB : TabB X.base X.mg c P) (hcode : X.env.code = .ref c)
    (hm : (P, nm) ∈ T) (hn : nm pos.line pos.col = X.env.qual ++ "<lambda>") (hu : ∀ p ∈ T, p.1 = P → p.2 = nm) (hT : TabsN T H) (hdef : defaultsOf params X.env = ([], [])) (hfree : ∀ y ∈ scope.names, y.2 = .free → ∃ c, X.env.cells.lookup y.1 = some c)
    (h : ∀ (f c' : Addr) (H1 : Hp) (s' : Shared), Inv X pins σ H1 s' → Kp [P] H H1 → TabsN T H1 → H f = none → H1 f = some (FnL f ⟨X.env.qual ++ "<lambda>", params, body, scope, cloFrom X.env.cells scope.names [], c'⟩) → H1 c' = some (CodeO c' (X.env.qual ++ "<lambda>")) → Q (.ref f) s') :
    wpAny (model X.prog X.w) X.A (eval (.Lambda params body scope pos) X.env) Q E s := by
  obtain ⟨ps, hP, ht, ha⟩ := (show TabN H P nm from hT _ hm)
  refine PySem.W.kla_eval hdef ?_
  have bP : s.heap.BuiltinsAt X.mg P := TB.bm.keeps I.bk
  have hP' : s.heap.get? P = some { cls := .none, data := .fields ps } := I.hok P _ hP
  cases hc : codeAmong pos ps.toList with
  | none =>
    refine PySem.W.kla_makeFunction (mg := X.mg) (c := c) (P := P) (ps := ps) (closure_ok hfree) I.ok.glob (I.mod.glob.keeps I.bk) hcode (TB.code.keeps I.bk) hP' ht hc TB.gP bP fun c' ctv h' tk hx hge hlt hrec htb => ?_
    obtain ⟨c2, oc, vs, t, e2, hoc, hd, hv⟩ := hrec
    cases e2
    have nC : H c' = none := I.hok.fresh hge
    have I1 := inv_table (t' := tk) (more := #[rawInt pos.line, rawInt pos.col, .ref c']) (h' := h') I hP (fun b o hb e => hx b o hb e) htb hge ⟨oc, vs, t, hoc, hd, hv⟩
    have hE : Kp [P] H (upd (upd H P (.tbl (ps ++ #[rawInt pos.line, rawInt pos.col, .ref c']))) c' (CodeO c' (X.env.qual ++ "<lambda>"))) := fun b o n e => by
      rw [upd_ne (ne_of_none e nC), upd_ne (fun z => n (by rw [z]; exact List.mem_singleton.mpr rfl))]
      exact e
    have eL : (ps ++ #[rawInt pos.line, rawInt pos.col, .ref c']).toList = ps.toList ++ [rawInt pos.line, rawInt pos.col, .ref c'] := by simp
    have cP : ∀ {b q}, H b = some (CodeO b q) → b ∉ [P] := fun {b q} e z => by
      rw [List.mem_singleton.mp z, hP] at e
      exact codeO_ne ps (Option.some.inj e).symm
    have T1 : TabsN T (upd (upd H P (.tbl (ps ++ #[rawInt pos.line, rawInt pos.col, .ref c']))) c' (CodeO c' (X.env.qual ++ "<lambda>"))) := fun p hp => by
      by_cases hb : p.1 = P
      · rw [hu p hp hb, hb]
        refine ⟨_, by rw [upd_ne (ne_of_none hP nC), upd_same], by rw [eL]; exact PySem.TriplesOk_snoc _ _ _ _ ht, fun p' cv hcv => ?_⟩
        rw [eL] at hcv
        rcases among_app2 _ ht hcv with z | ⟨z, z1, z2⟩
        · obtain ⟨c0, e1, e2⟩ := ha p' cv z
          exact ⟨c0, e1, hE _ _ (cP e2) e2⟩
        · refine ⟨c', z, ?_⟩
          rw [← z1, ← z2, hn]
          exact upd_same
      · obtain ⟨ps', a1, a2, a3⟩ := hT p hp
        refine ⟨ps', by rw [upd_ne (ne_of_none a1 nC), upd_ne hb]; exact a1, a2, fun p' cv hcv => ?_⟩
        obtain ⟨c0, e1, e2⟩ := a3 p' cv hcv
        exact ⟨c0, e1, hE _ _ (cP e2) e2⟩
    have nF := I1.hok.fresh (Nat.le_refl _)
    have I2 := inv_fnL (F := ⟨X.env.qual ++ "<lambda>", params, body, scope, cloFrom X.env.cells scope.names [], c'⟩) (t' := tk) (pm := (X.mg "__name__").getD .none) (ctv := ctv) I1 rfl
    refine h h'.objs.size c' _ _ I2 (hE.trans (Kp.new nF)) (T1.ext fun b o e => ?_) (I.hok.fresh (Nat.le_trans hge (Nat.le_of_lt hlt))) upd_same ?_
    · exact (upd_ne (ne_of_none e nF)).trans e
    · exact (upd_ne (Nat.ne_of_lt hlt)).trans upd_same
  | some cv =>
    obtain ⟨c', e, hco⟩ := ha pos cv hc
    subst e
    rw [hn] at hco
    refine PySem.W.kla_makeFunctionHit (mg := X.mg) (c := c) (P := P) (ps := ps) (closure_ok hfree) I.ok.glob (I.mod.glob.keeps I.bk) hcode (TB.code.keeps I.bk) hP' ht hc bP fun ctv h' tk hx hsz => ?_
    have I1 : Inv X pins σ H { s with heap := h', toks := tk } := I.kept hx
    have nF : H h'.objs.size = none := I1.hok.fresh (Nat.le_refl _)
    have I2 := inv_fnL (F := ⟨X.env.qual ++ "<lambda>", params, body, scope, cloFrom X.env.cells scope.names [], c'⟩) (t' := tk) (pm := (X.mg "__name__").getD .none) (ctv := ctv) I1 rfl
    refine h h'.objs.size c' _ _ I2 (Kp.new nF) (hT.ext fun b o e => ?_) nF upd_same ?_
    · exact (upd_ne (ne_of_none e nF)).trans e
    · exact (upd_ne (ne_of_none hco nF)).trans hco
end
/-- a lambda -/
def tLam1 (P : Addr) (T : List NTab) (mk : Addr → LF) : TE := fun σ H Q => TabsN T H ∧ ∀ (f c' : Addr) (H1 : Hp), Kp [P] H H1 → TabsN T H1 → H f = none → H1 f = some (FnL f (mk c')) → H1 c' = some (CodeO c' (mk c').qual) → Q (.ref f) H1
theorem pe_lam1 {X : Cx} {T : List NTab} {nm : Nat → Nat → Str} {c P : Addr} {params : Arguments} {body : Expr} {scope : Scope} {pos : Pos} (TB : TabB X.base X.mg c P) (hcode : X.env.code = .ref c)
    (hm : (P, nm) ∈ T) (hn : nm pos.line pos.col = X.env.qual ++ "<lambda>") (hu : ∀ p ∈ T, p.1 = P → p.2 = nm) (hdef : defaultsOf params X.env = ([], []))
    (hfree : ∀ y ∈ scope.names, y.2 = .free → X.env.scope.names.lookup y.1 = some .cell ∨ X.env.scope.names.lookup y.1 = some .free) :
    PE X (.Lambda params body scope pos) (tLam1 P T fun c' => ⟨X.env.qual ++ "<lambda>", params, body, scope, cloFrom X.env.cells scope.names [], c'⟩) := by
  refine ⟨fun pins s σ H Q I h => ?_⟩
  obtain ⟨hT, h⟩ := h
  have hfr : ∀ y ∈ scope.names, y.2 = .free → ∃ c, X.env.cells.lookup y.1 = some c := fun y hy e => (hfree y hy e).elim (fun z => I.ok.has _ (.inl z)) fun z => I.ok.has _ (.inr z)
  exact lam_make I TB hcode hm hn hu hT hdef hfr fun f c' H1 s' I1 k T1 f0 f1 c1 => ⟨.ref f, H1, I1, rfl, h f c' H1 k T1 f0 f1 c1⟩
/-- the promise of the lambda F at f: sp ws, ws what its captured cells hold at the call -/
structure LOk (P : Program) (w : World) (K : PySem.W.Frag) (mg : Str → Option Value) (base : Heap) (CX : CXT) (k : Nat) (f : Addr) (F : LF) (ps fr : List Str) (sp : List (Option V) → Sp) : Prop where
  len : ∀ ws vs H Q E, sp ws vs H Q E → vs.length = ps.length
  run : ∀ (A : Around) (outer : List Env) (s : Shared) (H : Hp) (us : List Value) (vs : List V) (ws : List (Option V)) (Q : VK) (E : XK), Room k A → Env0 P w K mg base A outer s H → H f = some (FnL f F) → H F.c = some (CodeO F.c F.qual) →
    CellsAt F.cl fr ws s.heap H → Vals vs us → sp ws vs H Q E → codeAny (model P w) A (.call (.ref f) ⟨us, []⟩) (CR CX outer P w H s Q E) s
section
variable {CX : CXT} {P : Program} {w : World} {K : PySem.W.Frag} {mg : Str → Option Value} {base : Heap} {N ps fr : List Str} {F : LF} {f : Addr} {k j : Nat} {sp sp' : List (Option V) → Sp}
theorem LOk.mono (o : LOk P w K mg base CX j f F ps fr sp) (h : j ≤ k) : LOk P w K mg base CX k f F ps fr sp := ⟨o.len, fun A outer s H us vs ws Q E hr => o.run A outer s H us vs ws Q E (hr.mono h)⟩
theorem lok_of (S : NScope N ps fr F.scope) (hb : ∀ (pm ctv : Value) (us : List Value), us.length = ps.length → bindArgs (F.fd pm ctv) ⟨us, []⟩ = pure (ps.zip us)) (len : ∀ ws vs H Q E, sp ws vs H Q E → vs.length = ps.length)
    (hbody : ∀ (A : Around) (outer : List Env) (s : Shared) (H : Hp) (vs : List V) (ws : List (Option V)) (Q : VK) (E : XK), Room k (A.deeper (envF F.nf f s.heap.objs.size)) → ws.length = fr.length → sp ws vs H Q E →
      ∃ t, PE (ncx CX P w K mg base N F.nf f A outer s H E) F.body t ∧ t (startF N vs ws) H Q) :
    LOk P w K mg base CX (k + 1) f F ps fr sp := by
  refine ⟨len, fun A outer s H us vs ws Q E hr e0 hf hc C r hsp => ?_⟩
  have hl := len _ _ _ _ _ hsp
  have lim : s.heap.NoLimit := e0.mod.nolimit.keeps fun b o e => (e0.bs b o e).1
  obtain ⟨od, sl, pm, ctv, ho⟩ := fnL_at e0.hok hf
  refine PySem.W.kla_callFunE hr.depth ho rfl S.co S.gen rfl (codeO_at e0.hok hc) ?_
  rw [hb pm ctv us (by rw [← r.length]; exact hl)]
  refine wpAny_pure (wpAny_newFunctionEnv S.nocell (fun ⟨n, _⟩ hy => S.par n (List.of_mem_zip hy).1) (fun h₁ hns hsb => ⟨lim.fresh _ hsb, ?_⟩) S.kind)
  show codeAny _ _ (.expr F.body (envF F.nf f s.heap.objs.size)) _ _
  have kp : ∀ b o, s.heap.get? b = some o → h₁.get? b = some o := fun b o e => hsb.extBut b o (Nat.ne_of_lt (Heap.lt_size e)) (Heap.get?_push_of_some _ e)
  obtain ⟨t, ht, hq⟩ := hbody A outer s H vs ws Q E (hr.deeper _) C.len hsp
  have I : Inv (ncx CX P w K mg base N F.nf f A outer s H E) [] (startF N vs ws) H { s with heap := h₁, toks := s.toks + (ps.zip us).length } := inv_startN S hr.hd e0 hl r C hns kp
  refine PySem.W.kla_codeExpr (wpAny_mono (ht.run [] _ (startF N vs ws) H _ I hq) (fun v s' hs => ?_) fun e s' hs => hs)
  obtain ⟨w', H', J, rv, q⟩ := hs
  exact ⟨w', H', J.os, J.bare, J.base, J.hok, rv, q⟩
end
/-- what the cells held when the running frame began they hold still -/
theorem cellsLater {X : Cx} {pins : List (Addr × Obj)} {σ : L2.St} {H : Hp} {s : Shared} {cl : List (Str × Addr)} {fr : List Str} {ws : List (Option V)} (C : CellsAt cl fr ws X.s_0.heap X.H_0) (hx : X.ex = []) (I : Inv X pins σ H s) : CellsAt cl fr ws s.heap H := by
  have nx : ∀ b : Addr, b ∉ X.ex := fun b z => by rw [hx] at z; cases z
  have kp : ∀ y c, cl.lookup y = some c → ∀ v, X.s_0.heap.IsCell c v → s.heap.IsCell c v := fun y c e v ⟨o, ho, hd⟩ => by
    obtain ⟨sl, q⟩ := I.base.any ho (C.all y c e).1 (nx c)
    exact ⟨_, q, hd⟩
  refine ⟨C.len, fun y c e => ?_, C.inj, fun i y e => ?_⟩
  · obtain ⟨n, v, z⟩ := C.all y c e
    refine ⟨?_, v, kp y c e v z⟩
    obtain ⟨o, ho, _⟩ := z
    exact I.base.free c o ho n (nx c)
  · obtain ⟨c, hc, hv⟩ := C.has i y e
    refine ⟨c, hc, fun v ev => ?_⟩
    obtain ⟨u, r, z⟩ := hv v ev
    exact ⟨u, r, kp y c hc _ z⟩
theorem fnLAt_of {X : Cx} {pins : List (Addr × Obj)} {σ : L2.St} {H : Hp} {s : Shared} {f : Addr} {F : LF} (I : Inv X pins σ H s) (e : H f = some (FnL f F)) : PySem.W.FnAt f s.heap := by
  obtain ⟨od, sl, pm, ctv, ho⟩ := fnL_at I.hok e
  exact ⟨_, od, _, sl, ho⟩
/-- x(..), x a name that holds the lambda F at f, made elsewhere -/
def tCallLm (f : Addr) (F : LF) (i : Nat) (ws : List (Option V)) (sp : List (Option V) → Sp) (E : XK) (t : TA) : TE := fun σ H Q => σ[i]? = some (some (.ref f)) ∧ H f = some (FnL f F) ∧
  t σ H fun vs H1 => H1 f = some (FnL f F) ∧ H1 F.c = some (CodeO F.c F.qual) ∧ sp ws vs H1 Q E
section
variable {X : Cx} {CX : CXT} {f : Addr} {F : LF} {ps fr : List Str} {ws : List (Option V)} {i j k : Nat} {x : Str} {sp : List (Option V) → Sp} {E : XK} {t : TA} {e : Expr} {es : List Expr} {p pos : Pos}
theorem pe_callLm (Fn : LOk X.prog X.w X.K X.mg X.base CX k f F ps fr sp) (C : CellsAt F.cl fr ws X.s_0.heap X.H_0) (hex : X.ex = []) (hr : Room j X.A) (hk : k ≤ j) (hx : Passes CX X E) (hN : X.N[i]? = some x) (hv : Vis X.env.scope x) (ha : PA X (e :: es) t)
    (hd : (x == ("__debug__" : Str)) = false := by decide) (hcd : (x == ("__classdict__" : Str)) = false := by decide)
    (he : starEach (e :: es) X.env = (false, eval e X.env) :: starEach es X.env := by rfl) (hpl : (backTo pos (starEach es X.env)).any (·.1) = false := by rfl) :
    PE X (.Call (.Name x p) (e :: es) [] pos) (tCallLm f F i ws sp E t) := by
  refine ⟨fun pins s σ H Q I h => ?_⟩
  obtain ⟨hs, hf, ht⟩ := h
  refine wpAny_Call_Name_kw (thn ((pe_var (pos := p) hN hv hd hcd).run pins s σ H (fun v H1 => v = .ref f ∧ H1 = H) I ⟨.ref f, hs, rfl, rfl⟩) fun u s1 ⟨v, H1, I1, r1, q1⟩ => ?_)
  obtain ⟨ev, eH⟩ := q1
  subst ev
  rw [eH] at I1
  obtain rfl : u = Value.ref f := r1
  refine PySem.W.callWith_F (first := []) (fnLAt_of I1 hf) (thn (ha.run pos pins s1 σ H _ I1 ht) fun us s2 ⟨vs, H2, I2, r, h1, h2, q⟩ => ⟨fnLAt_of I2 h1, ?_⟩) he hpl
  show wpAny _ _ (call (.ref f) us) _ _ _
  refine wpAny_call (codeAny_mono (Fn.run X.A X.stack s2 H2 us vs ws Q E (hr.mono hk) I2.env0 h1 h2 (cellsLater C hex I2) r q) fun r s' hq => ?_)
  cases r with
  | error e => exact hx pins σ H2 s2 e s' I2 hq
  | ok fl =>
    cases fl with
    | ret u => exact I2.after hq
    | next => exact False.elim hq
    | brk => exact False.elim hq
    | cont => exact False.elim hq
end
end Ah

namespace L2
open PySem PySem.Spec PyProof.Rows
/-! ### del xs[a:] -/
section
variable {prog : Program} {w : World} {A : Around} {E : Value → Shared → Prop} {s : Shared}
theorem bounds_from {a n : Nat} (ha : a ≤ n) : sliceBounds (some (a : Int)) none none n = ((a : Int), (n : Int), 1) := by
  simp only [sliceBounds, Option.getD_none]
  have h1 : ¬ ((a : Int) < 0) := by omega
  simp only [h1, if_false, show (1 : Int) > 0 by decide, if_true]
  congr 1
  · omega
theorem delItem_slice {l sl : Addr} {items : Array Value} {n : Nat} {vl : Value} {a : Nat} {Q : Unit → Shared → Prop}
    (e : s.heap.get? l = some { cls := .type "list", data := .seq items n })
    (hs : s.heap.IsSliceOf sl vl .none .none) (pl : IsPart vl (some (a : Int))) (ha : a ≤ items.size)
    (hsz : items.size ≤ sizeLine) (h : ∀ f : Array Value → Array Value, f items = (items.toList.take a).toArray → Q () { s with heap := s.heap.update l (Obj.mapSeq f) }) :
    wpAny (model prog w) A (delItem (.ref l) (.ref sl)) Q E s := by
  have hl : s.heap.IsList l items := PySem.IsL.isList e
  obtain ⟨os, hos, hcs, hds⟩ := id hs
  have hTs : s.TypeIs (.ref sl) "slice" := ⟨os, hos, hcs⟩
  have hstep : ¬ ((rawPart none == rawInt 0) = true) := Bool.false_ne_true
  unfold delItem
  try with_reducible refine wpAny_holding ?_
  first | refine wpAny_bind (wpAny_pure ?_) | skip
  refine wpAny_bind (wpAny_sequenceKey hl.typeIs (by decide) ?_)
  refine wpAny_bind (wpAny_callSpecial?_slot (name := Str.ofString "__delitem__") hl.typeIs PySem.F.slot_list_delitem
    (wpAny_call_entry PySem.F.slot_list_delitem hl.typeIs PySem.F.entry_list_delitem ?_ (PySem.F.args_list_delitem_2 _ _)))
  show wpAny _ _ (Builtin.List.listSubscript? (.ref sl) >>= _) _ _ s
  refine wpAny_bind ?_
  unfold Builtin.List.listSubscript?
  refine wpAny_bind (wpAny_specialOf hTs slice_no_index ?_)
  simp only [Option.isNone_none, if_true]
  refine wpAny_pure ?_
  show wpAny _ _ (typeOf (.ref sl) >>= _) _ _ s
  refine wpAny_bind (wpAny_typeOf hTs ?_)
  first
    | rw [if_neg (by decide)]
    | refine PySem.W.KFB.if_not (by decide) ?_
  rw [listSliceParts_eq]
  refine wpAny_bind (wpAny_bind (wpAny_field hos hds (x := .none) rfl (wpAny_bind (wpAny_listPart .none ?_))))
  rw [if_neg hstep]
  refine wpAny_bind (wpAny_field hos hds (x := vl) rfl (wpAny_bind (wpAny_listPart pl ?_)))
  refine wpAny_bind (wpAny_field hos hds (x := .none) rfl (wpAny_bind (wpAny_listPart .none (wpAny_pure ?_))))
  unfold Builtin.List.listItems
  refine wpAny_bind (wpAny_bind (wpAny_seqItems e rfl (wpAny_pure ?_)))
  refine wpAny_bind (wpAny_of_eq ((sliceIndices_raw (some (a : Int)) none none items.size (by simp)).trans (congrArg (pure : Int × Int × Int → Sem (Int × Int × Int)) (bounds_from ha))) ?_)
  refine wpAny_bind (wpAny_rule ?_)
  let sel : Int → Int → Int → Nat → Bool := fun start stop step i => if step > 0 then start ≤ i && i < stop && (i - start) % step == 0 else stop < i && i ≤ start && (start - i) % (-step) == 0
  have hsel : ∀ k, k < items.size → sel (a : Int) (items.size : Int) 1 k = decide (a ≤ k) := fun k hk => by
    simp only [sel]
    rw [if_pos (by decide)]
    simp [Int.emod_one]
    omega
  have keep : ∀ (xs : List Value) (o : Nat), (∀ k, o ≤ k → k < o + xs.length → sel (a : Int) (items.size : Int) 1 k = decide (a ≤ k)) → ((xs.zipIdx o).filterMap fun (x, k) => if sel (a : Int) (items.size : Int) 1 k then none else some x) = xs.take (a - o) := by
    intro xs
    induction xs with
    | nil => intro o _; simp
    | cons x r ih =>
      intro o hs
      have h0 := hs o (Nat.le_refl _) (by simp)
      rw [List.zipIdx_cons, List.filterMap_cons]
      dsimp only
      rw [h0, ih (o + 1) fun k h1 h2 => hs k (by omega) (by rw [List.length_cons]; omega)]
      by_cases h : a ≤ o
      · rw [decide_eq_true h, if_pos rfl, show a - (o + 1) = 0 by omega, show a - o = 0 by omega]; simp
      · rw [decide_eq_false h, if_neg Bool.false_ne_true, show a - o = (a - (o + 1)) + 1 by omega, List.take_succ_cons]
  have e1 : ((fun xs : Array Value => (xs.toList.zipIdx.filterMap fun (x, k) => if sel (a : Int) (items.size : Int) 1 k then none else some x).toArray) items) = (items.toList.take a).toArray := by
    show (List.filterMap _ (items.toList.zipIdx 0)).toArray = _
    rw [keep items.toList 0 fun k _ h2 => hsel k (by simpa using h2)]
    rfl
  show wpAny _ _ (updateSeq l (fun xs => (xs.toList.zipIdx.filterMap fun (x, k) => if sel (a : Int) (items.size : Int) 1 k then none else some x).toArray) >>= _) _ _ s
  refine wpAny_bind (wpAny_updateSeq (hz := hsz) (_hz' := by rw [congrArg Array.size e1]; simp; omega) e rfl ?_)
  refine wpAny_bind (wpAny_letGo ?_)
  first
    | exact wpAny_bind (wpAny_pure (wpAny_pure ⟨.none, rfl, wpAny_pure (h _ e1)⟩))
    | exact wpAny_pure ⟨.none, rfl, wpAny_pure (h _ e1)⟩
end
section
variable {X : Cx}
/-- del xs[a:] -/
def tDelSl (to : TE) (tl : TO) : TS := fun D σ H => to σ H fun x H1 => tl σ H1 fun b H2 => ∃ (l : Addr) (xs : List V) (a : Nat), x = .ref l ∧ b = some (a : Int) ∧ H2 l = some (.lst xs) ∧ a ≤ xs.length ∧ D.nx σ (upd H2 l (.lst (xs.take a)))
theorem ps_delSl {o : Expr} {i : Option Expr} {to : TE} {tl : TO} {tpos p2 : Pos} (ho : PE X o to) (hi : PO X i tl) : PS X (.Delete [.Subscript o (.Slice i none none p2) tpos] pos) (tDelSl to tl) := by
  refine ⟨fun pins s σ H D I h => ?_⟩
  refine wpAny_Delete (wpAny_deleteEach_cons (wpAny_delete_Subscript (thn (ho.run pins s σ H _ I h) fun u s1 ⟨x, H1, I1, rx, q1⟩ => ?_)))
  refine wpAny_Slice (thn (hi.run pins s1 σ H1 _ I1 q1) fun vl s2 ⟨b, H2, I2, pl, q2⟩ => ?_)
  rw [evalPart_none]
  refine wpAny_pure ?_
  refine wpAny_pure ?_
  obtain ⟨l, xs, a, rfl, rfl, hH, ha, q⟩ := q2
  cases (show u = Value.ref l from rx)
  have I4 : Inv X pins σ H2 { s2 with heap := s2.heap.push { cls := .type "slice", data := .fields #[vl, .none, .none] } } := I2.kept (t' := s2.toks) fun b ob q => Heap.get?_push_of_some _ q
  obtain ⟨z, its, n, r, hl, e⟩ := I4.lstM hH
  refine delItem_slice (a := a) e (Heap.IsSliceOf.new ..) pl (by rw [List.size_toArray]; omega) (by rw [List.size_toArray]; omega) fun f hf => ?_
  refine wpAny_deleteEach_nil ⟨σ, _, ?_, q⟩
  refine I4.lset (its' := its.take a) (t' := s2.toks) hH e hf (r.take _) ?_
  rw [List.length_take]; omega
end
end L2

namespace Ah
open PySem PySem.Spec PyProof.Rows L2 LamX NdefX
section
variable {L : La} {M : Amb} {n m : Nat} {H Hs H' : Hp} {σ : L2.St} {e : AEnv} {v : V} {a : A} {i : Nat}
/-! ## reversed(l) walked -/
def aRevI (w : AAW) : AIW := fun e n q => w e n fun as m => ∃ xs, stos as = some [.list xs] ∧ q xs.reverse m
theorem ab_irev {t : TA} {w : AAW} (h : AbA L t w) : AbI L (iRev L.K t) (aRevI w) := by
  intro M n H σ e q R l Rp hw p
  refine h M n H σ e _ _ l Rp hw fun vs H1 as m h1 R1 k1 r1 => ?_
  obtain ⟨xs, hx, h1⟩ := h1
  have z := r1.sto hx
  cases z with
  | cons z1 z2 =>
  cases z2
  cases z1 with
  | @lst b us _ g1 g2 g3 =>
    have len := g3.length
    refine ⟨b, us, rfl, SqL.of g2, ?_⟩
    rw [← l.1]
    have get : ∀ {S : Addr → Prop} {H : Hp}, Dz M.K S H (.ref b) (.list xs) → ∃ us, H b = some (.lst us) ∧ Dzs M.K S H us xs := fun {S H} z => by cases z with | lst p q r => exact ⟨_, q, r⟩
    refine p _ H1 _ m [(.ref b, .list xs)] h1 R1 k1 (fun p hp => ?_) ⟨fun i H hi z => ?_, fun H z => ?_, fun i H x H' hi z y => ?_⟩
    · rw [List.mem_singleton.mp hp]; exact .lst g1 g2 g3
    · obtain ⟨us', h1, h2⟩ := get (z _ (List.mem_cons_self ..))
      have l2 := h2.length
      rw [List.length_reverse] at hi
      exact ⟨by omega, us', us'[us.length - 1 - i]'(by omega), SqL.of h1, by rw [List.getElem?_eq_getElem (by omega)]⟩
    · show us.length ≤ xs.reverse.length
      rw [List.length_reverse]; omega
    · obtain ⟨y1, y2⟩ := y
      subst y1
      refine ⟨Kp.refl _ _, fun S hS _ => ?_⟩
      obtain ⟨us', h1, h2⟩ := get (hS _ (List.mem_cons_self ..))
      rw [List.length_reverse] at hi
      obtain ⟨d, hd, hz⟩ := h2.get (y2 us' (SqL.of h1))
      refine ⟨d, ?_, hz⟩
      rw [List.getElem?_reverse hi, ← len]
      exact hd
/-! ## a lambda's promise, told of data -/
def spL (L : La) (Fs : FS) : List (Option V) → Sp := fun ws vs H Q _ => ∃ (M : Amb) (as : List A) (caps : List PyData) (us : List V) (n : Nat) (q : AQ), L.Of M ∧ M.H0 = H ∧ (∀ a, M.S0 a → H a ≠ none) ∧ M.Ok n H ∧ M.pins = [] ∧ M.st = true ∧ ArgsOk M H vs as ∧
  ws = us.map some ∧ Dzs M.K (fun a => a ∈ M.hs ∨ M.S0 a) H us caps ∧ Fs (as ++ caps.map A.d) n q ∧ ∀ v H' a m, q a m → Kp M.hs H H' → M.Ok m H' → RetOk M H H' v a → Q v H'
theorem argsCaps : ∀ {us : List V} {caps : List PyData}, Dzs M.K (fun a => a ∈ M.hs ∨ M.S0 a) H us caps → ArgsOk M H us (caps.map A.d)
  | [], [], .nil => .nil
  | _ :: _, _ :: _, .cons a r => .d a (argsCaps r)
theorem ArgsOk.app {vs us : List V} {as : List A} {caps : List PyData} (h : ArgsOk M H vs as) (hc : Dzs M.K (fun a => a ∈ M.hs ∨ M.S0 a) H us caps) : ArgsOk M H (vs ++ us) (as ++ caps.map A.d) := by
  induction h with
  | nil => exact argsCaps hc
  | d a _ ih => exact .d a ih
  | hd a _ ih => exact .hd a ih
  | rf a _ ih => exact .rf a ih
theorem lokA {P : Program} {w : World} {K : PySem.W.Frag} {mg : Str → Option Value} {base : Heap} {N ps fr : List Str} {F : LF} {f : Addr} {k : Nat} {Fs : FS} (S : NScope N ps fr F.scope)
    (hb : ∀ (pm ctv : Value) (us : List Value), us.length = ps.length → bindArgs (F.fd pm ctv) ⟨us, []⟩ = pure (ps.zip us)) (len : ∀ as n q, Fs as n q → as.length = ps.length + fr.length)
    (body : ∀ (A : Around) (outer : List Env) (s : Shared) (H : Hp) (E : XK), Room k (A.deeper (envF F.nf f s.heap.objs.size)) → ∃ t wv, PE (ncx CX0 P w K mg base N F.nf f A outer s H E) F.body t ∧ AbE L t wv ∧
      ∀ as n q, Fs as n q → wv (startA N as) n fun a m => a.ret ∧ q (a.out (startA N as)) m) :
    LOk P w K mg base CX0 (k + 1) f F ps fr (fun ws vs H Q E => ws.length = fr.length ∧ spL L Fs ws vs H Q E) := by
  refine lok_of S hb (fun ws vs H Q E h => ?_) fun A outer s H vs ws Q E hr hl h => ?_
  · obtain ⟨hl, M, as, caps, us, n, q, _, _, _, _, _, _, ha, e, hc, hF, _⟩ := h
    have := len _ _ _ hF
    rw [List.length_append, List.length_map, ← hc.length, ← ha.len] at this
    rw [e, List.length_map] at hl
    omega
  · obtain ⟨_, M, as, caps, us, n, q, l, e0, hs, O, hp, hst, ha, e, hc, hF, hq⟩ := h
    obtain ⟨t, wv, h1, h2, h3⟩ := body A outer s H E hr
    have lf := len _ _ _ hF
    have hN : ps.length + fr.length ≤ N.length := by
      have q := congrArg List.length S.pre
      rw [List.length_take, List.length_append] at q
      omega
    have est : startF N vs ws = start N (vs ++ us) := by
      rw [e]
      unfold startF L2.start
      rw [List.map_append, List.append_assoc, List.length_map, List.length_append, Nat.sub_sub]
    refine ⟨t, h1, ?_⟩
    rw [est]
    have R := repStart (N := N) (M := M) (by rw [lf]; exact hN) e0 hs O hp (ha.app hc)
    refine h2 M n H _ _ _ _ l R (h3 _ _ _ hF) fun v H1 a m hqa R1 k1 r1 => ?_
    have k1' : Kp M.hs H H1 := by rw [← e0]; exact R1.kp
    have ro := retOf R R1 r1 hqa.1
    rw [e0] at ro
    exact hq v H1 _ m hqa.2 k1' R1.ok ro
/-- what is known of a lambda -/
def lamK (f : Addr) (F : LF) : List (Addr × HO) := [(f, FnL f F), (F.c, CodeO F.c F.qual)]
def aCallLm (j : Nat) (f : Addr) (F : LF) (ps : List (V × PyData)) (Fs : FS) (w : AAW) : AW := fun e n q => e[j]? = some (some (.rf f (lamK f F) ps)) ∧ w e n fun as m => ∃ bs, args as = some bs ∧ Fs (bs ++ ps.map fun p => A.d p.2) m q
theorem dzsPs {K : PySem.W.Frag} {S : Addr → Prop} {H : Hp} : ∀ {ps : List (V × PyData)}, (∀ p ∈ ps, Dz K S H p.1 p.2) → Dzs K S H (ps.map (·.1)) (ps.map (·.2))
  | [], _ => .nil
  | p :: r, h => .cons (h p List.mem_cons_self) (dzsPs fun q hq => h q (List.mem_cons_of_mem _ hq))
theorem ab_callLm {f : Addr} {F : LF} {j : Nat} {ps : List (V × PyData)} {Fs : FS} {E : XK} {t : TA} {w : AAW} {fl : Nat} (hfl : ps.length = fl) (h : AbA L t w) :
    AbE L (tCallLm f F j (ps.map fun p => some p.1) (fun ws vs H Q E => ws.length = fl ∧ spL L Fs ws vs H Q E) E t) (aCallLm j f F ps Fs w) := by
  intro M n H σ e q Q l R hw p
  obtain ⟨he, hw⟩ := hw
  obtain ⟨v, g1, g2, g3, g4⟩ := R.slot j _ he
  subst g2
  refine ⟨g1, (g3 (f, FnL f F) (by simp [lamK])).2, h M n H σ e _ _ l R hw fun vs H1 as m h1 R1 k1 r1 => ?_⟩
  obtain ⟨v', f1, f2, f3, f4⟩ := R1.slot j _ he
  obtain ⟨bs, h2, h3⟩ := h1
  refine ⟨(f3 (f, FnL f F) (by simp [lamK])).2, (f3 (F.c, CodeO F.c F.qual) (by simp [lamK])).2, by rw [List.length_map]; exact hfl, ?_⟩
  refine ⟨M.sub' H1 (M.S σ e), bs, ps.map (·.2), ps.map (·.1), m, q, l, rfl, fun a z => R1.there z, ⟨R1.ok.hand, R1.ok.tabs⟩, rfl, rfl, argsOf (S0 := M.S σ e) (N := M.sub' H1 (M.S σ e)) R1 r1 rfl rfl rfl (fun a z => z) h2, by rw [List.map_map]; rfl, ?_, by rw [List.map_map]; exact h3, fun v H2 a k h4 k2 O2 r2 => ?_⟩
  · refine dzsPs fun p hp => (f4 p hp).weak fun b z => .inl ?_
    rcases z with z | z
    · exact Amb.sub b z
    · exact z
  · have O3 : M.Ok k H2 := ⟨O2.hand, O2.tabs⟩
    exact p.from R.ok k1 v H2 a k h4 (R1.step k2 O3) k2 (retRel (N := M.sub' H1 (M.S σ e)) R1 rfl rfl (fun a z => .inr z) r2)
/-! ## made.append(of(x, taken_off(made, k))) -/
def spTaken : Sp := fun vs H Q _ => ∃ (c : Addr) (xs : List V) (k : Nat), vs = [.ref c, .int (k : Int)] ∧ H c = some (.lst xs) ∧ xs.length ≤ sizeLine ∧ k ≤ xs.length ∧
  ∀ p, H p = none → Q (.ref p) (upd (upd H p (.lst (xs.drop (xs.length - k)))) c (.lst (xs.take (xs.length - k))))
def aAppTaken (i j : Nat) (f : Addr) (F : LF) (ps : List (V × PyData)) (Fs : FS) (w0 w1 : AW) : ASW := fun d e n => ∃ xs, e[i]? = some (some (.ol xs)) ∧ e[j]? = some (some (.rf f (lamK f F) ps)) ∧ xs.length ≤ sizeLine ∧
  w0 e n fun a m => ∃ x, a.sto = some x ∧ w1 e m fun b m2 => ∃ k : Nat, b = .d (.int (k : Int)) ∧ k ≤ xs.length ∧ xs.length - k < sizeLine ∧
    Fs ([.d x, .d (.list (xs.drop (xs.length - k)))] ++ ps.map fun p => A.d p.2) m2 fun y m3 => ∃ y', y.sto = some y' ∧ d.nx (e.set i (some (.ol (xs.take (xs.length - k) ++ [y'])))) m3
theorem as_appTaken {t0 t1 : TE} {w0 w1 : AW} {f : Addr} {F : LF} {i j : Nat} {ps : List (V × PyData)} {Fs : FS} {E E' : XK} {fl : Nat} (hij : j ≠ i) (hfl : ps.length = fl) (h0 : AbE L t0 w0) (h1 : AbE L t1 w1) :
    AbS L (tDrop (tBM L.K "list" rAppend (tVar i) (tCons (tCallLm f F j (ps.map fun p => some p.1) (fun ws vs H Q E => ws.length = fl ∧ spL L Fs ws vs H Q E) E (tCons t0 (tCons (tCall spTaken [] E' (tCons (tVar i) (tCons t1 tNil))) tNil))) tNil))) (aAppTaken i j f F ps Fs w0 w1) := by
  intro M n H σ e D d l R hw k
  obtain ⟨xs, hx, he, hsz, hw⟩ := hw
  obtain ⟨c, vs, g1, g2, g3, g4⟩ := R.ol hx
  obtain ⟨v, s1, s2, s3, s4⟩ := R.slot j _ he
  subst s2
  refine ⟨.ref c, g1, tyL g3, s1, (s3 (f, FnL f F) (by simp [lamK])).2, h0 M n H σ e _ _ l.1 R hw fun x H1 a m q1 R1 k1 r1 => ?_⟩
  obtain ⟨x', hx', q1⟩ := q1
  refine ⟨.ref c, g1, h1 M m H1 σ e _ _ l.1 R1 q1 fun y H2 b m2 q2 R2 k2 r2 => ?_⟩
  obtain ⟨kk, rfl, p1, p2, hF⟩ := q2
  obtain rfl := relI r2
  obtain ⟨c2, vs2, g1', g2', g3', g4'⟩ := R2.ol hx
  rw [g1] at g1'; cases g1'
  have lv := g4'.length
  refine ⟨c, vs2, kk, rfl, g3', by omega, by omega, fun p hp => ?_⟩
  have cp : c ≠ p := ne_of_none g3' hp
  rw [lv]
  let H3 : Hp := upd (upd H2 p (.lst (vs2.drop (xs.length - kk)))) c (.lst (vs2.take (xs.length - kk)))
  have Ra : Rep M m2 (upd H2 p (.lst (vs2.drop (xs.length - kk)))) σ e := R2.new hp
  have ga : (upd H2 p (.lst (vs2.drop (xs.length - kk)))) c = some (.lst vs2) := by rw [upd_ne cp]; exact g3'
  have za : Dzs M.K (M.S σ e) (upd H2 p (.lst (vs2.drop (xs.length - kk)))) (vs2.take (xs.length - kk)) (xs.take (xs.length - kk)) := Dzs.step (M := M) R2.ok (Kp.new hp) Amb.sub (g4'.take _) fun _ z => .inl z
  have R3 : Rep M m2 H3 σ (e.set i (some (.ol (xs.take (xs.length - kk))))) := Ra.putL g1 hx ga za
  generalize he3 : e.set i (some (.ol (xs.take (xs.length - kk)))) = e3 at R3
  have il : i < e.length := (List.getElem?_eq_some_iff.mp hx).1
  have hj3 : e3[j]? = some (some (.rf f (lamK f F) ps)) := by rw [← he3, setNe hij]; exact he
  have hi3 : e3[i]? = some (some (.ol (xs.take (xs.length - kk)))) := by rw [← he3]; exact setAt il
  have sub : ∀ b, M.S σ e3 b → M.S σ e b := fun b z => by
    rcases z with z | z
    · obtain ⟨u, y, u1, u2, u3⟩ := z
      rw [← he3] at u2
      rcases getSet u2 with ⟨eu, _, _⟩ | ⟨_, u2⟩
      · exact .inl ⟨i, _, by rw [← eu]; exact u1, hx, trivial⟩
      · exact .inl ⟨u, y, u1, u2, u3⟩
    · exact .inr z
  have keep : ∀ a o, ¬ M.S σ e a → H2 a = some o → H3 a = some o := fun a o na e => by
    show upd (upd H2 p _) c _ a = _
    rw [upd_ne (fun z => na (by rw [z]; exact g2)), upd_ne (ne_of_none e hp)]
    exact e
  have tup : ∀ a ys, SqT M.K H2 a ys → SqT M.K H3 a ys := fun a ys h => by
    have h1 : SqT M.K (upd H2 p (.lst (vs2.drop (xs.length - kk)))) a ys := SqT.kp (ms := []) (Kp.new hp) none0 h
    exact SqT.kp (ms := [c]) (Kp.put (by simp)) (one1 (Loose.lst ga)) h1
  have zx : Dz M.K (M.S σ e3) H3 x x' := Dz.map keep tup (fun b z => .inl (sub b z)) (Dz.step (M := M) R1.ok k2 Amb.sub (r1.sto hx') fun _ z => .inl z)
  have zl : Dz M.K (M.S σ e3) H3 (.ref p) (.list (xs.drop (xs.length - kk))) := by
    refine .lst (fun z => R2.nS hp (sub p z)) ?_ (Dzs.map keep tup (fun b z => .inl (sub b z)) (g4'.drop _))
    show upd (upd H2 p _) c _ p = _
    rw [upd_ne (fun z => cp z.symm), upd_same]
  have hsub : ∀ b, (b ∈ M.hs ∨ M.S σ e3 b) → M.S σ e3 b := fun b z => by
    rcases z with z | z
    · exact Amb.sub b z
    · exact z
  obtain ⟨v', f1, f2, f3, f4⟩ := R3.slot j _ hj3
  refine ⟨(f3 (f, FnL f F) (by simp [lamK])).2, (f3 (F.c, CodeO F.c F.qual) (by simp [lamK])).2, by rw [List.length_map]; exact hfl, ?_⟩
  refine ⟨M.sub' H3 (M.S σ e3), [.d x', .d (.list (xs.drop (xs.length - kk)))], ps.map (·.2), ps.map (·.1), m2, _, l.1, rfl, fun a z => R3.there z, ⟨R3.ok.hand, R3.ok.tabs⟩, rfl, rfl, ?_, by rw [List.map_map]; rfl, ?_, by rw [List.map_map]; exact hF, fun v H4 a k4 h4 kp4 O4 r4 => ?_⟩
  · exact .d (zx.weak fun b z => .inl (hsub b z)) (.d (zl.weak fun b z => .inl (hsub b z)) .nil)
  · exact dzsPs fun p hp => (f4 p hp).weak fun b z => .inl (hsub b z)
  · obtain ⟨y', hy', h5⟩ := h4
    have O5 : M.Ok k4 H4 := ⟨O4.hand, O4.tabs⟩
    have R4 := R3.step kp4 O5
    have rr := retRel (N := M.sub' H3 (M.S σ e3)) R3 rfl rfl (fun a z => .inr z) r4
    obtain ⟨c4, vs4, q1, q2, q3, q4⟩ := R4.ol hi3
    rw [g1] at q1; cases q1
    refine ⟨c, vs4, v, rfl, rfl, q3, by rw [q4.length, List.length_take]; omega, ?_⟩
    have R5 := R4.putL g1 hi3 q3 (Dzs.append q4 (.cons (rr.sto hy') .nil))
    rw [← he3, List.set_set] at R5
    exact k.nx _ _ _ _ h5 R5
end
end Ah

namespace Ah
open PySem PySem.Spec PyProof.Rows L2 LamX NdefX
/-! ## a def whose promise asks the state that it is called in -/
structure FnS (P : Program) (w : World) (K : PySem.W.Frag) (mg : Str → Option Value) (base : Heap) (CX : CXT) (k : Nat) (f : Addr) (fd : FuncData) (ps : List Str) (sp : Shared → Sp) : Prop where
  many : ∀ s vs H Q E, sp s vs H Q E → vs.length = ps.length
  runs : ∀ (A : Around) (outer : List Env) (s : Shared) (H : Hp) (args : Args) (us : List Value) (vs : List V) (Q : VK) (E : XK),
    Room k A → Env0 P w K mg base A outer s H → BindsTo s fd args (ps.zip us) → Vals vs us → sp s vs H Q E →
    codeAny (model P w) A (.call (.ref f) args) (CR CX outer P w H s Q E) s
def HasS (P : Program) (w : World) (K : PySem.W.Frag) (mg : Str → Option Value) (base : Heap) (k : Nat) (x : Str) (st : Stmt) (ps : List Str) (sp : Shared → Sp) : Prop :=
  ∃ f fd, Fun K x x st f fd ∧ FnS P w K mg base CX0 k f fd ps sp ∧ Binds K fd ps [] ∧ mg x = some (.ref f)
section
variable {P : Program} {w : World} {K : PySem.W.Frag} {mg : Str → Option Value} {base : Heap}
theorem Fun.okS {x qual : Str} {st : Stmt} {f : Addr} {fd : FuncData} {N ps : List Str} {k : Nat} {sp : Shared → Sp} (F : Fun K x qual st f fd) (S : FnScope N ps (defScope st))
    (len : ∀ s vs H Q E, sp s vs H Q E → vs.length = ps.length)
    (hbody : ∀ (cdv : Value) (A : Around) (outer : List Env) (s : Shared) (H : Hp) (vs : List V) (Q : VK) (E : XK),
      Room k (A.deeper (envOfC qual (defScope st) s.heap.objs.size f cdv)) → sp s vs H Q E →
      ∃ t, PSs (cxOf CX0 P w K mg base N qual (defScope st) f cdv A outer s H E).nox (defBody st) t ∧
        t { nx := fun _ H' => Q .non H', rt := Q } (start N vs) H) : FnS P w K mg base CX0 (k + 1) f fd ps sp := by
  obtain ⟨oc, od, kV, doc, pm, an, cdv, ct, osl, rfl, lk, hcd⟩ := F.ex
  constructor
  · exact len
  · intro A outer s H args us vs Q E hr e0 hb rv hsp
    have hl := len _ _ _ _ _ hsp
    have kept : ∀ b o, base.get? b = some o → s.heap.get? b = some o := fun b o e => (e0.bs b o e).1
    have KX : K.In s.heap := e0.mod.kin.keeps kept
    have lim := e0.mod.nolimit.keeps kept
    have kinds : ∀ y ∈ ps.zip us, (defScope st).names.lookup y.1 = some .local ∨
        ((defScope st).names.lookup y.1 = some .cell ∧ ((cellsFrom (s.heap.objs.size + 1) (defScope st).names []).lookup y.1).isSome = true) := by
      rintro ⟨n, v⟩ hy
      rcases S.par n (List.of_mem_zip hy).1 with q | q
      · left; exact q
      · right; exact ⟨q, PySem.W.cellsFrom_some _ _ _ (.inl q)⟩
    refine codeAny_call_function hr.depth (KX _ _ lk) rfl S.co S.gen rfl (PySem.W.codeRec_of KX hcd) (hb _ _ _ _ (wpAny_newFunctionEnv_cells S.kind kinds ?_))
    rintro env rfl s1 x
    refine ⟨lim.keeps x.toInCall.keep, codeAny_func ?_⟩
    obtain ⟨t, ht, hq⟩ := hbody cdv A outer s H vs Q E (hr.deeper _) hsp
    have I := inv_start (CX := CX0) (E := E) S hr.hd e0 hl rv x
    refine wpAny_mono (ht.nox.run [] s1 (start N vs) H _ I hq) (fun fl s' hs => ?_) (fun e s' hs => hs)
    have z := endOfBody hs
    cases fl <;> first | exact z | exact False.elim z
theorem At.hasS {x : Str} {st : Stmt} {N ps : List Str} {k : Nat} {sp : Shared → Sp} (T : At K mg x st) (S : FnScope N ps (defScope st)) (b : Posi x st ps) (len : ∀ s vs H Q E, sp s vs H Q E → vs.length = ps.length)
    (body : ∀ (f : Addr) (cdv : Value) (A : Around) (outer : List Env) (s : Shared) (H : Hp) (vs : List V) (Q : VK) (E : XK), Room k (A.deeper (envOfC x (defScope st) s.heap.objs.size f cdv)) → sp s vs H Q E →
      ∃ t, PSs (cxOf CX0 P w K mg base N x (defScope st) f cdv A outer s H E).nox (defBody st) t ∧ t { nx := fun _ H' => Q .non H', rt := Q } (start N vs) H) :
    HasS P w K mg base (k + 1) x st ps sp := by
  obtain ⟨f, fd, F, m⟩ := T
  exact ⟨f, fd, F, Fun.okS F S len (body f), F.binds b, m⟩
end
/-- the call of such a def: PRE, told of the slots, and what it makes of the state -/
def tCallS (PRE : L2.St → Sp) (E : XK) (t : TA) : TE := fun σ H Q => t σ H fun vs H1 => PRE σ vs H1 Q E
section
variable {X : Cx} {j k : Nat} {x : Str} {st : Stmt} {ps : List Str} {sp : Shared → Sp} {PRE : L2.St → Sp} {p pos : Pos} {e : Expr} {es : List Expr} {t : TA}
theorem pe_callS (D : HasS X.prog X.w X.K X.mg X.base j x st ps sp) (hj : j ≤ k) (hr : Room k X.A) (ha : PA X (e :: es) t)
    (pre : ∀ pins σ H s vs Q, Inv X pins σ H s → PRE σ vs H Q E0 → sp s vs H Q E0) (hg : Gl X x := by rfl)
    (hdb : (x == ("__debug__" : Str)) = false := by decide)
    (he : starEach (e :: es) X.env = (false, eval e X.env) :: starEach es X.env := by rfl) (hpl : (backTo pos (starEach es X.env)).any (·.1) = false := by rfl) :
    PE X (.Call (.Name x p) (e :: es) [] pos) (tCallS PRE E0 t) := by
  obtain ⟨f, fd, F, G, b, m⟩ := D
  constructor
  intro pins s σ H Q I h
  refine wpAny_Call_Name_kw (ld_glob I hg m ?_ hdb)
  have inner := thn (ha.run pos pins s σ H _ I h) fun us s1 (z : AP X pins σ (fun vs H1 => PRE σ vs H1 Q E0) us s1) => z
  refine PySem.W.callWith_K (h₀ := X.base) I.ok.mod.kin F.kp (thn inner fun us s1 z => ?_) he hpl
  obtain ⟨vs, H1, I1, r, q⟩ := z
  refine ⟨I1.kIn, ?_⟩
  have q' := pre pins σ H1 s1 vs Q I1 q
  have hl : us.length = ps.length := r.length.symm.trans (G.many _ _ _ _ _ q')
  have hb := b s1 us I1.kIn (by rw [List.append_nil]; exact hl)
  rw [List.append_nil] at hb
  refine wpAny_call (codeAny_mono (G.runs X.A X.stack s1 H1 ⟨us, []⟩ us vs Q E0 (hr.mono hj) I1.env0 hb r q') fun r s' hq => ?_)
  have z := endOfCall pass0 I1 hq
  cases r with
  | error e => exact z
  | ok fl => cases fl <;> first | exact z | exact False.elim z
end
/-! ## a def that gets a tree and two lambdas, and makes of the tree from below -/
/-- C1, C2: what is known of the lambdas' cells -/
def spFold (P : Program) (w : World) (K : PySem.W.Frag) (mg : Str → Option Value) (base : Heap) (j : Nat) (L : La) (fold : List A → List PyData → List PyData → FS → FS → AQ → Nat → Prop) (C1 C2 : LF → List Str → List (Option V) → Prop) : Sp := fun vs H Q _ =>
  ∃ (M : Amb) (n : Nat) (q : AQ) (a : A) (f1 f2 : Addr) (F1 F2 : LF) (ps1 ps2 : List (V × PyData)) (pr1 pr2 fr1 fr2 : List Str) (Fs1 Fs2 : FS), L.Of M ∧ M.H0 = H ∧ (∀ a, M.S0 a → H a ≠ none) ∧ M.Ok n H ∧ M.pins = [] ∧ M.st = true ∧
    ArgsOk M H vs [a, .rf f1 (lamK f1 F1) ps1, .rf f2 (lamK f2 F2) ps2] ∧
    LOk P w K mg base CX0 j f1 F1 pr1 fr1 (fun ws vs H Q E => ws.length = fr1.length ∧ spL L Fs1 ws vs H Q E) ∧ C1 F1 fr1 (ps1.map fun p => some p.1) ∧ ps1.length = fr1.length ∧
    LOk P w K mg base CX0 j f2 F2 pr2 fr2 (fun ws vs H Q E => ws.length = fr2.length ∧ spL L Fs2 ws vs H Q E) ∧ C2 F2 fr2 (ps2.map fun p => some p.1) ∧ ps2.length = fr2.length ∧
    fold [a] (ps1.map (·.2)) (ps2.map (·.2)) Fs1 Fs2 q n ∧
    ∀ v H' a m, q a m → Kp M.hs H H' → M.Ok m H' → RetOk M H H' v a → Q v H'
def spFoldS (P : Program) (w : World) (K : PySem.W.Frag) (mg : Str → Option Value) (base : Heap) (j : Nat) (L : La) (fold : List A → List PyData → List PyData → FS → FS → AQ → Nat → Prop) : Shared → Sp := fun s vs H Q E =>
  spFold P w K mg base j L fold (fun F fr ws => CellsAt F.cl fr ws s.heap H) (fun F fr ws => CellsAt F.cl fr ws s.heap H) vs H Q E
theorem spFold.len {P : Program} {w : World} {K : PySem.W.Frag} {mg : Str → Option Value} {base : Heap} {j : Nat} {L : La} {fold : List A → List PyData → List PyData → FS → FS → AQ → Nat → Prop} {C1 C2 : LF → List Str → List (Option V) → Prop} {vs : List V} {H : Hp} {Q : VK} {E : XK}
    (h : spFold P w K mg base j L fold C1 C2 vs H Q E) : vs.length = 3 := by
  obtain ⟨M, n, q, a, f1, f2, F1, F2, ps1, ps2, pr1, pr2, fr1, fr2, Fs1, Fs2, _, _, _, _, _, _, ha, _⟩ := h
  exact ha.len
/-- .. as a def's body finds it -/
theorem bodyAt {L : La} {M : Amb} {n : Nat} {H : Hp} {N : List Str} {vs : List V} {as : List A} {q : AQ} {Q : VK} {t : TS} {wp : ASW} (h2 : AbS L t wp) (l : L.Of M) (e0 : M.H0 = H) (hs : ∀ a, M.S0 a → H a ≠ none) (O : M.Ok n H) (hp : M.pins = []) (hst : M.st = true)
    (ha : ArgsOk M H vs as) (hN : as.length ≤ N.length) (h3 : wp { nx := fun _ m => q (.d .none) m, rt := q } (startA N as) n) (hq : ∀ v H' a m, q a m → Kp M.hs H H' → M.Ok m H' → RetOk M H H' v a → Q v H') :
    t { nx := fun _ H' => Q .non H', rt := Q } (start N vs) H := by
  have fin : ∀ v H' a m, q a m → Kp M.hs M.H0 H' → M.Ok m H' → RetOk M M.H0 H' v a → Q v H' := fun v H' a m h4 k O' r => by
    rw [e0] at k r; exact hq v H' a m h4 k O' r
  refine h2 M n H _ _ _ _ ⟨l, hst⟩ (repStart hN e0 hs O hp ha) h3 ⟨fun σ e H' n' h R => ?_, fun _ _ _ _ h => h.elim, fun _ _ _ _ h => h.elim, fin⟩
  exact fin .non H' _ n' h R.kp R.ok .non
end Ah

namespace Ah
open PySem PySem.Spec PyProof.Rows L2 LamX NdefX
section
variable {P : Program} {w : World} {K : PySem.W.Frag} {mg : Str → Option Value} {base : Heap} {x : Str} {st : Stmt} {N ps : List Str} {k : Nat} {F : FS} {L : La} {c : Addr}
theorem AtC.hasA (T : AtC K mg x st c) (S : FnScope N ps (defScope st)) (b : Posi x st ps) (len : ∀ as n q, F as n q → as.length = ps.length)
    (body : ∀ (f : Addr) (A : Around) (outer : List Env) (s : Shared) (H : Hp) (E : XK), Room k (A.deeper (envOfC x (defScope st) s.heap.objs.size f (.ref c))) →
      ∀ (H' : Hp) (vs : List V) (Q : VK), spA L F vs H' Q E → ∃ t, PSs (cxOf CX0 P w K mg base N x (defScope st) f (.ref c) A outer s H E).nox (defBody st) t ∧ t { nx := fun _ H' => Q .non H', rt := Q } (start N vs) H') :
    Has P w K mg base (k + 1) x st ps (spA L F) :=
  T.has S b (fun vs H Q E h => by obtain ⟨M, as, n, q, _, _, _, _, _, _, ha, hF, _⟩ := h; rw [ha.len]; exact len _ _ _ hF)
    fun f A outer s H vs Q E hr h => body f A outer s H E hr H vs Q h
end
/-- data that stands in some slots -/
def capsAt (e : AEnv) : List Nat → Option (List PyData)
  | [] => some []
  | j :: r => match e[j]?, capsAt e r with
    | some (some (.d x)), some xs => some (x :: xs)
    | _, _ => none
section
variable {L : La} {M : Amb} {n m : Nat} {H Hs H' : Hp} {σ : L2.St} {e : AEnv} {v : V} {a : A} {i : Nat}
theorem capsOf (R : Rep M n H σ e) : ∀ {js : List Nat} {caps : List PyData}, capsAt e js = some caps → ∃ ps : List (V × PyData), ps.map (·.2) = caps ∧ (ps.map fun p => some p.1) = js.map (slotAt σ) ∧ ∀ p ∈ ps, Dz M.K (M.S σ e) H p.1 p.2
  | [], caps, h => by cases h; exact ⟨[], rfl, rfl, fun p hp => by cases hp⟩
  | j :: r, caps, h => by
    rw [capsAt] at h
    cases h1 : e[j]? with
    | none => rw [h1] at h; cases h
    | some o =>
      cases o with
      | none => rw [h1] at h; cases h
      | some b =>
        cases h2 : capsAt e r with
        | none => cases b <;> (rw [h1, h2] at h; cases h)
        | some xs =>
          rw [h1, h2] at h
          cases b with
          | d x =>
            cases h
            obtain ⟨ps, e1, e2, e3⟩ := capsOf R h2
            obtain ⟨u, g1, g2⟩ := R.slot j _ h1
            refine ⟨(u, x) :: ps, by rw [List.map_cons, e1], by rw [List.map_cons, List.map_cons, e2, slotAt_of g1], fun p hp => ?_⟩
            rcases List.mem_cons.mp hp with rfl | hp
            · exact g2
            · exact e3 p hp
          | hd => cases h
          | ol _ => cases h
          | od _ => cases h
          | ot _ _ => cases h
          | «at» _ => cases h
          | ty _ => cases h
          | rf _ _ _ => cases h
theorem tblNoCode {P : Addr} {ps : Array Value} (h : H P = some (.tbl ps)) (q : Str) : H P ≠ some (CodeO P q) := by
  rw [h]; intro z; unfold CodeO at z; cases z
/-- a lambda was made -/
theorem Amb.Ok.lam {P0 : Addr} (O : M.Ok n H) (hP : P0 ∈ M.tabs) (k : Kp [P0] H H') (T : TabsN M.lt H') (hlt : ∃ nm, (P0, nm) ∈ M.lt) : M.Ok n H' ∧ Kp M.hs H H' := by
  obtain ⟨⟨ps, hp, ht⟩, _⟩ := O.tabs P0 hP
  have nc : ∀ m ∈ [P0], ∀ q, H m ≠ some (CodeO m q) := one1 (tblNoCode hp)
  have lo : ∀ m ∈ [P0], Loose H m := one1 (O.loose P0 (List.mem_append_right _ hP))
  refine ⟨⟨fun h q => M.hp.keep (O.hand h q) k (fun z => ?_) lo, fun t ht2 => ?_⟩, k.wide fun b hb => by rw [List.mem_singleton.mp hb]; exact List.mem_append_right _ hP⟩
  · rw [List.mem_singleton.mp z] at q
    exact M.hp.tbl (O.hand P0 q) hp
  · by_cases ht3 : t = P0
    · subst ht3
      obtain ⟨nm, hm⟩ := hlt
      obtain ⟨ps', a1, a2, _⟩ := T (t, nm) hm
      exact ⟨⟨ps', a1, a2⟩, fun p hp e => by rw [← e]; exact T p hp⟩
    · exact TabX.keep (O.tabs t ht2) k (by simpa using ht3) nc
theorem Amb.Ok.tabsN (O : M.Ok n H) (h : ∀ p ∈ M.lt, p.1 ∈ M.tabs) : TabsN M.lt H := fun p hp => (O.tabs p.1 (h p hp)).2 p hp rfl
/-- f(e, lambda, lambda) -/
def aFold (js1 js2 : List Nat) (fold : List A → List PyData → List PyData → FS → FS → AQ → Nat → Prop) (Fs1 Fs2 : FS) (w0 : AW) : AW := fun e n q => w0 e n fun a m => ∃ b c1 c2, args [a] = some [b] ∧ capsAt e js1 = some c1 ∧ capsAt e js2 = some c2 ∧ fold [b] c1 c2 Fs1 Fs2 q m
theorem ab_fold {P : Program} {w : World} {K : PySem.W.Frag} {mg : Str → Option Value} {base : Heap} {j : Nat} {fold : List A → List PyData → List PyData → FS → FS → AQ → Nat → Prop} {P0 : Addr} {mk1 mk2 : Addr → LF} {cl1 cl2 : List (Str × Addr)} {pr1 pr2 fr1 fr2 : List Str} {js1 js2 : List Nat}
    {Fs1 Fs2 : FS} {t0 : TE} {w0 : AW} {E : XK} (hP : P0 ∈ L.tb.g) (hlt : ∃ nm, (P0, nm) ∈ L.tb.l) (hsub : ∀ p ∈ L.tb.l, p.1 ∈ L.tb.g)
    (LO1 : ∀ f c', LOk P w K mg base CX0 j f (mk1 c') pr1 fr1 (fun ws vs H Q E => ws.length = fr1.length ∧ spL L Fs1 ws vs H Q E)) (LO2 : ∀ f c', LOk P w K mg base CX0 j f (mk2 c') pr2 fr2 (fun ws vs H Q E => ws.length = fr2.length ∧ spL L Fs2 ws vs H Q E))
    (hc1 : ∀ c', (mk1 c').cl = cl1 ∧ (mk1 c').c = c') (hc2 : ∀ c', (mk2 c').cl = cl2 ∧ (mk2 c').c = c') (hj1 : js1.length = fr1.length) (hj2 : js2.length = fr2.length) (h0 : AbE L t0 w0) :
    AbE L (tCallS (fun σ => spFold P w K mg base j L fold (fun F fr ws => F.cl = cl1 ∧ fr = fr1 ∧ ws = js1.map (slotAt σ)) (fun F fr ws => F.cl = cl2 ∧ fr = fr2 ∧ ws = js2.map (slotAt σ))) E (tCons t0 (tCons (tLam1 P0 L.tb.l mk1) (tCons (tLam1 P0 L.tb.l mk2) tNil))))
      (aFold js1 js2 fold Fs1 Fs2 w0) := by
  intro M n H σ e q Q l R hw p
  have l2 := l.2.1
  have l3 := l.2.2.1
  refine h0 M n H σ e _ _ l R hw fun v H1 a m h1 R1 k1 r1 => ?_
  obtain ⟨b, c1, c2, hb, e1, e2, hF⟩ := h1
  have T1 : TabsN L.tb.l H1 := by rw [← l3]; exact R1.ok.tabsN (by rw [l3, l2]; exact hsub)
  refine ⟨T1, fun f1 d1 H2 kp2 T2 f10 f11 f12 => ?_⟩
  obtain ⟨O2, k2⟩ := R1.ok.lam (by rw [l2]; exact hP) kp2 (by rw [l3]; exact T2) (by rw [l3]; exact hlt)
  have R2 := R1.step k2 O2
  refine ⟨T2, fun f2 d2 H3 kp3 T3 f20 f21 f22 => ?_⟩
  obtain ⟨O3, k3⟩ := R2.ok.lam (by rw [l2]; exact hP) kp3 (by rw [l3]; exact T3) (by rw [l3]; exact hlt)
  have R3 := R2.step k3 O3
  obtain ⟨ps1, g1, g2, g3⟩ := capsOf R3 e1
  obtain ⟨ps2, g4, g5, g6⟩ := capsOf R3 e2
  have hS : ∀ b, (b ∈ (M.sub' H3 (M.S σ e)).hs ∨ (M.sub' H3 (M.S σ e)).S0 b) → M.S σ e b := fun b z => by
    rcases z with z | z
    · exact Amb.sub b z
    · exact z
  have nP : ∀ {f : Addr} {F : LF} {H : Hp} , H f = some (FnL f F) → TabsN L.tb.l H → f ∉ [P0] := fun {f F H} e T z => by
    obtain ⟨nm, hm⟩ := hlt
    obtain ⟨ps, e2, _⟩ := T (P0, nm) hm
    rw [List.mem_singleton.mp z] at e
    have e2 : H P0 = some (.tbl ps) := e2
    rw [e2] at e
    unfold FnL at e
    cases e
  have f11' : H3 f1 = some (FnL f1 (mk1 d1)) := kp3 _ _ (nP f11 T2) f11
  have f12' : H3 (mk1 d1).c = some (CodeO (mk1 d1).c (mk1 d1).qual) := by
    rw [(hc1 d1).2]
    exact k3 _ _ (O2.noCode f12) f12
  have f22' : H3 (mk2 d2).c = some (CodeO (mk2 d2).c (mk2 d2).qual) := by rw [(hc2 d2).2]; exact f22
  have n1 : ¬ M.S σ e f1 := R1.nS f10
  have n2 : ¬ M.S σ e f2 := R2.nS f20
  refine ⟨M.sub' H3 (M.S σ e), m, q, b, f1, f2, mk1 d1, mk2 d2, ps1, ps2, pr1, pr2, fr1, fr2, Fs1, Fs2, l, rfl, fun a z => R3.there z, ⟨R3.ok.hand, R3.ok.tabs⟩, rfl, rfl, ?_, LO1 f1 d1, ⟨(hc1 d1).1, rfl, g2⟩, ?_, LO2 f2 d2, ⟨(hc2 d2).1, rfl, g5⟩, ?_, by rw [g1, g4]; exact hF, fun v H4 a k h4 kk O4 r4 => ?_⟩
  · have r3 : RelRs M (M.S σ e) H H3 σ e [v] [a] := .cons ((r1.step R1.ok k2 R.ok.there).step R2.ok k3 R.ok.there) .nil
    have ha := argsOf (S0 := M.S σ e) (N := M.sub' H3 (M.S σ e)) R3 r3 rfl rfl rfl (fun a z => z) hb
    have rf1 : RfOk M.K (fun a => a ∈ (M.sub' H3 (M.S σ e)).hs ∨ (M.sub' H3 (M.S σ e)).S0 a) H3 (.ref f1) f1 (lamK f1 (mk1 d1)) ps1 := by
      refine ⟨rfl, fun p hp => ?_, fun p hp => (g3 p hp).weak fun b z => .inl (hS b z)⟩
      simp only [lamK, List.mem_cons, List.not_mem_nil, or_false] at hp
      rcases hp with rfl | rfl
      · exact ⟨.inl fun z => n1 (hS _ z), f11'⟩
      · exact ⟨.inr ⟨_, rfl⟩, f12'⟩
    have rf2 : RfOk M.K (fun a => a ∈ (M.sub' H3 (M.S σ e)).hs ∨ (M.sub' H3 (M.S σ e)).S0 a) H3 (.ref f2) f2 (lamK f2 (mk2 d2)) ps2 := by
      refine ⟨rfl, fun p hp => ?_, fun p hp => (g6 p hp).weak fun b z => .inl (hS b z)⟩
      simp only [lamK, List.mem_cons, List.not_mem_nil, or_false] at hp
      rcases hp with rfl | rfl
      · exact ⟨.inl fun z => n2 (hS _ z), f21⟩
      · exact ⟨.inr ⟨_, rfl⟩, f22'⟩
    rcases ha.inv with ⟨z, _⟩ | ⟨v1, a1, us, bs, z1, z2, h1, r1⟩
    · cases z
    · cases z1; cases z2
      exact .cons1 h1 (.rf rf1 (.rf rf2 .nil))
  · have := congrArg List.length g2
    rw [List.length_map, List.length_map] at this
    rw [this]; exact hj1
  · have := congrArg List.length g5
    rw [List.length_map, List.length_map] at this
    rw [this]; exact hj2
  · have O5 : M.Ok k H4 := ⟨O4.hand, O4.tabs⟩
    exact p.from R.ok ((k1.trans k2).trans k3) v H4 a k h4 (R3.step kk O5) kk (retRel (N := M.sub' H3 (M.S σ e)) R3 rfl rfl (fun a z => .inr z) r4)
end
end Ah

namespace Ah
open PySem PySem.Spec PyProof.Rows L2 LamX NdefX
/-! ## lambdas of the text -/
def lamP : Expr → Arguments
  | .Lambda p _ _ _ => p
  | _ => default
def lamB : Expr → Expr
  | .Lambda _ b _ _ => b
  | e => e
def lamS : Expr → Scope
  | .Lambda _ _ s _ => s
  | _ => default
def lamAt : Expr → Pos
  | .Lambda _ _ _ p => p
  | _ => default
/-- the i-th argument of what the k-th statement of a def returns -/
def retArg (st : Stmt) (k i : Nat) : Expr := match (defBody st).getD k (.Pass ⟨0, 0, 0, 0⟩) with
  | .Return (some (.Call _ es _ _)) _ => es.getD i (.Name "" ⟨0, 0, 0, 0⟩)
  | _ => .Name "" ⟨0, 0, 0, 0⟩
def mkL (e : Expr) (env : Env) : Addr → LF := fun c' => ⟨env.qual ++ "<lambda>", lamP e, lamB e, lamS e, cloFrom env.cells (lamS e).names [], c'⟩
theorem pe_lamE {X : Cx} {T : List NTab} {nm : Nat → Nat → Str} {c P : Addr} (e : Expr) (he : e = .Lambda (lamP e) (lamB e) (lamS e) (lamAt e)) (TB : TabB X.base X.mg c P) (hcode : X.env.code = .ref c)
    (hm : (P, nm) ∈ T) (hn : nm (lamAt e).line (lamAt e).col = X.env.qual ++ "<lambda>") (hu : ∀ p ∈ T, p.1 = P → p.2 = nm) (hdef : defaultsOf (lamP e) X.env = ([], []))
    (hfree : ∀ y ∈ (lamS e).names, y.2 = .free → X.env.scope.names.lookup y.1 = some .cell ∨ X.env.scope.names.lookup y.1 = some .free) :
    PE X e (tLam1 P T (mkL e X.env)) := by
  have h := pe_lam1 (X := X) (params := lamP e) (body := lamB e) (scope := lamS e) (pos := lamAt e) TB hcode hm hn hu hdef hfree
  rw [← he] at h
  exact h
theorem spFold.cells {P : Program} {w : World} {K : PySem.W.Frag} {mg : Str → Option Value} {base : Heap} {j : Nat} {L : La} {fold : List A → List PyData → List PyData → FS → FS → AQ → Nat → Prop} {cl1 cl2 : List (Str × Addr)} {fr1 fr2 : List Str} {ws1 ws2 : List (Option V)} {s : Shared}
    {vs : List V} {H : Hp} {Q : VK} {E : XK} (h1 : CellsAt cl1 fr1 ws1 s.heap H) (h2 : CellsAt cl2 fr2 ws2 s.heap H)
    (h : spFold P w K mg base j L fold (fun F fr ws => F.cl = cl1 ∧ fr = fr1 ∧ ws = ws1) (fun F fr ws => F.cl = cl2 ∧ fr = fr2 ∧ ws = ws2) vs H Q E) : spFoldS P w K mg base j L fold s vs H Q E := by
  obtain ⟨M, n, q, a, f1, f2, F1, F2, ps1, ps2, pr1, pr2, r1, r2, Fs1, Fs2, l, e0, hs, O, hp, hst, ha, LO1, ⟨a1, a2, a3⟩, hl1, LO2, ⟨b1, b2, b3⟩, hl2, hF, hq⟩ := h
  subst a2 b2
  exact ⟨M, n, q, a, f1, f2, F1, F2, ps1, ps2, pr1, pr2, _, _, Fs1, Fs2, l, e0, hs, O, hp, hst, ha, LO1, by show CellsAt F1.cl _ _ _ _; rw [a1, a3]; exact h1, hl1, LO2, by show CellsAt F2.cl _ _ _ _; rw [b1, b3]; exact h2, hl2, hF, hq⟩
/-- the cells of a lambda made here -/
theorem cellsMade {X : Cx} {pins : List (Addr × Obj)} {σ : L2.St} {H : Hp} {s : Shared} (e : Expr) {fr : List Str} {js : List Nat} (I : Inv X pins σ H s)
    (hfree : ∀ y ∈ (lamS e).names, y.2 = .free → X.env.scope.names.lookup y.1 = some .cell ∨ X.env.scope.names.lookup y.1 = some .free) (hfr : ∀ y ∈ fr, (y, NameKind.free) ∈ (lamS e).names) (hjs : js.map (fun j => X.N[j]?) = fr.map some) :
    CellsAt (cloFrom X.env.cells (lamS e).names []) fr (js.map (slotAt σ)) s.heap H := cells_of I (Caps.made I.ok hfree hfr hjs)
theorem exTW {X : Cx} {e : Expr} {L : La} {N : List Str} {Fs : FS} {t : TE} {wv : AW} (h1 : PE X e t) (h2 : AbE L t wv) (h3 : ∀ as n q, Fs as n q → wv (startA N as) n fun a m => a.ret ∧ q (a.out (startA N as)) m) :
    ∃ t wv, PE X e t ∧ AbE L t wv ∧ ∀ as n q, Fs as n q → wv (startA N as) n fun a m => a.ret ∧ q (a.out (startA N as)) m := ⟨t, wv, h1, h2, h3⟩
/-! ## (.., *l) of a list -/
def tStarL (K : PySem.W.Frag) (te : TE) (t : TA) : TA := StX.tStar K te t
def aStarL (w : AW) (r : AAW) : AAW := fun e n q => w e n fun a m => ∃ xs, a.rd e = some (.list xs) ∧ r e m fun bs k => q (xs.map A.d ++ bs) k
section
variable {L : La} {M : Amb} {n m : Nat} {H Hs H' : Hp} {σ : L2.St} {e : AEnv} {v : V} {a : A} {i : Nat}
theorem ab_starL {t : TE} {w : AW} {r : TA} {x : AAW} (h : AbE L t w) (h' : AbA L r x) : AbA L (tStarL L.K t r) (aStarL w x) := by
  intro M n H σ e q Q l R hw p
  refine h M n H σ e _ _ l R hw fun v H1 a m h1 R1 k1 r1 => ?_
  obtain ⟨xs, h2, h1⟩ := h1
  obtain ⟨c, us, rfl, c1, c2⟩ := (r1.rdv R1 h2).list
  refine ⟨c, us, rfl, .inr (SqL.of c1), ?_⟩
  refine h' M m H1 σ e _ _ l R1 h1 fun ws H2 bs k g2 R2 k2 r2 => ?_
  have c2' : Dzs M.K (M.S σ e) H2 us xs := Dzs.step R1.ok k2 Amb.sub c2 fun _ z => .inl z
  refine p _ _ _ k g2 R2 (k1.trans k2) ((relsD c2').append ?_)
  clear g2 p
  induction r2 with
  | nil => exact .nil
  | cons a _ ih => exact .cons (a.from R.ok k1) ih
end
/-- the looks at the text -/
def lamFreeB (sc nsc : Scope) (fr : List Str) : Bool := ndefB sc nsc fr
end Ah

namespace Ah
open PySem PySem.Spec PyProof.Rows L2
section
variable {L : La} {M : Amb} {n m : Nat} {H Hs H' : Hp} {σ : L2.St} {e : AEnv} {v : V} {a : A} {i : Nat}
/-! ## divmod -/
abbrev rDivmod : List V → Hp → VK → Prop := fun xs H Q => ∃ i j, xs = [.int i, .int j] ∧ CDiv i j ∧ ∀ p, H p = none → Q (.ref p) (upd H p (.tup [.int (i / j), .int (i % j)]))
def fDivmod : List A → AW := fun as _ n q => ∃ i j, as = [.d (.int i), .d (.int j)] ∧ CDiv i j ∧ q (.d (.tuple [.int (i / j), .int (i % j)])) n
theorem cb_divmod : CbA L rDivmod fDivmod := by
  intro M n H Hs σ e vs as q Q l R ra h p
  obtain ⟨i, j, rfl, hc, h1⟩ := h
  cases ra with
  | cons a b =>
    cases b with
    | cons c d =>
      cases d
      obtain rfl := relI a
      obtain rfl := relI c
      exact ⟨i, j, rfl, hc, fun r hr => p _ _ _ n h1 (R.new hr) (Kp.new hr) (relNewT R hr (.cons (.int _) (.cons (.int _) .nil)))⟩
end
end Ah

namespace Ah
open PySem PySem.Spec PyProof.Rows L2
def topS (i : Nat) : Stmt := PySem.Challenge.pw_aheadofholes_k10_whole_what_comes_of_a_h.main.body.getD i (.Pass ⟨0, 0, 0, 0⟩)
end Ah
namespace Ah
open PySem PySem.Spec PyProof.Rows L2
local macro_rules | `(tactic| walk_at "side") => `(tactic| first | omega | decide | (dsimp only; omega) | (unfold CDivN; omega) | (unfold CMul; omega) | (unfold CPow; omega) | (unfold CPow; decide) | (unfold CMulW; decide) | exact szLe rfl | rfl)
local macro_rules | `(tactic| walk_at "here") => `(tactic| first | assumption | exact upd_same)
local macro_rules | `(tactic| walk_at "go") => `(tactic| repeat (first
  | (refine ⟨_, rfl, ?_⟩)
  | (refine ⟨_, _, rfl, rfl, ?_⟩)
  | (refine ⟨_, _, _, _, rfl, rfl, SqL.of (by walk_at "here"), rfl, ?_⟩)
  | (refine ⟨_, _, _, _, rfl, rfl, (by walk_at "here"), rfl, ?_⟩)
  | (refine ⟨_, _, rfl, ?_⟩)
  | (refine And.intro (by walk_at "side") ?_)))
local macro_rules | `(tactic| walk_at "ab") => `(tactic| (try dsimp only [noxK]); repeat (first
  | with_reducible exact ab_var | with_reducible exact ab_int | with_reducible exact ab_str | with_reducible exact ab_bl | with_reducible exact ab_non | with_reducible exact ab_ty | with_reducible exact ab_nil | with_reducible exact ab_noPart | with_reducible exact ab_yes | with_reducible exact ab_dnew | with_reducible exact ab_xnew
  | with_reducible exact as_next | with_reducible exact as_retN | with_reducible exact as_break | with_reducible exact as_cont | with_reducible exact ab_gname | with_reducible exact ab_gnil
  | with_reducible exact oa_I0 | with_reducible exact oa_I | with_reducible exact oa_eq | with_reducible exact oa_ne | with_reducible exact oa_addQ | with_reducible exact oa_ixQ | with_reducible exact oa_eqD | with_reducible exact oa_neD | with_reducible exact oa_isTyB | with_reducible exact oa_notTyB | with_reducible exact oa_NT | with_reducible exact cb_sortD | with_reducible exact oa_isN | with_reducible exact oa_notN | with_reducible exact oa_mulQ | with_reducible exact oa_mulS | with_reducible exact oa_repT | with_reducible exact oa_inS | with_reducible exact oa_notInS | with_reducible exact oa_cat | with_reducible exact oa_catU
  | with_reducible exact cb_len | with_reducible exact cb_type | with_reducible exact cb_isi | with_reducible exact cb_repr | with_reducible exact cb_listOf | with_reducible exact cb_tupOf | with_reducible exact cb_max2 | with_reducible exact cb_minL | with_reducible exact cb_intB | with_reducible exact cb_all | with_reducible exact cb_any | with_reducible exact cb_listZip | with_reducible exact cb_listZipL | with_reducible exact cb_dictP | with_reducible exact oa_isB | with_reducible exact oa_notB | with_reducible exact cb_tupD | with_reducible exact cb_divmod | with_reducible exact oa_inD | with_reducible exact oa_notInD
  | with_reducible exact ma_join | with_reducible exact ma_find | with_reducible exact ma_count | with_reducible exact ma_split
  | with_reducible apply as_appTaken (by decide) | with_reducible apply as_ifSetd | with_reducible apply as_appPop | with_reducible apply as_update | with_reducible apply as_par3F | with_reducible apply as_asgT3 | with_reducible apply as_asgT2 | with_reducible apply as_frz | with_reducible apply as_setF | with_reducible apply as_parF | with_reducible apply as_seq | with_reducible apply as_if | with_reducible apply as_ret | with_reducible apply as_append | with_reducible apply as_extend | with_reducible apply as_pop | with_reducible apply as_popAt | with_reducible apply as_drop | with_reducible apply as_set | with_reducible apply as_par | with_reducible apply as_asg | with_reducible apply as_for | with_reducible apply as_while
  | with_reducible apply ab_gtup2 | with_reducible apply ab_gtup3 | with_reducible apply ab_gtup4 | with_reducible apply ab_gcons
  | with_reducible apply ab_cons | with_reducible apply ab_op | with_reducible apply ab_test | with_reducible apply ab_tB | with_reducible apply ab_and | with_reducible apply ab_or | with_reducible apply ab_not | with_reducible apply ab_andV | with_reducible apply ab_orV | with_reducible apply ab_notV | with_reducible apply ab_if
  | with_reducible apply ab_un | with_reducible apply ab_tup | with_reducible apply ab_lst | with_reducible apply ab_call | with_reducible apply ab_callK | with_reducible apply ab_cb | with_reducible apply ab_sl | with_reducible apply ab_part | with_reducible apply ab_backT | with_reducible apply ab_back0
  | with_reducible apply ab_lc | with_reducible apply ab_lenSetT | with_reducible apply ab_tupItems | with_reducible apply ab_stepT | with_reducible apply ab_sortItems | with_reducible apply ab_dc | with_reducible apply ab_listRg | with_reducible apply ab_star | with_reducible apply ab_starL | with_reducible apply ab_index | with_reducible apply ab_revL | with_reducible apply ab_callW | with_reducible apply ab_disp1 | with_reducible apply ab_dget1 | with_reducible apply ab_dget2 | with_reducible apply as_dput | with_reducible apply ab_chain | with_reducible apply ab_dget | with_reducible apply ab_din | with_reducible apply ab_dnotin | with_reducible apply ab_xin | with_reducible apply ab_xnotin | with_reducible apply ab_xget | with_reducible apply ab_xget1 | with_reducible apply as_xput
  | with_reducible apply ab_iany | with_reducible apply ab_ilist | with_reducible apply ab_itup | with_reducible apply ab_irng1 | with_reducible apply ab_irng2 | with_reducible apply ab_istr | with_reducible apply ab_ienum | with_reducible apply ab_ienumT
  | with_reducible apply ab_m1 | with_reducible apply ab_callLm | with_reducible apply ab_irev
  | with_reducible apply ab_tru
  | exact ab_keysAdd
  | (refine (show List.length _ = List.length _ from ?_); assumption)
  | rfl | (simp only [Tg.slots, tslots]; rfl)))
local macro_rules | `(tactic| walk_at "ago") => `(tactic| repeat (first
  | refine seqI ?_
  | refine ⟨_, rfl, szLe rfl, ?_⟩
  | refine ⟨_, rfl, ?_⟩
  | refine ⟨trivial, ?_⟩
  | refine ⟨_, _, rfl, rfl, ?_⟩
  | refine ⟨_, _, _, rfl, rfl, rfl, ?_⟩
  | refine ⟨_, _, _, rfl, (by decide), rfl, ?_⟩
  | refine ⟨_, _, _, _, rfl, rfl, rfl, rfl, rfl, ?_⟩
  | refine ⟨_, _, _, rfl, rfl, (by walk_at "side"), rfl, ?_⟩
  | refine ⟨_, _, rfl, rfl, (by walk_at "side"), ?_⟩
  | refine ⟨⟨_, rfl⟩, ?_⟩
  | refine ⟨rfl, ?_⟩))
local macro_rules | `(tactic| walk_at "agos") => `(tactic| repeat (first
  | refine ⟨_, rfl, szLe rfl, ?_⟩
  | refine ⟨_, rfl, ?_⟩
  | refine ⟨trivial, ?_⟩
  | refine ⟨_, _, rfl, rfl, ?_⟩
  | refine ⟨_, _, _, rfl, rfl, rfl, ?_⟩
  | refine ⟨_, _, _, rfl, (by decide), rfl, ?_⟩
  | refine ⟨_, _, _, _, rfl, rfl, rfl, rfl, rfl, ?_⟩
  | refine ⟨_, _, _, rfl, rfl, (by walk_at "side"), rfl, ?_⟩
  | refine ⟨_, _, rfl, rfl, (by walk_at "side"), ?_⟩
  | refine ⟨⟨_, rfl⟩, ?_⟩
  | refine ⟨rfl, ?_⟩))

abbrev s__law_take : Stmt := topS 20
abbrev N__law_take : List Str := ["hand", "many", "digit", "prime", "drawn"]
theorem sc__law_take : FnScope N__law_take ["hand", "many"] (defScope s__law_take) :=
  ⟨rfl, rfl, rfl, by decide +kernel, rfl, by decide +kernel, by decide +kernel⟩
theorem po__law_take : Posi "_law_take" s__law_take ["hand", "many"] := fun _ _ _ _ _ _ us hl => match us, hl with | [_, _], _ => rfl

def spTake : Sp := fun vs H Q _ => ∃ (a : Addr) (m : Int) (n : Nat), vs = [.ref a, .int m] ∧ Hand n H a ∧ n < 1000000 ∧ 1 ≤ m ∧ m < 1073741824 ∧
  ∀ (r : Int) (H' : Hp), 0 ≤ r → r < m → Kp [a] H H' → Hand (n + 1) H' a → Q (.int r) H'
def primes : List V := [.int 2147483647, .int 2147483629, .int 2147483587, .int 2147483579, .int 2147483563]
theorem primeAt (c : Int) : ∃ p : Int, atI primes (c.fmod 5) = some (.int p) ∧ 2147483563 ≤ p ∧ p ≤ 2147483647 := by
  rcases five (c := c) with e | e | e | e | e <;> rw [e]
  · exact ⟨2147483647, rfl, by decide, by decide⟩
  · exact ⟨2147483629, rfl, by decide, by decide⟩
  · exact ⟨2147483587, rfl, by decide, by decide⟩
  · exact ⟨2147483579, rfl, by decide, by decide⟩
  · exact ⟨2147483563, rfl, by decide, by decide⟩
section
variable {P : Program} {w : World} {K : PySem.W.Frag} {mg : Str → Option Value} {base : Heap}
theorem h_take (T : At K mg "_law_take" s__law_take) : Has P w K mg base 1 "_law_take" s__law_take ["hand", "many"] spTake := by
  refine T.has sc__law_take po__law_take (fun vs H Q E h => ?_) (fun f cdv A outer s H vs Q E hr h => ?_)
  · obtain ⟨a, m, n, rfl, _⟩ := h; rfl
  obtain ⟨a, m, n, rfl, ⟨g, d, c, hH, g0, g1, d0, d1, c0, c1⟩, hn, m1, m2, q⟩ := h
  have nd := sc__law_take.nd
  refine ⟨_, (pss_cons (ps_if (pt_cmpR op_gt (pe_ix ix_list (pv 0) pe_int (fun _ _ => rfl)) pe_int (nomark _)) (pss_cons (ps_set (i := 2) nd rfl (Or.inl rfl) (pe_op op_modN (pe_ix ix_list (pv 0) pe_int (fun _ _ => rfl)) (pv 1)))
      (pss_cons (ps_asg (pe_op op_fdivN (pe_ix ix_list (pv 0) pe_int (fun _ _ => rfl)) (pv 1)) (pg_sub (pv 0) pe_int set_list))
      (pss_one (ps_ret (pv 2))))) pss_nil)
      (pss_cons (ps_asg (pe_op op_add (pe_ix ix_list (pv 0) pe_int (fun _ _ => rfl)) pe_int) (pg_sub (pv 0) pe_int set_list))
      (pss_cons (ps_set (i := 3) nd rfl (Or.inl rfl) (pe_ix ix_list (pe_lst (pa_cons pe_int (pa_cons pe_int (pa_cons pe_int (pa_cons pe_int (pa_cons pe_int pa_nil)))))) (pe_op op_modN (pe_ix ix_list (pv 0) pe_int (fun _ _ => rfl)) pe_int) (fun _ _ => rfl)))
      (pss_cons (ps_set (i := 4) nd rfl (Or.inl rfl) (pe_op op_modN (pe_op op_pow (pe_op op_add (pe_ix ix_list (pv 0) pe_int (fun _ _ => rfl)) (pe_op op_mul pe_int (pe_ix ix_list (pv 0) pe_int (fun _ _ => rfl)))) pe_int) (pv 3)))
      (pss_one (ps_ret (pe_op op_modN (pe_op op_fdivN (pe_op op_modN (pe_op op_mul (pv 4) (pe_op op_add (pe_op op_modN (pv 4) pe_int) (pe_ix ix_list (pv 0) pe_int (fun _ _ => rfl)))) (pv 3)) pe_int) (pv 1)))))))), ?_⟩
  walk_at "go"
  refine ite2 (fun t => ?_) (fun t => ?_)
  · walk_at "go"
    have t' : 0 < g := of_decide_eq_true t
    refine q _ _ (fm0 m1) (fm1 m1) (Kp.put (by simp)) ⟨_, _, _, upd_same, fd0 g0 m1, ?_, d0, d1, c0, by omega⟩
    exact Int.lt_of_le_of_lt (fd1 g0 m1) g1
  · walk_at "go"
    intro p hp
    have nap : a ≠ p := fun e => by rw [e, upd_same] at hp; cases hp
    have ha : upd (upd H a (.lst [.int g, .int d, .int (c + 1)])) p (.lst primes) a = some (.lst [.int g, .int d, .int (c + 1)]) := by rw [upd_ne nap, upd_same]
    have hpp : upd (upd H a (.lst [.int g, .int d, .int (c + 1)])) p (.lst primes) p = some (.lst primes) := upd_same
    obtain ⟨pr, e1, e2, e3⟩ := primeAt (c + 1)
    refine ⟨_, rfl, _, _, _, _, rfl, rfl, SqL.of ha, rfl, ?_⟩
    walk_at "go"
    refine ⟨_, _, _, _, rfl, rfl, SqL.of hpp, e1, ?_⟩
    walk_at "go"
    have b0 : 0 ≤ ((d + 7919 * (c + 1)) ^ Int.toNat 3).fmod pr := fm0 (by omega)
    have b1 : ((d + 7919 * (c + 1)) ^ Int.toNat 3).fmod pr < pr := fm1 (by omega)
    refine ⟨.inl ⟨by omega, by omega⟩, ?_⟩
    walk_at "go"
    refine q _ _ (fm0 m1) (fm1 m1) ((Kp.put (by simp)).put0 (Kp.free (ms := [a]) (Kp.put (by simp)) hp (by simpa using fun e => nap e.symm))) ⟨g, d, c + 1, ha, g0, g1, d0, d1, by omega, by omega⟩
abbrev s__law_of : Stmt := topS 21
abbrev N__law_of : List Str := ["hand", "some"]
theorem sc__law_of : FnScope N__law_of ["hand", "some"] (defScope s__law_of) :=
  ⟨rfl, rfl, rfl, by decide +kernel, rfl, by decide +kernel, by decide +kernel⟩
theorem po__law_of : Posi "_law_of" s__law_of ["hand", "some"] := fun _ _ _ _ _ _ us hl => match us, hl with | [_, _], _ => rfl

/-- the draw from a list made within the call, or from a text -/
def spOf : Sp := fun vs H Q _ => ∃ (a : Addr) (s : V) (n : Nat), vs = [.ref a, s] ∧ Hand n H a ∧ n < 1000000 ∧
  ((∃ b xs, s = .ref b ∧ b ≠ a ∧ H b = some (.lst xs) ∧ xs ≠ [] ∧ xs.length < 1000000 ∧ ∀ (i : Nat) (x : V) (H' : Hp), xs[i]? = some x → Kp [a] H H' → Hand (n + 1) H' a → Q x H') ∨
   (∃ z : Str, s = .str z ∧ 1 ≤ z.length ∧ z.length < 1000000 ∧ ∀ (c : Nat) (H' : Hp), c ∈ z.cps.toList → Kp [a] H H' → Hand (n + 1) H' a → Q (.str ⟨#[c]⟩) H'))
theorem h_of (T : At K mg "_law_of" s__law_of) (d__law_take : Has P w K mg base 1 "_law_take" s__law_take ["hand", "many"] spTake) (mb_len : mg "len" = none) :
    Has P w K mg base 2 "_law_of" s__law_of ["hand", "some"] spOf := by
  refine T.has sc__law_of po__law_of (fun vs H Q E h => ?_) (fun f cdv A outer s H vs Q E hr h => ?_)
  · obtain ⟨a, s, n, rfl, _⟩ := h; rfl
  obtain ⟨a, z, n, rfl, hh, hn, h⟩ := h
  have nd := sc__law_of.nd
  refine ⟨_, (pss_one (ps_ret (pe_ix ix_seq (pv 1) (pe_callD d__law_take (by omega) hr (pa_cons (pv 0) (pa_cons (pe_callB call_len (by rfl) mb_len (by decide +kernel) (pa_cons (pv 1) pa_nil)) pa_nil))) (fun _ _ => rfl)))), ?_⟩
  rcases h with ⟨b, xs, rfl, nba, hb, hne, hlen, q⟩ | ⟨y, rfl, hne, hlen, q⟩
  · have hpos : 1 ≤ xs.length := List.length_pos_iff.mpr hne
    refine ⟨_, rfl, _, rfl, _, rfl, _, _, rfl, .inl ⟨_, SqL.of hb, rfl⟩, ?_⟩
    refine ⟨a, (xs.length : Int), n, rfl, hh, hn, by omega, by omega, fun r H' r0 r1 kp hd => ?_⟩
    obtain ⟨x, hx, _, hx2⟩ := atI_in r0 r1
    exact .inl ⟨_, _, _, _, rfl, rfl, SqL.of (kp b _ (by simpa using nba) hb), hx, q _ _ _ hx2 kp hd⟩
  · refine ⟨_, rfl, _, rfl, _, rfl, _, _, rfl, ⟨Nat.le_trans (Nat.le_of_lt hlen) (by decide), rfl⟩, ?_⟩
    refine ⟨a, (y.length : Int), n, rfl, hh, hn, by omega, by omega, fun r H' r0 r1 kp hd => ?_⟩
    have e : y.cps.toList.length = y.length := by simp [Str.length]
    obtain ⟨x, hx, hm, hx2⟩ := atI_in (xs := y.cps.toList) r0 (by rw [e]; exact r1)
    exact .inr (.inr ⟨_, _, _, rfl, rfl, Nat.le_trans (Nat.le_of_lt hlen) (by decide), hx, q _ _ hm kp hd⟩)
abbrev s__law_hand : Stmt := topS 19
abbrev N__law_hand : List Str := ["script", "k", "cell", "great"]
theorem sc__law_hand : FnScope N__law_hand ["script", "k"] (defScope s__law_hand) :=
  ⟨rfl, rfl, rfl, by decide +kernel, rfl, by decide +kernel, by decide +kernel⟩
theorem po__law_hand : Posi "_law_hand" s__law_hand ["script", "k"] := fun _ _ _ _ _ _ us hl => match us, hl with | [_, _], _ => rfl

theorem flag : ∀ b : Bool, -2 ^ 64 < (if b = true then (1 : Int) else 0) ∧ (if b = true then (1 : Int) else 0) < 2 ^ 64 := by decide
theorem big0 : (10 : Int) ^ Int.toNat 60 * 10 ^ Int.toNat 60 * 10 ^ Int.toNat 60 ≠ 0 := by decide
theorem big1 : (10 : Int) ^ Int.toNat 60 * 10 ^ Int.toNat 60 * 10 ^ Int.toNat 60 = 10 ^ 180 := by decide
theorem great (x : Int) (b : Bool) : 0 ≤ x.fmod (10 ^ Int.toNat 60 * 10 ^ Int.toNat 60 * 10 ^ Int.toNat 60) * (if b = true then 1 else 0) ∧
    x.fmod (10 ^ Int.toNat 60 * 10 ^ Int.toNat 60 * 10 ^ Int.toNat 60) * (if b = true then 1 else 0) < 10 ^ 180 := by
  rw [big1]
  have h0 : 0 ≤ x.fmod (10 ^ 180) := fm0 (by decide)
  have h1 : x.fmod (10 ^ 180) < 10 ^ 180 := fm1 (by decide)
  cases b
  · simp
  · simp only [if_true, Int.mul_one]; exact ⟨h0, h1⟩
def spHand (K : PySem.W.Frag) : Sp := fun vs H Q _ => ∃ (a : Addr) (ns : List Int) (k : Nat), vs = [.ref a, .int k] ∧ SqL K H a (ns.map V.int) ∧ k < 1000 ∧
  ∀ (r : Addr) (H' : Hp), H r = none → Kp [] H H' → Hand 0 H' r → Q (.ref r) H'
theorem h_hand (T : At K mg "_law_hand" s__law_hand) (mb_len : mg "len" = none) (mb_abs : mg "abs" = none) (mb_int : mg "int" = none) :
    Has P w K mg base 1 "_law_hand" s__law_hand ["script", "k"] (spHand K) := by
  refine T.has sc__law_hand po__law_hand (fun vs H Q E h => ?_) (fun f cdv A outer s H vs Q E hr h => ?_)
  · obtain ⟨a, ns, k, rfl, _⟩ := h; rfl
  obtain ⟨a, ns, k, rfl, hs, hk, q⟩ := h
  have nd := sc__law_hand.nd
  refine ⟨_, (pss_cons (ps_set (i := 2) nd rfl (Or.inl rfl) (pe_ifExp (pt_cmpR op_lt (pv 1) (pe_callB call_len_seq (by rfl) mb_len (by decide +kernel) (pa_cons (pv 0) pa_nil)) (nomark _)) (pe_ix ix_list (pv 0) (pv 1) (fun _ _ => rfl)) pe_int))
      (pss_cons (ps_set (i := 3) nd rfl (Or.inl rfl) (pe_op op_mul (pe_op op_modN (pe_callB call_abs (by rfl) mb_abs (by decide +kernel) (pa_cons (pv 2) pa_nil)) (pe_op op_mulW (pe_op op_mulW (pe_op op_pow pe_int pe_int) (pe_op op_pow pe_int pe_int)) (pe_op op_pow pe_int pe_int))) (pe_callTy call_int1 (by rfl) mb_int (by decide +kernel) (pa_cons (pe_cmpR op_ge (pe_callB call_abs (by rfl) mb_abs (by decide +kernel) (pa_cons (pv 2) pa_nil)) (pe_op op_pow pe_int pe_int) (nomark _)) pa_nil))))
      (pss_one (ps_ret (pe_lst (pa_cons (pv 3) (pa_cons (pe_op op_modN (pe_op op_mul (pe_op op_add (pe_op op_add (pe_op op_modN (pv 2) pe_int) (pe_op op_mul pe_int (pv 1))) pe_int) pe_int) pe_int) (pa_cons pe_int pa_nil)))))))), ?_⟩
  refine ⟨_, rfl, _, rfl, _, _, rfl, .inl hs, _, _, rfl, rfl, _, rfl, ite2 (fun t => ?_) (fun t => ?_)⟩
  · have t' : ((k : Nat) : Int) < (((ns.map V.int).length : Nat) : Int) := of_decide_eq_true t
    obtain ⟨x, hx, hm, _⟩ := atI_in (xs := ns.map V.int) (by omega) t'
    obtain ⟨cell, _, rfl⟩ := List.mem_map.mp hm
    refine ⟨_, rfl, _, rfl, _, _, _, _, rfl, rfl, hs, hx, ?_⟩
    walk_at "go"
    refine ⟨big0, ?_⟩
    walk_at "go"
    refine .inr ⟨_, rfl, _, _, rfl, rfl, .inr (flag _), ?_⟩
    walk_at "go"
    exact fun p hp => q _ _ hp (Kp.new hp) ⟨_, _, _, upd_same, (great _ _).1, (great _ _).2, fm0 (by decide), fm1 (by decide), by decide, by decide⟩
  · walk_at "go"
    refine .inr ⟨_, rfl, _, _, rfl, rfl, .inr (flag _), ?_⟩
    walk_at "go"
    exact fun p hp => q _ _ hp (Kp.new hp) ⟨_, _, _, upd_same, (great _ _).1, (great _ _).2, fm0 (by decide), fm1 (by decide), by decide, by decide⟩
end
end Ah
namespace Ah
open PySem PySem.Spec PyProof.Rows L2
section
variable {P : Program} {w : World} {K : PySem.W.Frag} {mg : Str → Option Value} {base : Heap} {tb : TBs}
theorem a_take (D : Has P w K mg base 1 "_law_take" s__law_take ["hand", "many"] spTake) : Has P w K mg base 1 "_law_take" s__law_take ["hand", "many"] (spA (lw K tb) fTake) :=
  hasToA D fun M as n q vs H Q E l e0 hs O ha hF hq => by
    unfold fTake at hF
    obtain ⟨m, rfl, hn, m1, m2, hq2⟩ := hF
    obtain ⟨b, us, hb, rfl, ha1⟩ := ha.hd1
    obtain ⟨v, us, rfl, hv, ha2⟩ := ha1.d1
    obtain rfl := ha2.nil1
    cases hv
    exact ⟨b, m, n, rfl, (by have z := O.hand b hb; rw [l.2.2.2] at z; exact z), hn, m1, m2, fun r H' r0 r1 k hd => by
      obtain ⟨k2, O2⟩ := O.drawn l.2.2.2 hb k hd
      exact hq _ H' _ _ (hq2 r r0 r1) k2 O2 (.int r)⟩
theorem a_of (D : Has P w K mg base 2 "_law_of" s__law_of ["hand", "some"] spOf) : Has P w K mg base 2 "_law_of" s__law_of ["hand", "some"] (spA (lw K tb) fOf) :=
  hasToA D fun M as n q vs H Q E l e0 hs O ha hF hq => by
    unfold fOf at hF
    obtain ⟨hn, h⟩ := hF
    rcases h with ⟨xs, rfl, h1, h2, h3⟩ | ⟨z, rfl, h1, h2, h3⟩
    · obtain ⟨b, us, hb, rfl, ha1⟩ := ha.hd1
      obtain ⟨v, us, rfl, hv, ha2⟩ := ha1.d1
      obtain rfl := ha2.nil1
      have bm : b ∈ M.hs := List.mem_append_left _ (by rw [hb]; exact List.mem_singleton.mpr rfl)
      cases hv with
      | @lst c vs _ g1 g2 g3 =>
        refine ⟨b, .ref c, n, rfl, (by have z := O.hand b hb; rw [l.2.2.2] at z; exact z), hn, .inl ⟨c, vs, rfl, (fun z => g1 (.inl (by rw [z]; exact bm))), g2, ?_, by rw [g3.length]; exact h2, fun i x H' hx k hd => ?_⟩⟩
        · rintro rfl; cases g3; exact h1 rfl
        · obtain ⟨k2, O2⟩ := O.drawn l.2.2.2 hb k hd
          obtain ⟨d, h4, h5⟩ := g3.get hx
          exact hq x H' _ _ (h3 d (List.mem_of_getElem? h4)) k2 O2 (Dz.step O k2 (fun a z => .inl z) h5 fun a z => .inl z)
    · obtain ⟨b, us, hb, rfl, ha1⟩ := ha.hd1
      obtain ⟨v, us, rfl, hv, ha2⟩ := ha1.d1
      obtain rfl := ha2.nil1
      cases hv
      refine ⟨b, .str z, n, rfl, (by have z := O.hand b hb; rw [l.2.2.2] at z; exact z), hn, .inr ⟨z, rfl, h1, h2, fun c H' hc k hd => ?_⟩⟩
      obtain ⟨k2, O2⟩ := O.drawn l.2.2.2 hb k hd
      exact hq _ H' _ _ (h3 c hc) k2 O2 (.str _)
end
end Ah
namespace Ah
open PySem PySem.Spec PyProof.Rows L2
local macro_rules | `(tactic| walk_at "side") => `(tactic| first | omega | decide | (dsimp only; omega) | (unfold CDivN; omega) | (unfold CMul; omega) | (unfold CPow; omega) | (unfold CPow; decide) | (unfold CMulW; decide) | exact szLe rfl | rfl)
local macro_rules | `(tactic| walk_at "here") => `(tactic| first | assumption | exact upd_same)
local macro_rules | `(tactic| walk_at "go") => `(tactic| repeat (first
  | (refine ⟨_, rfl, ?_⟩)
  | (refine ⟨_, _, rfl, rfl, ?_⟩)
  | (refine ⟨_, _, _, _, rfl, rfl, SqL.of (by walk_at "here"), rfl, ?_⟩)
  | (refine ⟨_, _, _, _, rfl, rfl, (by walk_at "here"), rfl, ?_⟩)
  | (refine ⟨_, _, rfl, ?_⟩)
  | (refine And.intro (by walk_at "side") ?_)))
local macro_rules | `(tactic| walk_at "ab") => `(tactic| (try dsimp only [noxK]); repeat (first
  | with_reducible exact ab_var | with_reducible exact ab_int | with_reducible exact ab_str | with_reducible exact ab_bl | with_reducible exact ab_non | with_reducible exact ab_ty | with_reducible exact ab_nil | with_reducible exact ab_noPart | with_reducible exact ab_yes | with_reducible exact ab_dnew | with_reducible exact ab_xnew
  | with_reducible exact as_next | with_reducible exact as_retN | with_reducible exact as_break | with_reducible exact as_cont | with_reducible exact ab_gname | with_reducible exact ab_gnil
  | with_reducible exact oa_I0 | with_reducible exact oa_I | with_reducible exact oa_eq | with_reducible exact oa_ne | with_reducible exact oa_addQ | with_reducible exact oa_ixQ | with_reducible exact oa_eqD | with_reducible exact oa_neD | with_reducible exact oa_isTyB | with_reducible exact oa_notTyB | with_reducible exact oa_NT | with_reducible exact cb_sortD | with_reducible exact oa_isN | with_reducible exact oa_notN | with_reducible exact oa_mulQ | with_reducible exact oa_mulS | with_reducible exact oa_repT | with_reducible exact oa_inS | with_reducible exact oa_notInS | with_reducible exact oa_cat | with_reducible exact oa_catU
  | with_reducible exact cb_len | with_reducible exact cb_type | with_reducible exact cb_isi | with_reducible exact cb_repr | with_reducible exact cb_listOf | with_reducible exact cb_tupOf | with_reducible exact cb_max2 | with_reducible exact cb_minL | with_reducible exact cb_intB | with_reducible exact cb_all | with_reducible exact cb_any | with_reducible exact cb_listZip | with_reducible exact cb_listZipL | with_reducible exact cb_dictP | with_reducible exact oa_isB | with_reducible exact oa_notB | with_reducible exact cb_tupD | with_reducible exact cb_divmod | with_reducible exact oa_inD | with_reducible exact oa_notInD
  | with_reducible exact ma_join | with_reducible exact ma_find | with_reducible exact ma_count | with_reducible exact ma_split
  | with_reducible apply as_appTaken (by decide) | with_reducible apply as_ifSetd | with_reducible apply as_appPop | with_reducible apply as_update | with_reducible apply as_par3F | with_reducible apply as_asgT3 | with_reducible apply as_asgT2 | with_reducible apply as_frz | with_reducible apply as_setF | with_reducible apply as_parF | with_reducible apply as_seq | with_reducible apply as_if | with_reducible apply as_ret | with_reducible apply as_append | with_reducible apply as_extend | with_reducible apply as_pop | with_reducible apply as_popAt | with_reducible apply as_drop | with_reducible apply as_set | with_reducible apply as_par | with_reducible apply as_asg | with_reducible apply as_for | with_reducible apply as_while
  | with_reducible apply ab_gtup2 | with_reducible apply ab_gtup3 | with_reducible apply ab_gtup4 | with_reducible apply ab_gcons
  | with_reducible apply ab_cons | with_reducible apply ab_op | with_reducible apply ab_test | with_reducible apply ab_tB | with_reducible apply ab_and | with_reducible apply ab_or | with_reducible apply ab_not | with_reducible apply ab_andV | with_reducible apply ab_orV | with_reducible apply ab_notV | with_reducible apply ab_if
  | with_reducible apply ab_un | with_reducible apply ab_tup | with_reducible apply ab_lst | with_reducible apply ab_call | with_reducible apply ab_callK | with_reducible apply ab_cb | with_reducible apply ab_sl | with_reducible apply ab_part | with_reducible apply ab_backT | with_reducible apply ab_back0
  | with_reducible apply ab_lc | with_reducible apply ab_lenSetT | with_reducible apply ab_tupItems | with_reducible apply ab_stepT | with_reducible apply ab_sortItems | with_reducible apply ab_dc | with_reducible apply ab_listRg | with_reducible apply ab_star | with_reducible apply ab_starL | with_reducible apply ab_index | with_reducible apply ab_revL | with_reducible apply ab_callW | with_reducible apply ab_disp1 | with_reducible apply ab_dget1 | with_reducible apply ab_dget2 | with_reducible apply as_dput | with_reducible apply ab_chain | with_reducible apply ab_dget | with_reducible apply ab_din | with_reducible apply ab_dnotin | with_reducible apply ab_xin | with_reducible apply ab_xnotin | with_reducible apply ab_xget | with_reducible apply ab_xget1 | with_reducible apply as_xput
  | with_reducible apply ab_iany | with_reducible apply ab_ilist | with_reducible apply ab_itup | with_reducible apply ab_irng1 | with_reducible apply ab_irng2 | with_reducible apply ab_istr | with_reducible apply ab_ienum | with_reducible apply ab_ienumT
  | with_reducible apply ab_m1 | with_reducible apply ab_callLm | with_reducible apply ab_irev
  | with_reducible apply ab_tru
  | exact ab_keysAdd
  | (refine (show List.length _ = List.length _ from ?_); assumption)
  | rfl | (simp only [Tg.slots, tslots]; rfl)))
local macro_rules | `(tactic| walk_at "ago") => `(tactic| repeat (first
  | refine seqI ?_
  | refine ⟨_, rfl, szLe rfl, ?_⟩
  | refine ⟨_, rfl, ?_⟩
  | refine ⟨trivial, ?_⟩
  | refine ⟨_, _, rfl, rfl, ?_⟩
  | refine ⟨_, _, _, rfl, rfl, rfl, ?_⟩
  | refine ⟨_, _, _, rfl, (by decide), rfl, ?_⟩
  | refine ⟨_, _, _, _, rfl, rfl, rfl, rfl, rfl, ?_⟩
  | refine ⟨_, _, _, rfl, rfl, (by walk_at "side"), rfl, ?_⟩
  | refine ⟨_, _, rfl, rfl, (by walk_at "side"), ?_⟩
  | refine ⟨⟨_, rfl⟩, ?_⟩
  | refine ⟨rfl, ?_⟩))
local macro_rules | `(tactic| walk_at "agos") => `(tactic| repeat (first
  | refine ⟨_, rfl, szLe rfl, ?_⟩
  | refine ⟨_, rfl, ?_⟩
  | refine ⟨trivial, ?_⟩
  | refine ⟨_, _, rfl, rfl, ?_⟩
  | refine ⟨_, _, _, rfl, rfl, rfl, ?_⟩
  | refine ⟨_, _, _, rfl, (by decide), rfl, ?_⟩
  | refine ⟨_, _, _, _, rfl, rfl, rfl, rfl, rfl, ?_⟩
  | refine ⟨_, _, _, rfl, rfl, (by walk_at "side"), rfl, ?_⟩
  | refine ⟨_, _, rfl, rfl, (by walk_at "side"), ?_⟩
  | refine ⟨⟨_, rfl⟩, ?_⟩
  | refine ⟨rfl, ?_⟩))

abbrev s_is_hole : Stmt := topS 4
abbrev N_is_hole : List Str := ["tree"]
theorem sc_is_hole : FnScope N_is_hole ["tree"] (defScope s_is_hole) :=
  ⟨rfl, rfl, rfl, by decide +kernel, rfl, by decide +kernel, by decide +kernel⟩
theorem po_is_hole : Posi "is_hole" s_is_hole ["tree"] := fun _ _ _ _ _ _ us hl => match us, hl with | [_], _ => rfl

abbrev s_begin_alike : Stmt := topS 5
abbrev N_begin_alike : List Str := ["one", "other"]
theorem sc_begin_alike : FnScope N_begin_alike ["one", "other"] (defScope s_begin_alike) :=
  ⟨rfl, rfl, rfl, by decide +kernel, rfl, by decide +kernel, by decide +kernel⟩
theorem po_begin_alike : Posi "begin_alike" s_begin_alike ["one", "other"] := fun _ _ _ _ _ _ us hl => match us, hl with | [_, _], _ => rfl

abbrev s_is_just : Stmt := topS 1
abbrev N_is_just : List Str := ["thing", "wanted", "left", "there", "due"]
theorem sc_is_just : FnScope N_is_just ["thing", "wanted"] (defScope s_is_just) :=
  ⟨rfl, rfl, rfl, by decide +kernel, rfl, by decide +kernel, by decide +kernel⟩
theorem po_is_just : Posi "is_just" s_is_just ["thing", "wanted"] := fun _ _ _ _ _ _ us hl => match us, hl with | [_, _], _ => rfl

abbrev s_match : Stmt := topS 16
abbrev N_match : List Str := ["head", "form", "put", "left", "wanted", "there"]
theorem sc_match : FnScope N_match ["head", "form"] (defScope s_match) :=
  ⟨rfl, rfl, rfl, by decide +kernel, rfl, by decide +kernel, by decide +kernel⟩
theorem po_match : Posi "match" s_match ["head", "form"] := fun _ _ _ _ _ _ us hl => match us, hl with | [_, _], _ => rfl

abbrev s_is_instance : Stmt := topS 17
abbrev N_is_instance : List Str := ["one", "other"]
theorem sc_is_instance : FnScope N_is_instance ["one", "other"] (defScope s_is_instance) :=
  ⟨rfl, rfl, rfl, by decide +kernel, rfl, by decide +kernel, by decide +kernel⟩
theorem po_is_instance : Posi "is_instance" s_is_instance ["one", "other"] := fun _ _ _ _ _ _ us hl => match us, hl with | [_, _], _ => rfl

def Tr.isH : Tr → Bool
  | .h _ => true
  | .n _ _ => false
def fIsHole : FS := fun as n q => ∃ t : Tr, as = [.d t.data] ∧ q (.d (.bool t.isH)) n
def fAlike : FS := fun as n q => ∃ f ps g qs, as = [.d (Tr.n f ps).data, .d (Tr.n g qs).data] ∧ q (.d (.bool (decide (f = g) && decide (ps.length = qs.length)))) n
section
variable {P : Program} {w : World} {K : PySem.W.Frag} {mg : Str → Option Value} {base : Heap} {tb : TBs}
theorem a_is_hole (T : At K mg "is_hole" s_is_hole) (mb_type : mg "type" = none) (mb_str : mg "str" = none) :
    Has P w K mg base 1 "is_hole" s_is_hole ["tree"] (spA (lw K tb) fIsHole) := by
  refine T.hasA sc_is_hole po_is_hole (fun as n q h => by obtain ⟨t, rfl, _⟩ := h; rfl) (fun f cdv Ar outer s H E hr => ?_)
  have nd := sc_is_hole.nd
  refine' bodyA (fun as n q h => by obtain ⟨t, rfl, _⟩ := h; show 1 ≤ 1; decide) (pss_one (ps_ret (pe_cmpR op_isTyB (pe_callTy (typQ K) (by rfl) mb_type (by decide +kernel) (pa_cons (pv 0) pa_nil)) (pe_ty_str mb_str) (nomark _)))) ?ab ?go
  case ab => walk_at "ab"
  case go =>
    rintro as n q ⟨t, rfl, hq⟩
    walk_at "ago"
    cases t with
    | h z => exact hq
    | n f ps => exact hq
theorem a_begin_alike (T : At K mg "begin_alike" s_begin_alike) (mb_len : mg "len" = none) :
    Has P w K mg base 1 "begin_alike" s_begin_alike ["one", "other"] (spA (lw K tb) fAlike) := by
  refine T.hasA sc_begin_alike po_begin_alike (fun as n q h => by obtain ⟨f, ps, g, qs, rfl, _⟩ := h; rfl) (fun f cdv Ar outer s H E hr => ?_)
  have nd := sc_begin_alike.nd
  refine' bodyA (fun as n q h => by obtain ⟨f, ps, g, qs, rfl, _⟩ := h; show 2 ≤ 2; decide) (pss_one (ps_ret (pe_and (pe_cmpR op_eq (pe_ix (ixQ K) (pv 0) pe_int (fun _ _ => rfl)) (pe_ix (ixQ K) (pv 1) pe_int (fun _ _ => rfl)) (nomark _)) (pe_one (pe_cmpR op_eq (pe_callB (lenQ K) (by rfl) mb_len (by decide +kernel) (pa_cons (pv 0) pa_nil)) (pe_callB (lenQ K) (by rfl) mb_len (by decide +kernel) (pa_cons (pv 1) pa_nil)) (nomark _)))))) ?ab ?go
  case ab => walk_at "ab"
  case go =>
    rintro as n q ⟨f, ps, g, qs, rfl, hq⟩
    rw [Tr.data, Tr.data]
    walk_at "ago"
    refine ⟨_, atI0, ?_⟩
    walk_at "ago"
    refine ⟨_, atI0, ?_⟩
    walk_at "ago"
    refine iff_d (fun e => ?_) (fun e => ?_)
    · have e' : f = g := by injection e
      walk_at "ago"
      refine ⟨fun z h => (by cases h), ?_⟩
      walk_at "ago"
      refine ⟨fun z h => (by cases h), ?_⟩
      walk_at "ago"
      have el : decide (V.int ((PyData.str f :: datas ps).length : Nat) = V.int ((PyData.str g :: datas qs).length : Nat)) = decide (ps.length = qs.length) := by
        rw [datas_map, datas_map, List.length_cons, List.length_cons, List.length_map, List.length_map]
        by_cases h : ps.length = qs.length
        · rw [decide_eq_true h, h]; exact decide_eq_true rfl
        · rw [decide_eq_false h]
          refine decide_eq_false fun z => h ?_
          injection z with z
          omega
      rw [decide_eq_true e', Bool.true_and, ← el] at hq
      exact hq
    · have e' : f ≠ g := fun z => e (by rw [z])
      rw [decide_eq_false e', Bool.false_and] at hq
      exact ⟨trivial, hq⟩
/-- the trees put for holes, kept in their order -/
abbrev HM := List (Str × Tr)
def HM.data (m : HM) : KM := m.map fun p => (.inr p.1, p.2.data)
def pairTD (p : Tr × Tr) : PyData := .tuple [p.1.data, p.2.data]
def putsD (m : HM) : PyData := .tuple (m.map fun p => .tuple [.str p.1, p.2.data])
def HM.get (m : HM) (z : Str) : Option Tr := (m.find? fun p => decide (p.1 = z)).map (·.2)
def matchGo : Nat → List (Tr × Tr) → HM → Option HM
  | 0, _, _ => none
  | _ + 1, [], m => some m
  | j + 1, (.h z, t) :: ws, m => match m.get z with
    | none => matchGo j ws (m ++ [(z, t)])
    | some u => if PyData.eqv u.data t.data then matchGo j ws m else none
  | _ + 1, (.n _ _, .h _) :: _, _ => none
  | j + 1, (.n f ps, .n g qs) :: ws, m => if f = g ∧ ps.length = qs.length then matchGo j (ps.zip qs ++ ws) m else none
def matchD : Option HM → PyData
  | none => .none
  | some m => putsD m
/-- how many turns a stack takes at most -/
def turns (ws : List (Tr × Tr)) : Nat := (ws.map fun p => p.1.size).sum
/-- a tree fit to be told from another -/
def FitT (b : Tr) : Prop := (∀ z ∈ b.pre.map symOf, Sm z ∧ z.length ≤ 17) ∧ b.deep ≤ 50
theorem FitT.shaped {b : Tr} (h : FitT b) : SeqAt.shaped b.data = true := (Tr.pureD b h.1).shaped (by have := h.2; omega)
theorem FitT.nod {b : Tr} (h : FitT b) : b.data.hasDict = false := (Tr.pureD b h.1).nod
theorem preMem : ∀ {qs : List Tr} {u : Tr}, u ∈ qs → (∀ t ∈ u.pre, t ∈ pres qs) ∧ u.deep ≤ deeps qs
  | t :: r, u, h => by
    rcases List.mem_cons.mp h with rfl | h
    · exact ⟨fun t ht => List.mem_append_left _ ht, Nat.le_max_left ..⟩
    · obtain ⟨h1, h2⟩ := preMem h
      exact ⟨fun t ht => List.mem_append_right _ (h1 t ht), Nat.le_trans h2 (Nat.le_max_right ..)⟩
theorem FitT.part {g : Str} {qs : List Tr} (h : FitT (.n g qs)) {u : Tr} (hu : u ∈ qs) : FitT u := by
  obtain ⟨h1, h2⟩ := preMem hu
  refine ⟨fun z hz => ?_, ?_⟩
  · obtain ⟨t, ht, rfl⟩ := List.mem_map.mp hz
    refine h.1 _ (List.mem_map.mpr ⟨t, ?_, rfl⟩)
    show t ∈ Tr.n g qs :: pres qs
    exact List.mem_cons_of_mem _ (h1 t ht)
  · have h3 : deeps qs + 1 ≤ 50 := h.2
    omega
theorem zipSnd : ∀ {ps qs : List Tr} {p : Tr × Tr}, p ∈ ps.zip qs → p.1 ∈ ps ∧ p.2 ∈ qs
  | [], _, p, h => by simp at h
  | _ :: _, [], p, h => by simp at h
  | a :: r, b :: s, p, h => by
    rw [List.zip_cons_cons] at h
    rcases List.mem_cons.mp h with rfl | h
    · exact ⟨List.mem_cons_self, List.mem_cons_self⟩
    · exact ⟨List.mem_cons_of_mem _ (zipSnd h).1, List.mem_cons_of_mem _ (zipSnd h).2⟩
theorem putsEq (m : HM) : putsD m = .tuple (itemsD m.data) := by
  unfold putsD itemsD HM.data
  rw [List.map_map]
  rfl
theorem getFit {m : HM} (h : ∀ p ∈ m, FitT p.2) {z : Str} {u : Tr} (hu : m.get z = some u) : FitT u := by
  unfold HM.get at hu
  cases hf : m.find? fun p => decide (p.1 = z) with
  | none => rw [hf] at hu; cases hu
  | some p =>
    rw [hf] at hu
    cases hu
    exact h p (List.mem_of_find?_eq_some hf)
theorem valData (m : HM) (z : Str) : valM m.data (.inr z) = (m.get z).map Tr.data := by
  unfold valM HM.get HM.data
  rw [List.find?_map]
  have e : ((fun p : Key × PyData => decide (p.1 = (.inr z : Key))) ∘ fun p : Str × Tr => ((.inr p.1 : Key), p.2.data)) = fun p => decide (p.1 = z) := by
    funext p
    show decide ((Sum.inr p.1 : Key) = .inr z) = decide (p.1 = z)
    by_cases h : p.1 = z
    · rw [h, decide_eq_true rfl, decide_eq_true rfl]
    · rw [decide_eq_false h, decide_eq_false fun q => h (by injection q)]
  rw [e]
  cases m.find? fun p => decide (p.1 = z) <;> rfl
theorem noAny {m : HM} {z : Str} (h : m.get z = none) : (m.data.any fun p => decide (p.1 = (.inr z : Key))) = false := by
  refine List.any_eq_false.mpr fun p hp => ?_
  obtain ⟨r, hr, rfl⟩ := List.mem_map.mp hp
  unfold HM.get at h
  have hf := List.find?_eq_none.mp (Option.map_eq_none_iff.mp h) r hr
  intro q
  have q' := of_decide_eq_true q
  injection q' with q'
  exact hf (decide_eq_true q')
theorem size_pos (t : Tr) : 1 ≤ t.size := by
  cases t with
  | h s => rw [size_h]; exact Nat.le_refl _
  | n f ps => rw [size_n]; omega
theorem lenSizes : ∀ ps : List Tr, ps.length ≤ sizes ps
  | [] => Nat.zero_le _
  | t :: r => by
    rw [sizes_cons, List.length_cons]
    have := lenSizes r
    have := size_pos t
    omega
theorem lenTurns : ∀ ws : List (Tr × Tr), ws.length ≤ turns ws
  | [] => Nat.zero_le _
  | p :: r => by
    have := lenTurns r
    have := size_pos p.1
    have e : turns (p :: r) = p.1.size + turns r := by unfold turns; rw [List.map_cons, List.sum_cons]
    rw [e, List.length_cons]
    omega
theorem turnsZip : ∀ ps qs : List Tr, ps.length = qs.length → turns (ps.zip qs) = sizes ps
  | [], _, _ => by simp [turns]; rfl
  | t :: r, [], h => by simp at h
  | t :: r, u :: s, h => by
    rw [List.zip_cons_cons, sizes_cons]
    have := turnsZip r s (by simpa using h)
    unfold turns at this ⊢
    rw [List.map_cons, List.sum_cons, this]
theorem zipPairs (ps qs : List Tr) : zipD (datas ps) (datas qs) = (ps.zip qs).map pairTD := by
  unfold zipD
  rw [datas_map, datas_map, List.zip_map, List.map_map]
  rfl
mutual
theorem eqvSelf : ∀ t : Tr, PyData.eqv t.data t.data = true
  | .h s => by simp [Tr.data, PyData.eqv]
  | .n f ps => by
    rw [Tr.data]
    simp [PyData.eqv, PyData.eqvAll, eqvSelfs ps]
theorem eqvSelfs : ∀ ts : List Tr, PyData.eqvAll (datas ts) (datas ts) = true
  | [] => by simp [datas, PyData.eqvAll]
  | t :: r => by
    rw [datas]
    simp [PyData.eqvAll, eqvSelf t, eqvSelfs r]
end
/-- how much is left to go through, where names are gone through too -/
def wtT (t : Tr) : Nat := 2 * t.size - (if t.isH = true then 1 else 0)
def wtsT (ws : List (Tr × Tr)) : Nat := (ws.map fun p => wtT p.1).sum
theorem wt_le (t : Tr) : wtT t ≤ 2 * t.size := Nat.sub_le _ _
theorem wt_pos (t : Tr) : 1 ≤ wtT t := by
  have := size_pos t
  unfold wtT
  split <;> omega
theorem wts_cons (p : Tr × Tr) (ws : List (Tr × Tr)) : wtsT (p :: ws) = wtT p.1 + wtsT ws := by unfold wtsT; rw [List.map_cons, List.sum_cons]
theorem wts_len : ∀ ws : List (Tr × Tr), ws.length ≤ wtsT ws
  | [] => Nat.zero_le _
  | p :: r => by
    rw [wts_cons, List.length_cons]
    have := wts_len r
    have := wt_pos p.1
    omega
theorem wts_append (ws us : List (Tr × Tr)) : wtsT (ws ++ us) = wtsT ws + wtsT us := by unfold wtsT; rw [List.map_append, List.sum_append]
theorem wts_rev (ws : List (Tr × Tr)) : wtsT ws.reverse = wtsT ws := by
  induction ws with
  | nil => rfl
  | cons p r ih => rw [List.reverse_cons, wts_append, ih, wts_cons, wts_cons]; show wtsT r + (wtT p.1 + 0) = _; omega
theorem wts_zip : ∀ ps qs : List Tr, wtsT (ps.zip qs) ≤ 2 * sizes ps
  | [], _ => by simp [wtsT]
  | t :: r, [] => by simp [wtsT]
  | t :: r, u :: s => by
    rw [List.zip_cons_cons, wts_cons, sizes_cons]
    have := wts_zip r s
    have := wt_le t
    show wtT t + _ ≤ _
    omega
theorem eqvAll_zip : ∀ xs ys : List Tr, xs.length = ys.length → PyData.eqvAll (datas ys) (datas xs) = (xs.zip ys).all fun p => PyData.eqv p.2.data p.1.data
  | [], [], _ => by simp [datas, PyData.eqvAll]
  | x :: xs, y :: ys, h => by
    rw [datas, datas, List.zip_cons_cons, List.all_cons, ← eqvAll_zip xs ys (by simpa using h)]
    simp [PyData.eqvAll]
  | [], _ :: _, h => by simp at h
  | _ :: _, [], h => by simp at h
theorem eqvAll_len : ∀ xs ys : List Tr, PyData.eqvAll (datas ys) (datas xs) = true → xs.length = ys.length
  | [], [], _ => rfl
  | x :: xs, y :: ys, h => by
    rw [datas, datas] at h
    simp only [PyData.eqvAll, Bool.and_eq_true] at h
    rw [List.length_cons, List.length_cons, eqvAll_len xs ys h.2]
  | [], y :: ys, h => by rw [datas, datas] at h; simp [PyData.eqvAll] at h
  | x :: xs, [], h => by rw [datas, datas] at h; simp [PyData.eqvAll] at h
theorem kindH (z : Str) : kindD (Tr.h z).data = "str" := by rw [Tr.data]; rfl
theorem kindT (f : Str) (ps : List Tr) : kindD (Tr.n f ps).data = "tuple" := by rw [Tr.data]; rfl
def fJust : FS := fun as n q => ∃ a b : Tr, as = [.d a.data, .d b.data] ∧ a.size ≤ 5000 ∧ q (.d (.bool (PyData.eqv b.data a.data))) n
theorem a_is_just (T : At K mg "is_just" s_is_just) (mb_type : mg "type" = none) (mb_tuple : mg "tuple" = none) (mb_len : mg "len" = none) (mb_list : mg "list" = none) (mb_zip : mg "zip" = none) :
    Has P w K mg base 1 "is_just" s_is_just ["thing", "wanted"] (spA (lw K tb) fJust) := by
  refine T.hasA sc_is_just po_is_just (fun as n q h => by obtain ⟨a, b, rfl, _⟩ := h; rfl) (fun f cdv Ar outer s H E hr => ?_)
  have nd := sc_is_just.nd
  refine' bodyA (fun as n q h => by obtain ⟨a, b, rfl, _⟩ := h; show 2 ≤ 5; decide) (pss_cons (ps_set (i := 2) nd rfl (Or.inl rfl) (pe_lst (pa_cons (pe_tup (pa_cons (pv 0) (pa_cons (pv 1) pa_nil))) pa_nil)))
      (pss_cons (ps_while PassesOwn.never (pt_truth (pv 2) (by intro _; rfl)) (pss_cons (ps_asg (pe_bm0 PySem.F.plainAttrs_list PySem.F.slot_list_pop PySem.F.type_list_pop mt_pop (pv 2)) (pgTup K 2 rfl (pgs_cons (pg_name (i := 3) nd rfl (.inl rfl)) (pgs_cons (pg_name (i := 4) nd rfl (.inl rfl)) pgs_nil))))
      (pss_one (ps_if (pt_cmpR op_isTyB (pe_callTy (typQ K) (by rfl) mb_type (by decide +kernel) (pa_cons (pv 4) pa_nil)) (pe_ty_tuple mb_tuple) (nomark _)) (pss_cons (ps_if (PW.pt (pw_or (pt_cmpR op_notTyB (pe_callTy (typQ K) (by rfl) mb_type (by decide +kernel) (pa_cons (pv 3) pa_nil)) (pe_ty_tuple mb_tuple) (nomark _)) (pw_or1 (pt_cmpR op_ne (pe_callB (lenQ K) (by rfl) mb_len (by decide +kernel) (pa_cons (pv 3) pa_nil)) (pe_callB (lenQ K) (by rfl) mb_len (by decide +kernel) (pa_cons (pv 4) pa_nil)) (nomark _))))) (pss_one (ps_ret pe_bl)) pss_nil)
      (pss_one (ps_expr (pe_bm PySem.F.plainAttrs_list PySem.F.slot_list_extend PySem.F.type_list_extend (mt_extQ K) (pv 2) (pa_cons (Lz.pe_listZip rfl (pa_cons (pv 3) (pa_cons (pv 4) pa_nil)) (by rfl) mb_list (by decide +kernel) (by rfl) mb_zip) pa_nil))))) (pss_one (ps_if (pt_not (PW.pt (pw_and (pt_cmpR op_isTyB (pe_callTy (typQ K) (by rfl) mb_type (by decide +kernel) (pa_cons (pv 3) pa_nil)) (pe_callTy (typQ K) (by rfl) mb_type (by decide +kernel) (pa_cons (pv 4) pa_nil)) (nomark _)) (pw_and1 (pt_cmpR op_eq (pv 3) (pv 4) (nomark _)))))) (pss_one (ps_ret pe_bl)) pss_nil))))))
      (pss_one (ps_ret pe_bl)))) ?ab ?go
  case ab => walk_at "ab"
  case go =>
    rintro as n q ⟨a, b, rfl, h1, hq⟩
    walk_at "ago"
    refine ⟨2 * a.size + 1, aIter_ind (fun j e k => k = n ∧ ∃ (ws : List (Tr × Tr)) (x3 x4 : Option A), e = [some (.d a.data), some (.d b.data), some (.ol (ws.reverse.map pairTD)), x3, x4] ∧
      wtsT ws < j ∧ j ≤ 10001 ∧ q (.d (.bool (ws.all fun p => PyData.eqv p.2.data p.1.data))) n) (fun e k hG => ?_) (fun j e k hG ih => ?_) _ _ _ ⟨rfl, [(a, b)], none, none, rfl, ?_, ?_, ?_⟩⟩
    · obtain ⟨_, ws, x3, x4, _, h, _⟩ := hG
      omega
    · obtain ⟨rfl, ws, x3, x4, rfl, g1, g2, g3⟩ := hG
      cases ws with
      | nil =>
        walk_at "ago"
        exact g3
      | cons p ws =>
        obtain ⟨u, v⟩ := p
        have es : ((u, v) :: ws).reverse.map pairTD = ws.reverse.map pairTD ++ [.tuple [u.data, v.data]] := by rw [List.reverse_cons, List.map_append]; rfl
        rw [es]
        walk_at "ago"
        refine ifT truL ?_
        walk_at "ago"
        refine popA rfl ?_
        walk_at "ago"
        rw [wts_cons] at g1
        rw [List.all_cons] at g3
        have wu := wt_pos u
        have wl := wts_len ws
        dsimp only at g1 g3
        cases v with
        | h z =>
          rw [kindH]
          refine iff_d (fun z => absurd z (by decide)) (fun _ => ?_)
          walk_at "ago"
          cases u with
          | h s =>
            rw [kindH s, kindH z]
            refine iff_d (fun _ => ?_) (fun z => (z rfl).elim)
            rw [Tr.data, Tr.data]
            walk_at "ago"
            have ev : PyData.eqv (Tr.h z).data (Tr.h s).data = decide (V.str s = V.str z) := by
              rw [Tr.data, Tr.data]
              by_cases h : s = z
              · rw [decide_eq_true (by rw [h]), h]; simp [PyData.eqv]
              · rw [decide_eq_false (fun q => h (by injection q))]
                cases q : PyData.eqv (.str z) (.str s) with
                | false => rfl
                | true => simp only [PyData.eqv] at q; exact (h (eq_of_beq q).symm).elim
            rw [ev] at g3
            by_cases e : V.str s = V.str z
            · rw [decide_eq_true e, Bool.true_and] at g3
              refine ifF (by show (!(decide (V.str s = V.str z))) = false; rw [decide_eq_true e]; rfl) ?_
              exact ih _ _ ⟨rfl, ws, _, _, rfl, by omega, by omega, g3⟩
            · rw [decide_eq_false e, Bool.false_and] at g3
              refine ifT (by show (!(decide (V.str s = V.str z))) = true; rw [decide_eq_false e]; rfl) ?_
              exact ⟨trivial, g3⟩
          | n f ps =>
            rw [kindT, kindH]
            refine iff_d (fun z => absurd z (by decide)) (fun _ => ?_)
            refine ifT rfl ?_
            have ev : PyData.eqv (Tr.h z).data (Tr.n f ps).data = false := by rw [Tr.data, Tr.data]; simp [PyData.eqv]
            rw [ev, Bool.false_and] at g3
            exact ⟨trivial, g3⟩
        | n g qs =>
          rw [kindT]
          refine iff_d (fun _ => ?_) (fun z => (z rfl).elim)
          walk_at "ago"
          cases u with
          | h s =>
            rw [kindH]
            refine ifT rfl (ifT rfl ?_)
            have ev : PyData.eqv (Tr.n g qs).data (Tr.h s).data = false := by rw [Tr.data, Tr.data]; simp [PyData.eqv]
            rw [ev, Bool.false_and] at g3
            exact ⟨trivial, g3⟩
          | n f ps =>
            rw [kindT]
            refine ifF rfl ?_
            have ev : PyData.eqv (Tr.n g qs).data (Tr.n f ps).data = PyData.eqvAll (datas (.h g :: qs)) (datas (.h f :: ps)) := by rw [Tr.data, Tr.data, datas, datas, Tr.data, Tr.data]; simp [PyData.eqv]
            have gn : (Tr.n f ps).size = sizes ps + 1 := size_n f ps
            have gw : wtT (Tr.n f ps) = 2 * sizes ps + 2 := by unfold wtT; rw [gn, if_neg (by simp [Tr.isH])]; omega
            have gp := lenSizes ps
            have hlen : (PyData.str f :: datas ps).length = ps.length + 1 := by rw [datas_map, List.length_cons, List.length_map]
            have hlen2 : (PyData.str g :: datas qs).length = qs.length + 1 := by rw [datas_map, List.length_cons, List.length_map]
            rw [Tr.data, Tr.data]
            walk_at "ago"
            refine ⟨fun z h => (by cases h), ?_⟩
            walk_at "ago"
            refine ⟨fun z h => (by cases h), ?_⟩
            walk_at "ago"
            rw [hlen, hlen2]
            by_cases hl : ps.length = qs.length
            · have hl2 : (Tr.h f :: ps).length = (Tr.h g :: qs).length := by rw [List.length_cons, List.length_cons, hl]
              rw [ev, eqvAll_zip _ _ hl2] at g3
              refine ifF (by rw [decide_eq_true (by rw [hl])]; rfl) ?_
              refine ⟨⟨_, rfl⟩, ?_⟩
              walk_at "ago"
              have ez : zipD (.str f :: datas ps) (.str g :: datas qs) = ((Tr.h f :: ps).zip (Tr.h g :: qs)).map pairTD := by
                rw [← zipPairs, datas, datas, Tr.data, Tr.data]
              have lz : ((Tr.h f :: ps).zip (Tr.h g :: qs)).length = ps.length + 1 := by rw [List.length_zip, List.length_cons, List.length_cons, hl, Nat.min_self]
              have wz := wts_zip ps qs
              have wh : wtsT ((Tr.h f :: ps).zip (Tr.h g :: qs)) = 1 + wtsT (ps.zip qs) := by rw [List.zip_cons_cons, wts_cons]; rfl
              generalize ((Tr.h f :: ps).zip (Tr.h g :: qs)) = zs at ez lz wh g3
              refine ⟨_, _, _, _, rfl, rfl, rfl, ?_⟩
              rw [ez]
              refine ⟨_, _, _, rfl, .inl rfl, rfl, ?_, ?_⟩
              · rw [List.length_map, List.length_map, List.length_reverse, lz, sizeLine_eq]
                omega
              · have ew : ws.reverse.map pairTD ++ zs.map pairTD = (zs.reverse ++ ws).reverse.map pairTD := by
                  rw [List.reverse_append, List.reverse_reverse, List.map_append]
                rw [ew]
                refine ih _ _ ⟨rfl, zs.reverse ++ ws, _, _, rfl, ?_, by omega, ?_⟩
                · rw [wts_append, wts_rev]; omega
                · rw [List.all_append, List.all_reverse]; exact g3
            · have ev2 : PyData.eqv (Tr.n g qs).data (Tr.n f ps).data = false := by
                rw [ev]
                cases q : PyData.eqvAll (datas (.h g :: qs)) (datas (.h f :: ps)) with
                | false => rfl
                | true => have := eqvAll_len _ _ q; simp only [List.length_cons] at this; exact (hl (by omega)).elim
              refine ifT (by rw [decide_eq_false (fun z => hl (by injection z with z; omega))]; rfl) ?_
              rw [ev2, Bool.false_and] at g3
              exact ⟨trivial, g3⟩
    · rw [wts_cons]; have := wt_le a; show wtT a + 0 < _; omega
    · omega
    · rw [List.all_cons, List.all_nil, Bool.and_true]; exact hq
theorem memSizes : ∀ {ps : List Tr} {t : Tr}, t ∈ ps → t.size ≤ sizes ps
  | u :: r, t, h => by
    rw [sizes_cons]
    rcases List.mem_cons.mp h with rfl | h
    · omega
    · have := memSizes h; omega
def fMatch : FS := fun as n q => ∃ a b : Tr, as = [.d a.data, .d b.data] ∧ a.size ≤ 5000 ∧ b.size ≤ 5000 ∧ FitT b ∧ q (.d (matchD (matchGo (a.size + 1) [(a, b)] []))) n
theorem a_match (T : At K mg "match" s_match) (d_is_hole : Has P w K mg base 1 "is_hole" s_is_hole ["tree"] (spA (lw K tb) fIsHole)) (d_begin_alike : Has P w K mg base 1 "begin_alike" s_begin_alike ["one", "other"] (spA (lw K tb) fAlike))
    (d_is_just : Has P w K mg base 1 "is_just" s_is_just ["thing", "wanted"] (spA (lw K tb) fJust)) (mb_list : mg "list" = none) (mb_zip : mg "zip" = none) (mb_tuple : mg "tuple" = none) :
    Has P w K mg base 2 "match" s_match ["head", "form"] (spA (lw K tb) fMatch) := by
  refine T.hasA sc_match po_match (fun as n q h => by obtain ⟨a, b, rfl, _⟩ := h; rfl) (fun f cdv Ar outer s H E hr => ?_)
  have nd := sc_match.nd
  refine' bodyA (fun as n q h => by obtain ⟨a, b, rfl, _⟩ := h; show 2 ≤ 6; decide) (pss_cons (ps_set (i := 2) nd rfl (Or.inl rfl) pe_dnewK)
      (pss_cons (ps_set (i := 3) nd rfl (Or.inl rfl) (pe_lst (pa_cons (pe_tup (pa_cons (pv 0) (pa_cons (pv 1) pa_nil))) pa_nil)))
      (pss_cons (ps_while PassesOwn.never (pt_truth (pv 3) (by intro _; rfl)) (pss_cons (ps_asg (pe_bm0 PySem.F.plainAttrs_list PySem.F.slot_list_pop PySem.F.type_list_pop mt_pop (pv 3)) (pgTup K 2 rfl (pgs_cons (pg_name (i := 4) nd rfl (.inl rfl)) (pgs_cons (pg_name (i := 5) nd rfl (.inl rfl)) pgs_nil))))
      (pss_one (ps_if (pt_val (pe_callD d_is_hole (by omega) hr (pa_cons (pv 4) pa_nil))) (pss_one (ps_if (pt_cmp (pc_dnotin (u1 hr.units) (pv 4) (pv 2))) (pss_one (ps_dput (u1 hr.units) (pv 2) (pv 4) (pv 5) (by rfl))) (pss_one (ps_if (pt_not (pt_val (pe_callD d_is_just (by omega) hr (pa_cons (pv 5) (pa_cons (pe_dget (u1 hr.units) (pv 2) (pv 4) (fun _ _ => rfl)) pa_nil))))) (pss_one (ps_ret pe_non)) pss_nil)))) (pss_one (ps_if (PW.pt (pw_or (pt_val (pe_callD d_is_hole (by omega) hr (pa_cons (pv 5) pa_nil))) (pw_or1 (pt_not (pt_val (pe_callD d_begin_alike (by omega) hr (pa_cons (pv 4) (pa_cons (pv 5) pa_nil)))))))) (pss_one (ps_ret pe_non)) (pss_one (ps_expr (pe_bm PySem.F.plainAttrs_list PySem.F.slot_list_extend PySem.F.type_list_extend (mt_extQ K) (pv 3) (pa_cons (Lz.pe_listZip rfl (pa_cons (pe_back0 (pv 4)) (pa_cons (pe_back0 (pv 5)) pa_nil)) (by rfl) mb_list (by decide +kernel) (by rfl) mb_zip) pa_nil))))))))))
      (pss_one (ps_ret (Lz.pe_tupItems rfl (pv 2) (by rfl) mb_tuple)))))) ?ab ?go
  case ab => walk_at "ab"
  case go =>
    rintro as n q ⟨a, b, rfl, h1, h2, h3, hq⟩
    walk_at "ago"
    refine ⟨a.size + 1, aIter_ind (fun j e k => k = n ∧ ∃ (ws : List (Tr × Tr)) (m : HM) (x4 x5 : Option A), e = [some (.d a.data), some (.d b.data), some (.od (kvD m.data)), some (.ol (ws.reverse.map pairTD)), x4, x5] ∧
      turns ws < j ∧ j + m.length ≤ 6000 ∧ (∀ p ∈ ws, FitT p.2 ∧ p.2.size ≤ 5000) ∧ (∀ p ∈ m, FitT p.2) ∧ q (.d (matchD (matchGo j ws m))) n) (fun e k hG => ?_) (fun j e k hG ih => ?_) _ _ _ ⟨rfl, [(a, b)], [], none, none, rfl, ?_, ?_, ?_, ?_, hq⟩⟩
    · obtain ⟨_, ws, m, x4, x5, _, h, _⟩ := hG
      omega
    · obtain ⟨rfl, ws, m, x4, x5, rfl, g1, g2, g3, g4, g5⟩ := hG
      cases ws with
      | nil =>
        walk_at "ago"
        have g6 : q (.d (putsD m)) k := g5
        rw [putsEq] at g6
        exact g6
      | cons p ws =>
        obtain ⟨u, v⟩ := p
        have es : ((u, v) :: ws).reverse.map pairTD = ws.reverse.map pairTD ++ [.tuple [u.data, v.data]] := by rw [List.reverse_cons, List.map_append]; rfl
        rw [es]
        walk_at "ago"
        refine ifT truL ?_
        walk_at "ago"
        refine popA rfl ?_
        walk_at "ago"
        cases u with
        | h z =>
          refine ifT rfl ?_
          walk_at "ago"
          have fv0 : FitT v := (g3 (.h z, v) List.mem_cons_self).1
          have sv0 : v.size ≤ 5000 := (g3 (.h z, v) List.mem_cons_self).2
          have gt : turns ((.h z, v) :: ws) = (Tr.h z).size + turns ws := by unfold turns; rw [List.map_cons, List.sum_cons]
          have gs : (Tr.h z).size = 1 := size_h z
          rw [valData]
          cases hg : m.get z with
          | none =>
            refine ifT rfl ?_
            walk_at "ago"
            refine ⟨v.data, .str z, .inr z, m.data, rfl, by rw [Tr.data], rfl, rfl, (by unfold HM.data; rw [List.length_map, sizeLine_eq]; omega), ?_⟩
            have es2 : putM m.data (.inr z) v.data = (m ++ [(z, v)]).data := by
              unfold putM
              rw [noAny hg]
              show m.data ++ [(Sum.inr z, v.data)] = _
              unfold HM.data
              rw [List.map_append]; rfl
            rw [es2]
            refine ih _ _ ⟨rfl, ws, m ++ [(z, v)], _, _, rfl, by omega, ?_, fun p hp => g3 p (List.mem_cons_of_mem _ hp), ?_, ?_⟩
            · rw [List.length_append, List.length_singleton]; omega
            · intro p hp
              rcases List.mem_append.mp hp with hp | hp
              · exact g4 p hp
              · rw [List.mem_singleton.mp hp]
                exact fv0
            · rw [matchGo, hg] at g5
              exact g5
          | some u =>
            refine ifF rfl ?_
            walk_at "ago"
            refine ⟨m.data, .str z, .inr z, u.data, rfl, by rw [Tr.data], rfl, by rw [valData, hg]; rfl, ?_⟩
            walk_at "ago"
            refine ⟨v, u, rfl, sv0, ?_⟩
            refine ⟨_, rfl, ?_⟩
            rw [matchGo, hg] at g5
            dsimp only at g5
            cases he : PyData.eqv u.data v.data with
            | true =>
              refine ifF rfl ?_
              rw [he] at g5
              exact ih _ _ ⟨rfl, ws, m, _, _, rfl, by omega, by omega, fun p hp => g3 p (List.mem_cons_of_mem _ hp), g4, g5⟩
            | false =>
              refine ifT rfl ?_
              rw [he] at g5
              exact ⟨trivial, g5⟩
        | n f ps =>
          refine ifF rfl ?_
          walk_at "ago"
          cases v with
          | h s =>
            refine ifT rfl (ifT rfl ?_)
            exact ⟨trivial, g5⟩
          | n g qs =>
            refine ifF rfl ?_
            walk_at "ago"
            refine ⟨f, ps, g, qs, rfl, ?_⟩
            refine ⟨_, rfl, ?_⟩
            by_cases hfg : f = g ∧ ps.length = qs.length
            · have ec : (decide (f = g) && decide (ps.length = qs.length)) = true := by rw [decide_eq_true hfg.1, decide_eq_true hfg.2]; rfl
              rw [ec]
              refine ifF rfl ?_
              refine ⟨⟨_, rfl⟩, ?_⟩
              have g6 : q (.d (matchD (matchGo j (ps.zip qs ++ ws) m))) k := by
                rw [matchGo, if_pos hfg] at g5
                exact g5
              have gt : turns ((.n f ps, .n g qs) :: ws) = (Tr.n f ps).size + turns ws := by unfold turns; rw [List.map_cons, List.sum_cons]
              have gz : turns (ps.zip qs ++ ws) = sizes ps + turns ws := by
                unfold turns
                rw [List.map_append, List.sum_append]
                have := turnsZip ps qs hfg.2
                unfold turns at this
                omega
              have gn : (Tr.n f ps).size = sizes ps + 1 := size_n f ps
              have gl := lenTurns ws
              have gp := lenSizes ps
              walk_at "ago"
              refine ⟨.str f, datas ps, by rw [Tr.data], ?_⟩
              walk_at "ago"
              refine ⟨.str g, datas qs, by rw [Tr.data], ?_⟩
              refine ⟨_, _, _, _, rfl, rfl, rfl, ?_⟩
              have ez : zipD (datas ps).reverse (datas qs).reverse = ((ps.zip qs).map pairTD).reverse := by
                rw [← zipPairs]
                unfold zipD
                rw [List.zip_eq_zipWith, ← List.reverse_zipWith (by rw [datas_map, datas_map, List.length_map, List.length_map]; exact hfg.2), List.map_reverse]
                rfl
              have ew : ws.reverse.map pairTD ++ zipD (datas ps).reverse (datas qs).reverse = (ps.zip qs ++ ws).reverse.map pairTD := by
                rw [ez, List.reverse_append, List.map_append]
                exact congrArg _ (List.map_reverse (f := pairTD) (l := ps.zip qs)).symm
              have lz : (zipD (datas ps).reverse (datas qs).reverse).length ≤ ps.length := by
                rw [ez, List.length_reverse, List.length_map, List.length_zip]
                exact Nat.min_le_left ..
              refine ⟨_, _, _, rfl, .inl rfl, rfl, ?_, ?_⟩
              · rw [List.length_map, List.length_reverse, sizeLine_eq]
                omega
              · rw [ew]
                refine ih _ _ ⟨rfl, ps.zip qs ++ ws, m, _, _, rfl, by omega, by omega, fun p hp => ?_, g4, g6⟩
                rcases List.mem_append.mp hp with hp | hp
                · have gg := g3 (.n f ps, .n g qs) List.mem_cons_self
                  have gm := memSizes (zipSnd hp).2
                  have gn2 : (Tr.n g qs).size = sizes qs + 1 := size_n g qs
                  have gg2 := gg.2
                  dsimp only at gg2
                  exact ⟨gg.1.part (zipSnd hp).2, by omega⟩
                · exact g3 p (List.mem_cons_of_mem _ hp)
            · have ec : (decide (f = g) && decide (ps.length = qs.length)) = false := by
                rw [← Bool.decide_and]; exact decide_eq_false hfg
              rw [ec]
              refine ifT rfl ?_
              rw [matchGo, if_neg hfg] at g5
              exact ⟨trivial, g5⟩
    · simp [turns]
    · simp; omega
    · intro p hp
      rw [List.mem_singleton.mp hp]
      exact ⟨h3, h2⟩
    · intro p hp
      cases hp
def fInst : FS := fun as n q => ∃ a b : Tr, as = [.d a.data, .d b.data] ∧ a.size ≤ 5000 ∧ b.size ≤ 5000 ∧ FitT a ∧ q (.d (.bool (matchGo (b.size + 1) [(b, a)] []).isSome)) n
theorem a_is_instance (T : At K mg "is_instance" s_is_instance) (d_match : Has P w K mg base 2 "match" s_match ["head", "form"] (spA (lw K tb) fMatch)) :
    Has P w K mg base 3 "is_instance" s_is_instance ["one", "other"] (spA (lw K tb) fInst) := by
  refine T.hasA sc_is_instance po_is_instance (fun as n q h => by obtain ⟨a, b, rfl, _⟩ := h; rfl) (fun f cdv Ar outer s H E hr => ?_)
  have nd := sc_is_instance.nd
  refine' bodyA (fun as n q h => by obtain ⟨a, b, rfl, _⟩ := h; show 2 ≤ 2; decide) (pss_one (ps_ret (pe_cmpR op_notN (pe_callD d_match (by omega) hr (pa_cons (pv 1) (pa_cons (pv 0) pa_nil))) pe_non (nomark _)))) ?ab ?go
  case ab => walk_at "ab"
  case go =>
    rintro as n q ⟨a, b, rfl, h1, h2, h3, hq⟩
    walk_at "ago"
    refine ⟨b, a, rfl, h2, h1, h3, ?_⟩
    walk_at "ago"
    cases hm : matchGo (b.size + 1) [(b, a)] [] with
    | none =>
      rw [hm] at hq
      exact hq
    | some m =>
      rw [hm] at hq
      exact hq
end
end Ah
namespace Ah
open PySem PySem.Spec PyProof.Rows L2
local macro_rules | `(tactic| walk_at "side") => `(tactic| first | omega | decide | (dsimp only; omega) | (unfold CDivN; omega) | (unfold CMul; omega) | (unfold CPow; omega) | (unfold CPow; decide) | (unfold CMulW; decide) | exact szLe rfl | rfl)
local macro_rules | `(tactic| walk_at "here") => `(tactic| first | assumption | exact upd_same)
local macro_rules | `(tactic| walk_at "go") => `(tactic| repeat (first
  | (refine ⟨_, rfl, ?_⟩)
  | (refine ⟨_, _, rfl, rfl, ?_⟩)
  | (refine ⟨_, _, _, _, rfl, rfl, SqL.of (by walk_at "here"), rfl, ?_⟩)
  | (refine ⟨_, _, _, _, rfl, rfl, (by walk_at "here"), rfl, ?_⟩)
  | (refine ⟨_, _, rfl, ?_⟩)
  | (refine And.intro (by walk_at "side") ?_)))
local macro_rules | `(tactic| walk_at "ab") => `(tactic| (try dsimp only [noxK]); repeat (first
  | with_reducible exact ab_var | with_reducible exact ab_int | with_reducible exact ab_str | with_reducible exact ab_bl | with_reducible exact ab_non | with_reducible exact ab_ty | with_reducible exact ab_nil | with_reducible exact ab_noPart | with_reducible exact ab_yes | with_reducible exact ab_dnew | with_reducible exact ab_xnew
  | with_reducible exact as_next | with_reducible exact as_retN | with_reducible exact as_break | with_reducible exact as_cont | with_reducible exact ab_gname | with_reducible exact ab_gnil
  | with_reducible exact oa_I0 | with_reducible exact oa_I | with_reducible exact oa_eq | with_reducible exact oa_ne | with_reducible exact oa_addQ | with_reducible exact oa_ixQ | with_reducible exact oa_eqD | with_reducible exact oa_neD | with_reducible exact oa_isTyB | with_reducible exact oa_notTyB | with_reducible exact oa_NT | with_reducible exact cb_sortD | with_reducible exact oa_isN | with_reducible exact oa_notN | with_reducible exact oa_mulQ | with_reducible exact oa_mulS | with_reducible exact oa_repT | with_reducible exact oa_inS | with_reducible exact oa_notInS | with_reducible exact oa_cat | with_reducible exact oa_catU
  | with_reducible exact cb_len | with_reducible exact cb_type | with_reducible exact cb_isi | with_reducible exact cb_repr | with_reducible exact cb_listOf | with_reducible exact cb_tupOf | with_reducible exact cb_max2 | with_reducible exact cb_minL | with_reducible exact cb_intB | with_reducible exact cb_all | with_reducible exact cb_any | with_reducible exact cb_listZip | with_reducible exact cb_listZipL | with_reducible exact cb_dictP | with_reducible exact oa_isB | with_reducible exact oa_notB | with_reducible exact cb_tupD | with_reducible exact cb_divmod | with_reducible exact oa_inD | with_reducible exact oa_notInD
  | with_reducible exact ma_join | with_reducible exact ma_find | with_reducible exact ma_count | with_reducible exact ma_split
  | with_reducible apply as_appTaken (by decide) | with_reducible apply as_ifSetd | with_reducible apply as_appPop | with_reducible apply as_update | with_reducible apply as_par3F | with_reducible apply as_asgT3 | with_reducible apply as_asgT2 | with_reducible apply as_frz | with_reducible apply as_setF | with_reducible apply as_parF | with_reducible apply as_seq | with_reducible apply as_if | with_reducible apply as_ret | with_reducible apply as_append | with_reducible apply as_extend | with_reducible apply as_pop | with_reducible apply as_popAt | with_reducible apply as_drop | with_reducible apply as_set | with_reducible apply as_par | with_reducible apply as_asg | with_reducible apply as_for | with_reducible apply as_while
  | with_reducible apply ab_gtup2 | with_reducible apply ab_gtup3 | with_reducible apply ab_gtup4 | with_reducible apply ab_gcons
  | with_reducible apply ab_cons | with_reducible apply ab_op | with_reducible apply ab_test | with_reducible apply ab_tB | with_reducible apply ab_and | with_reducible apply ab_or | with_reducible apply ab_not | with_reducible apply ab_andV | with_reducible apply ab_orV | with_reducible apply ab_notV | with_reducible apply ab_if
  | with_reducible apply ab_un | with_reducible apply ab_tup | with_reducible apply ab_lst | with_reducible apply ab_call | with_reducible apply ab_callK | with_reducible apply ab_cb | with_reducible apply ab_sl | with_reducible apply ab_part | with_reducible apply ab_backT | with_reducible apply ab_back0
  | with_reducible apply ab_lc | with_reducible apply ab_lenSetT | with_reducible apply ab_tupItems | with_reducible apply ab_stepT | with_reducible apply ab_sortItems | with_reducible apply ab_dc | with_reducible apply ab_listRg | with_reducible apply ab_star | with_reducible apply ab_starL | with_reducible apply ab_index | with_reducible apply ab_revL | with_reducible apply ab_callW | with_reducible apply ab_disp1 | with_reducible apply ab_dget1 | with_reducible apply ab_dget2 | with_reducible apply as_dput | with_reducible apply ab_chain | with_reducible apply ab_dget | with_reducible apply ab_din | with_reducible apply ab_dnotin | with_reducible apply ab_xin | with_reducible apply ab_xnotin | with_reducible apply ab_xget | with_reducible apply ab_xget1 | with_reducible apply as_xput
  | with_reducible apply ab_iany | with_reducible apply ab_ilist | with_reducible apply ab_itup | with_reducible apply ab_irng1 | with_reducible apply ab_irng2 | with_reducible apply ab_istr | with_reducible apply ab_ienum | with_reducible apply ab_ienumT
  | with_reducible apply ab_m1 | with_reducible apply ab_callLm | with_reducible apply ab_irev
  | with_reducible apply ab_tru
  | exact ab_keysAdd
  | (refine (show List.length _ = List.length _ from ?_); assumption)
  | rfl | (simp only [Tg.slots, tslots]; rfl)))
local macro_rules | `(tactic| walk_at "ago") => `(tactic| repeat (first
  | refine seqI ?_
  | refine ⟨_, rfl, szLe rfl, ?_⟩
  | refine ⟨_, rfl, ?_⟩
  | refine ⟨trivial, ?_⟩
  | refine ⟨_, _, rfl, rfl, ?_⟩
  | refine ⟨_, _, _, rfl, rfl, rfl, ?_⟩
  | refine ⟨_, _, _, rfl, (by decide), rfl, ?_⟩
  | refine ⟨_, _, _, _, rfl, rfl, rfl, rfl, rfl, ?_⟩
  | refine ⟨_, _, _, rfl, rfl, (by walk_at "side"), rfl, ?_⟩
  | refine ⟨_, _, rfl, rfl, (by walk_at "side"), ?_⟩
  | refine ⟨⟨_, rfl⟩, ?_⟩
  | refine ⟨rfl, ?_⟩))
local macro_rules | `(tactic| walk_at "agos") => `(tactic| repeat (first
  | refine ⟨_, rfl, szLe rfl, ?_⟩
  | refine ⟨_, rfl, ?_⟩
  | refine ⟨trivial, ?_⟩
  | refine ⟨_, _, rfl, rfl, ?_⟩
  | refine ⟨_, _, _, rfl, rfl, rfl, ?_⟩
  | refine ⟨_, _, _, rfl, (by decide), rfl, ?_⟩
  | refine ⟨_, _, _, _, rfl, rfl, rfl, rfl, rfl, ?_⟩
  | refine ⟨_, _, _, rfl, rfl, (by walk_at "side"), rfl, ?_⟩
  | refine ⟨_, _, rfl, rfl, (by walk_at "side"), ?_⟩
  | refine ⟨⟨_, rfl⟩, ?_⟩
  | refine ⟨rfl, ?_⟩))

abbrev s__law_called : Stmt := topS 24
abbrev N__law_called : List Str := ["hand", "lots"]
theorem sc__law_called : FnScope N__law_called ["hand"] (defScope s__law_called) :=
  ⟨rfl, rfl, rfl, by decide +kernel, rfl, by decide +kernel, by decide +kernel⟩
theorem po__law_called : Posi "_law_called" s__law_called ["hand"] := fun _ _ _ _ _ _ us hl => match us, hl with | [_], _ => rfl

def lots : List (List Str) := [["x", "y", "z"], ["a", "b", "c"], ["b", "a"], ["aa", "a", "ab", "b"], ["z", "zzzzzzzz", "y"], ["c"]]
instance (z : Str) : Decidable (Nm z) := by unfold Nm; infer_instance
instance (zs : List Str) : Decidable (Holes zs) := by unfold Holes; infer_instance
theorem lots_ok : ∀ zs ∈ lots, Holes zs := by decide +kernel
def strsD (zs : List Str) : PyData := .list (zs.map .str)
def fCalled : FS := fun as n q => as = [.hd] ∧ n < 900000 ∧ ∀ zs, Holes zs → q (.d (strsD zs)) (n + 1)
section
variable {P : Program} {w : World} {K : PySem.W.Frag} {mg : Str → Option Value} {base : Heap} {tb : TBs}
theorem a_called (T : At K mg "_law_called" s__law_called) (d__law_of : Has P w K mg base 2 "_law_of" s__law_of ["hand", "some"] (spA (lw K tb) fOf)) :
    Has P w K mg base 3 "_law_called" s__law_called ["hand"] (spA (lw K tb) fCalled) := by
  refine T.hasA sc__law_called po__law_called (fun as n q h => by rw [h.1]; rfl) (fun f cdv Ar outer s H E hr => ?_)
  have nd := sc__law_called.nd
  refine' bodyA (fun as n q h => by rw [h.1]; decide) (pss_cons (ps_setF (i := 1) nd rfl (Or.inl rfl) (pe_lst (pa_cons (pe_lst (pa_cons pe_str (pa_cons pe_str (pa_cons pe_str pa_nil)))) (pa_cons (pe_lst (pa_cons pe_str (pa_cons pe_str (pa_cons pe_str pa_nil)))) (pa_cons (pe_lst (pa_cons pe_str (pa_cons pe_str pa_nil))) (pa_cons (pe_lst (pa_cons pe_str (pa_cons pe_str (pa_cons pe_str (pa_cons pe_str pa_nil))))) (pa_cons (pe_lst (pa_cons pe_str (pa_cons pe_str (pa_cons pe_str pa_nil)))) (pa_cons (pe_lst (pa_cons pe_str pa_nil)) pa_nil))))))))
      (pss_one (ps_ret (pe_callD d__law_of (by omega) hr (pa_cons (pv 0) (pa_cons (pv 1) pa_nil)))))) ?ab ?go
  case ab => walk_at "ab"
  case go =>
    rintro as n q ⟨rfl, hn, hq⟩
    walk_at "ago"
    refine drawL (by omega) (by simp) (by decide) fun x hx => ⟨trivial, ?_⟩
    have hx' : x ∈ lots.map strsD := hx
    obtain ⟨zs, hz, rfl⟩ := List.mem_map.mp hx'
    exact hq zs (lots_ok zs hz)
end
end Ah
namespace Ah
open PySem PySem.Spec PyProof.Rows L2
local macro_rules | `(tactic| walk_at "side") => `(tactic| first | omega | decide | (dsimp only; omega) | (unfold CDivN; omega) | (unfold CMul; omega) | (unfold CPow; omega) | (unfold CPow; decide) | (unfold CMulW; decide) | exact szLe rfl | rfl)
local macro_rules | `(tactic| walk_at "here") => `(tactic| first | assumption | exact upd_same)
local macro_rules | `(tactic| walk_at "go") => `(tactic| repeat (first
  | (refine ⟨_, rfl, ?_⟩)
  | (refine ⟨_, _, rfl, rfl, ?_⟩)
  | (refine ⟨_, _, _, _, rfl, rfl, SqL.of (by walk_at "here"), rfl, ?_⟩)
  | (refine ⟨_, _, _, _, rfl, rfl, (by walk_at "here"), rfl, ?_⟩)
  | (refine ⟨_, _, rfl, ?_⟩)
  | (refine And.intro (by walk_at "side") ?_)))
local macro_rules | `(tactic| walk_at "ab") => `(tactic| (try dsimp only [noxK]); repeat (first
  | with_reducible exact ab_var | with_reducible exact ab_int | with_reducible exact ab_str | with_reducible exact ab_bl | with_reducible exact ab_non | with_reducible exact ab_ty | with_reducible exact ab_nil | with_reducible exact ab_noPart | with_reducible exact ab_yes | with_reducible exact ab_dnew | with_reducible exact ab_xnew
  | with_reducible exact as_next | with_reducible exact as_retN | with_reducible exact as_break | with_reducible exact as_cont | with_reducible exact ab_gname | with_reducible exact ab_gnil
  | with_reducible exact oa_I0 | with_reducible exact oa_I | with_reducible exact oa_eq | with_reducible exact oa_ne | with_reducible exact oa_addQ | with_reducible exact oa_ixQ | with_reducible exact oa_eqD | with_reducible exact oa_neD | with_reducible exact oa_isTyB | with_reducible exact oa_notTyB | with_reducible exact oa_NT | with_reducible exact cb_sortD | with_reducible exact oa_isN | with_reducible exact oa_notN | with_reducible exact oa_mulQ | with_reducible exact oa_mulS | with_reducible exact oa_repT | with_reducible exact oa_inS | with_reducible exact oa_notInS | with_reducible exact oa_cat | with_reducible exact oa_catU
  | with_reducible exact cb_len | with_reducible exact cb_type | with_reducible exact cb_isi | with_reducible exact cb_repr | with_reducible exact cb_listOf | with_reducible exact cb_tupOf | with_reducible exact cb_max2 | with_reducible exact cb_minL | with_reducible exact cb_intB | with_reducible exact cb_all | with_reducible exact cb_any | with_reducible exact cb_listZip | with_reducible exact cb_listZipL | with_reducible exact cb_dictP | with_reducible exact oa_isB | with_reducible exact oa_notB | with_reducible exact cb_tupD | with_reducible exact cb_divmod | with_reducible exact oa_inD | with_reducible exact oa_notInD
  | with_reducible exact ma_join | with_reducible exact ma_find | with_reducible exact ma_count | with_reducible exact ma_split
  | with_reducible apply as_appTaken (by decide) | with_reducible apply as_ifSetd | with_reducible apply as_appPop | with_reducible apply as_update | with_reducible apply as_par3F | with_reducible apply as_asgT3 | with_reducible apply as_asgT2 | with_reducible apply as_frz | with_reducible apply as_setF | with_reducible apply as_parF | with_reducible apply as_seq | with_reducible apply as_if | with_reducible apply as_ret | with_reducible apply as_append | with_reducible apply as_extend | with_reducible apply as_pop | with_reducible apply as_popAt | with_reducible apply as_drop | with_reducible apply as_set | with_reducible apply as_par | with_reducible apply as_asg | with_reducible apply as_for | with_reducible apply as_while
  | with_reducible apply ab_gtup2 | with_reducible apply ab_gtup3 | with_reducible apply ab_gtup4 | with_reducible apply ab_gcons
  | with_reducible apply ab_cons | with_reducible apply ab_op | with_reducible apply ab_test | with_reducible apply ab_tB | with_reducible apply ab_and | with_reducible apply ab_or | with_reducible apply ab_not | with_reducible apply ab_andV | with_reducible apply ab_orV | with_reducible apply ab_notV | with_reducible apply ab_if
  | with_reducible apply ab_un | with_reducible apply ab_tup | with_reducible apply ab_lst | with_reducible apply ab_call | with_reducible apply ab_callK | with_reducible apply ab_cb | with_reducible apply ab_sl | with_reducible apply ab_part | with_reducible apply ab_backT | with_reducible apply ab_back0
  | with_reducible apply ab_lc | with_reducible apply ab_lenSetT | with_reducible apply ab_tupItems | with_reducible apply ab_stepT | with_reducible apply ab_sortItems | with_reducible apply ab_dc | with_reducible apply ab_listRg | with_reducible apply ab_star | with_reducible apply ab_starL | with_reducible apply ab_index | with_reducible apply ab_revL | with_reducible apply ab_callW | with_reducible apply ab_disp1 | with_reducible apply ab_dget1 | with_reducible apply ab_dget2 | with_reducible apply as_dput | with_reducible apply ab_chain | with_reducible apply ab_dget | with_reducible apply ab_din | with_reducible apply ab_dnotin | with_reducible apply ab_xin | with_reducible apply ab_xnotin | with_reducible apply ab_xget | with_reducible apply ab_xget1 | with_reducible apply as_xput
  | with_reducible apply ab_iany | with_reducible apply ab_ilist | with_reducible apply ab_itup | with_reducible apply ab_irng1 | with_reducible apply ab_irng2 | with_reducible apply ab_istr | with_reducible apply ab_ienum | with_reducible apply ab_ienumT
  | with_reducible apply ab_m1 | with_reducible apply ab_callLm | with_reducible apply ab_irev
  | with_reducible apply ab_tru
  | exact ab_keysAdd
  | (refine (show List.length _ = List.length _ from ?_); assumption)
  | rfl | (simp only [Tg.slots, tslots]; rfl)))
local macro_rules | `(tactic| walk_at "ago") => `(tactic| repeat (first
  | refine seqI ?_
  | refine ⟨_, rfl, szLe rfl, ?_⟩
  | refine ⟨_, rfl, ?_⟩
  | refine ⟨trivial, ?_⟩
  | refine ⟨_, _, rfl, rfl, ?_⟩
  | refine ⟨_, _, _, rfl, rfl, rfl, ?_⟩
  | refine ⟨_, _, _, rfl, (by decide), rfl, ?_⟩
  | refine ⟨_, _, _, _, rfl, rfl, rfl, rfl, rfl, ?_⟩
  | refine ⟨_, _, _, rfl, rfl, (by walk_at "side"), rfl, ?_⟩
  | refine ⟨_, _, rfl, rfl, (by walk_at "side"), ?_⟩
  | refine ⟨⟨_, rfl⟩, ?_⟩
  | refine ⟨rfl, ?_⟩))
local macro_rules | `(tactic| walk_at "agos") => `(tactic| repeat (first
  | refine ⟨_, rfl, szLe rfl, ?_⟩
  | refine ⟨_, rfl, ?_⟩
  | refine ⟨trivial, ?_⟩
  | refine ⟨_, _, rfl, rfl, ?_⟩
  | refine ⟨_, _, _, rfl, rfl, rfl, ?_⟩
  | refine ⟨_, _, _, rfl, (by decide), rfl, ?_⟩
  | refine ⟨_, _, _, _, rfl, rfl, rfl, rfl, rfl, ?_⟩
  | refine ⟨_, _, _, rfl, rfl, (by walk_at "side"), rfl, ?_⟩
  | refine ⟨_, _, rfl, rfl, (by walk_at "side"), ?_⟩
  | refine ⟨⟨_, rfl⟩, ?_⟩
  | refine ⟨rfl, ?_⟩))

abbrev s__law_words : Stmt := topS 22
abbrev N__law_words : List Str := ["hand", "letters", "lines", "turn", "first", "found", "k", "many", "own"]
theorem sc__law_words : FnScope N__law_words ["hand"] (defScope s__law_words) :=
  ⟨rfl, rfl, rfl, by decide +kernel, rfl, by decide +kernel, by decide +kernel⟩
theorem po__law_words : Posi "_law_words" s__law_words ["hand"] := fun _ _ _ _ _ _ us hl => match us, hl with | [_], _ => rfl

def nameP (p : Str × Int) : PyData := .tuple [.str p.1, .int p.2]
def NamesD (ns : List (Str × Int)) : Prop := ns.map Prod.snd = [0, 0, 1, 2, 3] ∧ ∀ p ∈ ns, Full p.1
/-- no name of the line unheard -/
def NoUn (f : Str) : Prop := ∀ z : Str, f ≠ Str.ofString "unheard." ++ z
def One1 (z : Str) : Prop := ∃ c k, k ∈ times ∧ z = Txt.mul ⟨#[c]⟩ k
theorem noUn {l own : Str} (h : One1 l) : NoUn (l ++ ("." : Str) ++ own) := by
  obtain ⟨c, k, hk, rfl⟩ := h
  intro z e
  have e1 := congrArg (fun s : Str => s.cps.toList) e
  have ap : ∀ a b : Str, (a ++ b).cps.toList = a.cps.toList ++ b.cps.toList := fun a b => Array.toList_append
  simp only [ap] at e1
  have hu : (Str.ofString "unheard.").cps.toList = [117, 110, 104, 101, 97, 114, 100, 46] := by decide +kernel
  have hd : ("." : Str).cps.toList = [46] := by decide +kernel
  rw [hu, hd] at e1
  simp only [times, List.mem_cons, List.not_mem_nil, or_false] at hk
  rcases hk with rfl | rfl | rfl | rfl
  · have : (Txt.mul ⟨#[c]⟩ 1).cps.toList = [c] := rfl
    rw [this] at e1
    simp at e1
  · have : (Txt.mul ⟨#[c]⟩ 1).cps.toList = [c] := rfl
    rw [this] at e1
    simp at e1
  · have : (Txt.mul ⟨#[c]⟩ 2).cps.toList = [c, c] := rfl
    rw [this] at e1
    simp at e1
  · have : (Txt.mul ⟨#[c]⟩ 8).cps.toList = [c, c, c, c, c, c, c, c] := rfl
    rw [this] at e1
    simp at e1
    omega
def fWords : FS := fun as n q => as = [.hd] ∧ n < 900000 ∧ ∀ ns n', NamesD ns → (∀ p ∈ ns, NoUn p.1) → n ≤ n' → n' ≤ n + 20 → q (.ol (ns.map nameP)) n'
section
variable {P : Program} {w : World} {K : PySem.W.Frag} {mg : Str → Option Value} {base : Heap} {tb : TBs}
def wordsZ : List PyData := [.int 0, .int 0, .int 1, .int 2, .int 3]
theorem timesD {x : PyData} (h : x ∈ ([.int 1, .int 1, .int 2, .int 8] : List PyData)) : ∃ n, x = .int n ∧ n ∈ times := by
  simp only [List.mem_cons, List.not_mem_nil, or_false] at h
  rcases h with rfl | rfl | rfl | rfl
  · exact ⟨1, rfl, by decide⟩
  · exact ⟨1, rfl, by decide⟩
  · exact ⟨2, rfl, by decide⟩
  · exact ⟨8, rfl, by decide⟩
theorem a_words (T : At K mg "_law_words" s__law_words) (d__law_take : Has P w K mg base 1 "_law_take" s__law_take ["hand", "many"] (spA (lw K tb) fTake)) (d__law_of : Has P w K mg base 2 "_law_of" s__law_of ["hand", "some"] (spA (lw K tb) fOf))
    (mb_range : mg "range" = none) (mb_enumerate : mg "enumerate" = none) :
    Has P w K mg base 3 "_law_words" s__law_words ["hand"] (spA (lw K tb) fWords) := by
  refine T.hasA sc__law_words po__law_words (fun as n q h => by rw [h.1]; rfl) (fun f cdv Ar outer s H E hr => ?_)
  have nd := sc__law_words.nd
  refine' bodyA (fun as n q h => by rw [h.1]; decide) (pss_cons (ps_setF (i := 1) nd rfl (Or.inr rfl) pe_str)
      (pss_cons (show PS _ _ (tAsgF _ (gName 2)) from (ps_setLc (i := 2) (own := [("turn", 3)]) (by rfl) nd rfl rfl (sw_true rfl rfl rfl (by decide +kernel)) (pi_range1 (by rfl) mb_range (pa_cons pe_int pa_nil)) (blkOk_by (own := [("turn", 3)]) (N := N__law_words) (sc := defScope s__law_words) (by decide +kernel)) (fun _ _ _ _ _ => (pg_name (i := 3) nd rfl (.inl rfl))) (fun _ _ _ _ _ => pts_nil) (fun _ _ _ _ _ => (pe_op mulQ (pe_callD d__law_of (by omega) hr (pa_cons (pv 0) (pa_cons (pv 1) pa_nil))) (pe_callD d__law_of (by omega) hr (pa_cons (pv 0) (pa_cons (pe_lst (pa_cons pe_int (pa_cons pe_int (pa_cons pe_int (pa_cons pe_int pa_nil))))) pa_nil)))))))
      (pss_cons (show PS _ _ (tParF true false 4 5 _) from (ps_par (i := 4) (j := 5) (by rfl) nd rfl rfl (by decide) rfl rfl (pa_cons (pe_callD d__law_take (by omega) hr (pa_cons (pv 0) (pa_cons pe_int pa_nil))) (pa_cons (pe_lst pa_nil) pa_nil)) (by rfl)))
      (pss_cons (ps_for PassesOwn.never rfl (pi_enum (by rfl) mb_enumerate (pa_cons (pe_lst (pa_cons pe_int (pa_cons pe_int (pa_cons pe_int (pa_cons pe_int (pa_cons pe_int pa_nil)))))) pa_nil)) (pgTup K 2 rfl (pgs_cons (pg_name (i := 6) nd rfl (.inl rfl)) (pgs_cons (pg_name (i := 7) nd rfl (.inl rfl)) pgs_nil))) (pss_cons (ps_setF (i := 8) nd rfl (Or.inl rfl) (pe_op mulQ (pe_ix (ixQ K) (pv 1) (pe_op op_modN (pe_op (addQ K) (pv 4) (pv 6)) pe_int) (fun _ _ => rfl)) (pe_callD d__law_of (by omega) hr (pa_cons (pv 0) (pa_cons (pe_lst (pa_cons pe_int (pa_cons pe_int (pa_cons pe_int (pa_cons pe_int pa_nil))))) pa_nil)))))
      (pss_one (ps_expr (pe_bm PySem.F.plainAttrs_list PySem.F.slot_list_append PySem.F.type_list_append mt_append (pv 5) (pa_cons (pe_tup (pa_cons (pe_op (addQ K) (pe_op (addQ K) (pe_callD d__law_of (by omega) hr (pa_cons (pv 0) (pa_cons (pv 2) pa_nil))) pe_str) (pv 8)) (pa_cons (pv 7) pa_nil))) pa_nil))))))
      (pss_one (ps_ret (pv 5))))))) ?ab ?go
  case ab => walk_at "ab"
  case go =>
    rintro as n q ⟨rfl, hn, hq⟩
    walk_at "ago"
    refine ⟨by decide, by decide, ?_⟩
    refine hold (aGoY_ind (fun rem acc m => m + 2 * rem.length = n + 4 ∧ acc.length + rem.length = 2 ∧ ∀ y ∈ acc, ∃ z, y = .str z ∧ Nm z ∧ One1 z) (fun acc m hG => ?_) (fun x r acc m hG ih => ?_) _ _ _ ⟨rfl, rfl, by simp⟩)
    · obtain ⟨g1, g2, g3⟩ := hG
      simp only [List.length_nil, Nat.mul_zero, Nat.add_zero] at g1 g2
      obtain ⟨a, b, rfl⟩ : ∃ a b, acc = [a, b] := by
        match acc, g2 with
        | [a, b], _ => exact ⟨a, b, rfl⟩
      obtain ⟨l1, rfl, n1, u1⟩ := g3 _ (List.mem_cons_self ..)
      obtain ⟨l2, rfl, n2, u2⟩ := g3 _ (List.mem_cons_of_mem _ (List.mem_cons_self ..))
      walk_at "ago"
      refine drawN (by omega) (by decide) (by decide) fun first f0 f1 => ?_
      walk_at "ago"
      clear g3
      refine hold (aLoop_ind (fun rem e k => ∃ (i : Nat) (ns : List (Str × Int)) (x6 x7 x8 : Option A), rem = (wordsZ.zipIdx.map fun p => PyData.tuple [.int ((p.2 : Nat) : Int), p.1]).drop i ∧ i ≤ 5 ∧
        e = [some .hd, some (.d (.str AB)), some (.d (.list [.str l1, .str l2])), none, some (.d (.int first)), some (.ol (ns.map nameP)), x6, x7, x8] ∧ ns.map Prod.snd = ([0, 0, 1, 2, 3] : List Int).take i ∧ (∀ p ∈ ns, Full p.1 ∧ NoUn p.1) ∧ k = n + 5 + 2 * i)
        (fun e k hG => ?_) (fun x r e k hG ih => ?_) _ _ _ ⟨0, [], none, none, none, rfl, by omega, rfl, rfl, by simp, by omega⟩)
      · obtain ⟨i, ns, x6, x7, x8, e1, e2, rfl, e4, e5, rfl⟩ := hG
        have hi : i = 5 := by
          have := congrArg List.length e1
          rw [List.length_drop] at this
          have l : (wordsZ.zipIdx.map fun p => PyData.tuple [.int ((p.2 : Nat) : Int), p.1]).length = 5 := rfl
          rw [l] at this
          simp at this; omega
        subst hi
        walk_at "ago"
        exact hq ns _ ⟨e4, fun p hp => (e5 p hp).1⟩ (fun p hp => (e5 p hp).2) (by omega) (by omega)
      · obtain ⟨i, ns, x6, x7, x8, e1, e2, rfl, e4, e5, rfl⟩ := hG
        obtain ⟨hi, many, hx, rfl, ht⟩ : ∃ (hi : i < 5) (many : Int), x = .tuple [.int (i : Int), .int many] ∧ r = (wordsZ.zipIdx.map fun p => PyData.tuple [.int ((p.2 : Nat) : Int), p.1]).drop (i + 1) ∧ ([0, 0, 1, 2, 3] : List Int).take (i + 1) = ([0, 0, 1, 2, 3] : List Int).take i ++ [many] := by
          match i, e1 with
          | 0, e1 => cases e1; exact ⟨by omega, _, rfl, rfl, rfl⟩
          | 1, e1 => cases e1; exact ⟨by omega, _, rfl, rfl, rfl⟩
          | 2, e1 => cases e1; exact ⟨by omega, _, rfl, rfl, rfl⟩
          | 3, e1 => cases e1; exact ⟨by omega, _, rfl, rfl, rfl⟩
          | 4, e1 => cases e1; exact ⟨by omega, _, rfl, rfl, rfl⟩
          | k + 5, e1 => rw [List.drop_eq_nil_of_le (by show (wordsZ.zipIdx.map fun p => PyData.tuple [.int ((p.2 : Nat) : Int), p.1]).length ≤ k + 5; exact Nat.le_add_left 5 k)] at e1; cases e1
        subst hx
        rw [aLoop]
        walk_at "ago"
        obtain ⟨ch, hch, hm, _⟩ := atI_in (xs := AB.cps.toList) (k := (first + (i : Int)).fmod 26) (fm0 (by decide)) (by rw [show ((AB.cps.toList.length : Nat) : Int) = 26 by decide +kernel]; exact fm1 (by decide))
        refine ⟨(by decide +kernel), ch, hch, ?_⟩
        walk_at "ago"
        refine drawL (by omega) (by simp) (by decide) fun y hy => ?_
        obtain ⟨k, rfl, hk⟩ := timesD hy
        have b := ab_in ch hm
        refine ⟨_, _, rfl, rfl, mulOk1 hk, ?_⟩
        have own := mulNm hk b.1 b.2
        generalize Txt.mul ⟨#[ch]⟩ k = z at own ⊢
        walk_at "ago"
        refine drawL (by omega) (by simp) (by show 2 < 1000000; decide) fun y hy => ?_
        obtain ⟨l, rfl, hl, ul⟩ : ∃ l, y = .str l ∧ Nm l ∧ One1 l := by
          simp only [List.mem_cons, List.not_mem_nil, or_false] at hy
          rcases hy with rfl | rfl
          · exact ⟨_, rfl, n1, u1⟩
          · exact ⟨_, rfl, n2, u2⟩
        have q1 := hl.2.1
        have q2 := own.2.1
        have z1 : ("." : Str).length = 1 := rfl
        have z2 : (l ++ ("." : Str)).length = l.length + 1 := by rw [strLen]; rfl
        walk_at "ago"
        refine ⟨by simp only [sizeLine_eq]; omega, ?_⟩
        walk_at "ago"
        refine ⟨by simp only [sizeLine_eq]; omega, ?_⟩
        have e4l := congrArg List.length e4
        simp only [List.length_map, List.length_take] at e4l
        walk_at "ago"
        refine ⟨by simp only [sizeLine_eq, List.length_map]; omega, ?_⟩
        refine ih _ _ ⟨i + 1, ns ++ [(l ++ ("." : Str) ++ z, many)], some (.d (.int (i : Int))), some (.d (.int many)), some (.d (.str z)), rfl, by omega, ?_, ?_, ?_, by omega⟩
        · rw [List.map_append]; rfl
        · rw [List.map_append, e4, ht]; rfl
        · intro p hp
          rcases List.mem_append.mp hp with hp | hp
          · exact e5 p hp
          · rw [List.mem_singleton.mp hp]
            exact ⟨⟨l, z, hl, own, rfl⟩, noUn ul⟩
    · obtain ⟨g1, g2, g3⟩ := hG
      rw [List.length_cons] at g1 g2
      walk_at "ago"
      refine drawS (by omega) (by decide +kernel) (by decide +kernel) fun c hc => ?_
      walk_at "ago"
      refine drawL (by omega) (by simp) (by decide) fun y hy => ?_
      obtain ⟨k, rfl, hk⟩ := timesD hy
      have b := ab_in c hc
      refine ⟨_, _, rfl, rfl, mulOk1 hk, ?_⟩
      refine ⟨_, rfl, by simp only [sizeLine_eq]; omega, ih _ _ ⟨by omega, by rw [List.length_append, List.length_singleton]; omega, fun y hy => ?_⟩⟩
      rcases List.mem_append.mp hy with hy | hy
      · exact g3 y hy
      · rw [List.mem_singleton.mp hy]
        exact ⟨_, rfl, mulNm hk b.1 b.2, c, k, hk, rfl⟩
end
end Ah
namespace Ah
open PySem PySem.Spec PyProof.Rows L2
local macro_rules | `(tactic| walk_at "side") => `(tactic| first | omega | decide | (dsimp only; omega) | (unfold CDivN; omega) | (unfold CMul; omega) | (unfold CPow; omega) | (unfold CPow; decide) | (unfold CMulW; decide) | exact szLe rfl | rfl)
local macro_rules | `(tactic| walk_at "here") => `(tactic| first | assumption | exact upd_same)
local macro_rules | `(tactic| walk_at "go") => `(tactic| repeat (first
  | (refine ⟨_, rfl, ?_⟩)
  | (refine ⟨_, _, rfl, rfl, ?_⟩)
  | (refine ⟨_, _, _, _, rfl, rfl, SqL.of (by walk_at "here"), rfl, ?_⟩)
  | (refine ⟨_, _, _, _, rfl, rfl, (by walk_at "here"), rfl, ?_⟩)
  | (refine ⟨_, _, rfl, ?_⟩)
  | (refine And.intro (by walk_at "side") ?_)))
local macro_rules | `(tactic| walk_at "ab") => `(tactic| (try dsimp only [noxK]); repeat (first
  | with_reducible exact ab_var | with_reducible exact ab_int | with_reducible exact ab_str | with_reducible exact ab_bl | with_reducible exact ab_non | with_reducible exact ab_ty | with_reducible exact ab_nil | with_reducible exact ab_noPart | with_reducible exact ab_yes | with_reducible exact ab_dnew | with_reducible exact ab_xnew
  | with_reducible exact as_next | with_reducible exact as_retN | with_reducible exact as_break | with_reducible exact as_cont | with_reducible exact ab_gname | with_reducible exact ab_gnil
  | with_reducible exact oa_I0 | with_reducible exact oa_I | with_reducible exact oa_eq | with_reducible exact oa_ne | with_reducible exact oa_addQ | with_reducible exact oa_ixQ | with_reducible exact oa_eqD | with_reducible exact oa_neD | with_reducible exact oa_isTyB | with_reducible exact oa_notTyB | with_reducible exact oa_NT | with_reducible exact cb_sortD | with_reducible exact oa_isN | with_reducible exact oa_notN | with_reducible exact oa_mulQ | with_reducible exact oa_mulS | with_reducible exact oa_repT | with_reducible exact oa_inS | with_reducible exact oa_notInS | with_reducible exact oa_cat | with_reducible exact oa_catU
  | with_reducible exact cb_len | with_reducible exact cb_type | with_reducible exact cb_isi | with_reducible exact cb_repr | with_reducible exact cb_listOf | with_reducible exact cb_tupOf | with_reducible exact cb_max2 | with_reducible exact cb_minL | with_reducible exact cb_intB | with_reducible exact cb_all | with_reducible exact cb_any | with_reducible exact cb_listZip | with_reducible exact cb_listZipL | with_reducible exact cb_dictP | with_reducible exact oa_isB | with_reducible exact oa_notB | with_reducible exact cb_tupD | with_reducible exact cb_divmod | with_reducible exact oa_inD | with_reducible exact oa_notInD
  | with_reducible exact ma_join | with_reducible exact ma_find | with_reducible exact ma_count | with_reducible exact ma_split
  | with_reducible apply as_appTaken (by decide) | with_reducible apply as_ifSetd | with_reducible apply as_appPop | with_reducible apply as_update | with_reducible apply as_par3F | with_reducible apply as_asgT3 | with_reducible apply as_asgT2 | with_reducible apply as_frz | with_reducible apply as_setF | with_reducible apply as_parF | with_reducible apply as_seq | with_reducible apply as_if | with_reducible apply as_ret | with_reducible apply as_append | with_reducible apply as_extend | with_reducible apply as_pop | with_reducible apply as_popAt | with_reducible apply as_drop | with_reducible apply as_set | with_reducible apply as_par | with_reducible apply as_asg | with_reducible apply as_for | with_reducible apply as_while
  | with_reducible apply ab_gtup2 | with_reducible apply ab_gtup3 | with_reducible apply ab_gtup4 | with_reducible apply ab_gcons
  | with_reducible apply ab_cons | with_reducible apply ab_op | with_reducible apply ab_test | with_reducible apply ab_tB | with_reducible apply ab_and | with_reducible apply ab_or | with_reducible apply ab_not | with_reducible apply ab_andV | with_reducible apply ab_orV | with_reducible apply ab_notV | with_reducible apply ab_if
  | with_reducible apply ab_un | with_reducible apply ab_tup | with_reducible apply ab_lst | with_reducible apply ab_call | with_reducible apply ab_callK | with_reducible apply ab_cb | with_reducible apply ab_sl | with_reducible apply ab_part | with_reducible apply ab_backT | with_reducible apply ab_back0
  | with_reducible apply ab_lc | with_reducible apply ab_lenSetT | with_reducible apply ab_tupItems | with_reducible apply ab_stepT | with_reducible apply ab_sortItems | with_reducible apply ab_dc | with_reducible apply ab_listRg | with_reducible apply ab_star | with_reducible apply ab_starL | with_reducible apply ab_index | with_reducible apply ab_revL | with_reducible apply ab_callW | with_reducible apply ab_disp1 | with_reducible apply ab_dget1 | with_reducible apply ab_dget2 | with_reducible apply as_dput | with_reducible apply ab_chain | with_reducible apply ab_dget | with_reducible apply ab_din | with_reducible apply ab_dnotin | with_reducible apply ab_xin | with_reducible apply ab_xnotin | with_reducible apply ab_xget | with_reducible apply ab_xget1 | with_reducible apply as_xput
  | with_reducible apply ab_iany | with_reducible apply ab_ilist | with_reducible apply ab_itup | with_reducible apply ab_irng1 | with_reducible apply ab_irng2 | with_reducible apply ab_istr | with_reducible apply ab_ienum | with_reducible apply ab_ienumT
  | with_reducible apply ab_m1 | with_reducible apply ab_callLm | with_reducible apply ab_irev
  | with_reducible apply ab_tru
  | exact ab_keysAdd
  | (refine (show List.length _ = List.length _ from ?_); assumption)
  | rfl | (simp only [Tg.slots, tslots]; rfl)))
local macro_rules | `(tactic| walk_at "ago") => `(tactic| repeat (first
  | refine seqI ?_
  | refine ⟨_, rfl, szLe rfl, ?_⟩
  | refine ⟨_, rfl, ?_⟩
  | refine ⟨trivial, ?_⟩
  | refine ⟨_, _, rfl, rfl, ?_⟩
  | refine ⟨_, _, _, rfl, rfl, rfl, ?_⟩
  | refine ⟨_, _, _, rfl, (by decide), rfl, ?_⟩
  | refine ⟨_, _, _, _, rfl, rfl, rfl, rfl, rfl, ?_⟩
  | refine ⟨_, _, _, rfl, rfl, (by walk_at "side"), rfl, ?_⟩
  | refine ⟨_, _, rfl, rfl, (by walk_at "side"), ?_⟩
  | refine ⟨⟨_, rfl⟩, ?_⟩
  | refine ⟨rfl, ?_⟩))
local macro_rules | `(tactic| walk_at "agos") => `(tactic| repeat (first
  | refine ⟨_, rfl, szLe rfl, ?_⟩
  | refine ⟨_, rfl, ?_⟩
  | refine ⟨trivial, ?_⟩
  | refine ⟨_, _, rfl, rfl, ?_⟩
  | refine ⟨_, _, _, rfl, rfl, rfl, ?_⟩
  | refine ⟨_, _, _, rfl, (by decide), rfl, ?_⟩
  | refine ⟨_, _, _, _, rfl, rfl, rfl, rfl, rfl, ?_⟩
  | refine ⟨_, _, _, rfl, rfl, (by walk_at "side"), rfl, ?_⟩
  | refine ⟨_, _, rfl, rfl, (by walk_at "side"), ?_⟩
  | refine ⟨⟨_, rfl⟩, ?_⟩
  | refine ⟨rfl, ?_⟩))

abbrev s__law_tree : Stmt := topS 23
abbrev N__law_tree : List Str := ["hand", "names", "holes", "deep", "name", "many", "one", "k"]
theorem sc__law_tree : FnScope N__law_tree ["hand", "names", "holes", "deep"] (defScope s__law_tree) :=
  ⟨rfl, rfl, rfl, by decide +kernel, rfl, by decide +kernel, by decide +kernel⟩
theorem po__law_tree : Posi "_law_tree" s__law_tree ["hand", "names", "holes", "deep"] := fun _ _ _ _ _ _ us hl => match us, hl with | [_, _, _, _], _ => rfl

mutual
/-- a tree of these names, each with as many parts, and of these holes -/
def Tr.of (ns : List (Str × Int)) (zs : List Str) : Tr → Prop
  | .h s => s ∈ zs
  | .n f ps => (f, (ps.length : Int)) ∈ ns ∧ ofs ns zs ps
def ofs (ns : List (Str × Int)) (zs : List Str) : List Tr → Prop
  | [] => True
  | t :: r => t.of ns zs ∧ ofs ns zs r
end
theorem ofs_append {ns : List (Str × Int)} {zs : List Str} : ∀ {a b : List Tr}, ofs ns zs a → ofs ns zs b → ofs ns zs (a ++ b)
  | [], _, _, h => h
  | _ :: _, _, g, h => ⟨g.1, ofs_append g.2 h⟩
def costT : Nat → Nat
  | 0 => 2
  | d + 1 => 2 + 3 * costT d
def mostT : Nat → Nat
  | 0 => 1
  | d + 1 => 1 + 3 * mostT d
structure NamesOk (ns : List (Str × Int)) : Prop where
  zero : ∃ p ∈ ns, p.2 = 0
  full : ∀ p ∈ ns, Full p.1 ∧ 0 ≤ p.2 ∧ p.2 ≤ 3
  len : ns.length ≤ 100
theorem NamesD.ok {ns : List (Str × Int)} (h : NamesD ns) : NamesOk ns := by
  obtain ⟨h1, h2⟩ := h
  have l : ns.length = 5 := by have := congrArg List.length h1; simpa using this
  refine ⟨?_, fun p hp => ⟨h2 p hp, ?_⟩, by omega⟩
  · have : (0 : Int) ∈ ns.map Prod.snd := by rw [h1]; simp
    obtain ⟨p, hp, e⟩ := List.mem_map.mp this
    exact ⟨p, hp, e⟩
  · have : p.2 ∈ ns.map Prod.snd := List.mem_map.mpr ⟨p, hp, rfl⟩
    rw [h1] at this
    simp only [List.mem_cons, List.not_mem_nil, or_false] at this
    omega
def fTree (d : Nat) : FS := fun as n q => ∃ ns zs, as = [.hd, .d (.list (ns.map nameP)), .d (strsD zs), .d (.int d)] ∧ NamesOk ns ∧ zs.length ≤ 100 ∧ (∀ z ∈ zs, Nm z) ∧ n + costT d < 900000 ∧
  ∀ (t : Tr) (n' : Nat), t.of ns zs → t.deep ≤ d + 1 → t.size ≤ mostT d → n ≤ n' → n' ≤ n + costT d → q (.d t.data) n'
theorem eqvStrs (zs : List Str) : PyData.eqv (strsD zs) (.list []) = zs.isEmpty := by cases zs <;> simp [strsD, PyData.eqv, PyData.eqvAll]
theorem hasDictStrs : ∀ zs : List Str, PyData.hasDictAll (zs.map PyData.str) = false
  | [] => by simp [PyData.hasDictAll]
  | z :: zs => by simp [PyData.hasDictAll, PyData.hasDict, hasDictStrs zs]
theorem shapedStrs {zs : List Str} (h : ∀ z ∈ zs, Nm z) : SeqAt.shaped (strsD zs) = true :=
  ((finesStrs (m := 8) (fun z hz => ⟨(h z hz).sm, (h z hz).2.1⟩) 0).list).shaped (by decide)
section
variable {P : Program} {w : World} {K : PySem.W.Frag} {mg : Str → Option Value} {base : Heap} {tb : TBs}
theorem a_tree1 (d : Nat) (T : At K mg "_law_tree" s__law_tree) (d__law_take : Has P w K mg base 1 "_law_take" s__law_take ["hand", "many"] (spA (lw K tb) fTake)) (d__law_of : Has P w K mg base 2 "_law_of" s__law_of ["hand", "some"] (spA (lw K tb) fOf))
    (mb_range : mg "range" = none) (mb_tuple : mg "tuple" = none) (F : FS) (hF : ∀ d', d = d' + 1 → F = fTree d')
    (d__law_tree : Has P w K mg base (2 + d) "_law_tree" s__law_tree ["hand", "names", "holes", "deep"] (spA (lw K tb) F)) :
    Has P w K mg base (3 + d) "_law_tree" s__law_tree ["hand", "names", "holes", "deep"] (spA (lw K tb) (fTree d)) := by
  have e3 : 3 + d = (2 + d) + 1 := by omega
  rw [e3]
  refine T.hasA sc__law_tree po__law_tree (fun as n q h => by obtain ⟨ns, zs, rfl, _⟩ := h; rfl) (fun f cdv Ar outer s H E hr => ?_)
  have nd := sc__law_tree.nd
  refine' bodyA (fun as n q h => by obtain ⟨ns, zs, rfl, _⟩ := h; show 4 ≤ 8; decide) (pss_cons (ps_if (PW.pt (pw_and (pt_cmpR (op_neD hr.units) (pv 2) (pe_lst pa_nil) (nomark _)) (pw_and1 (pt_cmpR op_eq (pe_callD d__law_take (by omega) hr (pa_cons (pv 0) (pa_cons pe_int pa_nil))) pe_int (nomark _))))) (pss_one (ps_ret (pe_callD d__law_of (by omega) hr (pa_cons (pv 0) (pa_cons (pv 2) pa_nil))))) pss_nil)
      (pss_cons (ps_asg (pe_callD d__law_of (by omega) hr (pa_cons (pv 0) (pa_cons (pe_lc (own := [("one", 6)]) (by rfl) nd (pi_any (pv 1)) (blkOk_by (own := [("one", 6)]) (N := N__law_tree) (sc := defScope s__law_tree) (by decide +kernel)) (fun _ _ _ _ _ => (pg_name (i := 6) nd rfl (.inl rfl))) (fun _ _ _ _ _ => (pts_one (PW.pt (pw_or (pt_cmpR op_eq (pe_ix (ixQ K) (pv 6) pe_int (fun _ _ => rfl)) pe_int (nomark _)) (pw_or1 (pt_cmpR op_gt (pv 3) pe_int (nomark _))))))) (fun _ _ _ _ _ => (pv 6))) pa_nil))) (pgTup K 2 rfl (pgs_cons (pg_name (i := 4) nd rfl (.inl rfl)) (pgs_cons (pg_name (i := 5) nd rfl (.inl rfl)) pgs_nil))))
      (pss_one (ps_ret (pe_op (addQ K) (pe_tup (pa_cons (pv 4) pa_nil)) (pe_callTy (tupQ K) (by rfl) mb_tuple (by decide +kernel) (pa_cons (pe_lc (own := [("k", 7)]) (by rfl) nd (pi_range1 (by rfl) mb_range (pa_cons (pv 5) pa_nil)) (blkOk_by (own := [("k", 7)]) (N := N__law_tree) (sc := defScope s__law_tree) (by decide +kernel)) (fun _ _ _ _ _ => (pg_name (i := 7) nd rfl (.inl rfl))) (fun _ _ _ _ _ => pts_nil) (fun _ _ _ _ _ => (pe_callD d__law_tree (by omega) hr (pa_cons (pv 0) (pa_cons (pv 1) (pa_cons (pv 2) (pa_cons (pe_op op_sub (pv 3) pe_int) pa_nil))))))) pa_nil))))))) ?ab ?go
  case ab => walk_at "ab"
  case go =>
    rintro as n q ⟨ns, zs, rfl, hns, hzl, hz, hn, hq⟩
    have c2 : 2 ≤ costT d := by cases d <;> simp [costT]
    have m2 : 1 ≤ mostT d := by cases d <;> simp [mostT]
    refine seqAt (fun n1 => n ≤ n1 ∧ n1 ≤ n + 1) (fun rest => ?_) (fun n1 hn1 => ?_)
    · walk_at "ago"
      refine ⟨shapedStrs hz, by decide, by simp only [strsD, PyData.hasDict]; exact hasDictStrs zs, by decide, ?_⟩
      rw [eqvStrs]
      walk_at "ago"
      cases zs with
      | nil => exact rest n ⟨by omega, by omega⟩
      | cons z zs =>
        walk_at "ago"
        refine drawN (by omega) (by decide) (by decide) fun r r0 r1 => ?_
        walk_at "ago"
        refine iff_d (fun _ => ?_) (fun _ => ?_)
        · walk_at "ago"
          refine drawL (by omega) (by simp) (by rw [List.length_map]; omega) fun x hx => ⟨trivial, ?_⟩
          obtain ⟨y, hy, rfl⟩ := List.mem_map.mp hx
          have := hq (.h y) (n + 1 + 1) hy (Nat.zero_le _) (by rw [size_h]; exact m2) (by omega) (by omega)
          rw [Tr.data] at this
          exact this
        · exact rest (n + 1) ⟨by omega, by omega⟩
    · walk_at "ago"
      refine .inl ?_
      walk_at "ago"
      refine hold (aGo_ind (fun rem acc m => m = n1 ∧ ∃ dn rm, ns = dn ++ rm ∧ rem = rm.map nameP ∧ acc = (dn.filter fun p => decide (p.2 = 0) || decide (0 < d)).map nameP) (fun acc m hG => ?_) (fun x r acc m hG ih => ?_) _ _ _ ⟨rfl, [], ns, rfl, rfl, rfl⟩)
      · obtain ⟨rfl, dn, rm, e1, e2, rfl⟩ := hG
        obtain rfl : rm = [] := List.map_eq_nil_iff.mp e2.symm
        rw [List.append_nil] at e1
        subst e1
        walk_at "ago"
        refine drawL (by omega) ?_ ?_ fun x hx => ?_
        · obtain ⟨p, hp, hp0⟩ := hns.zero
          intro e
          have := List.map_eq_nil_iff.mp e
          have hm : p ∈ ns.filter fun p => decide (p.2 = 0) || decide (0 < d) := List.mem_filter.mpr ⟨hp, by rw [hp0]; rfl⟩
          rw [this] at hm; cases hm
        · rw [List.length_map]
          have := List.length_filter_le (fun p : Str × Int => decide (p.2 = 0) || decide (0 < d)) ns
          have := hns.len
          omega
        obtain ⟨p, hp, rfl⟩ := List.mem_map.mp hx
        obtain ⟨hpn, hpt⟩ := List.mem_filter.mp hp
        obtain ⟨hf, p0, p3⟩ := hns.full p hpn
        walk_at "ago"
        refine ⟨by omega, by omega, ?_⟩
        have pm : (p.2.toNat : Int) = p.2 := by omega
        have pd : d = 0 → p.2 = 0 := fun e => by
          subst e
          simpa using hpt
        obtain ⟨n2, hn2⟩ : ∃ n2, n2 = m + 1 := ⟨_, rfl⟩
        refine hold (aGoY_ind (fun rem acc k => ∃ ts : List Tr, acc = ts.map Tr.data ∧ ts.length + rem.length = p.2.toNat ∧ ofs ns zs ts ∧ (ts ≠ [] → 0 < d) ∧ deeps ts ≤ d ∧ sizes ts ≤ ts.length * mostT (d - 1) ∧ n2 ≤ k ∧ k ≤ n2 + ts.length * costT (d - 1))
          (fun acc k hG => ?_) (fun x r acc k hG ih => ?_) _ _ _ ⟨[], rfl, by simp [rngD], trivial, fun h => (h rfl).elim, by simp [deeps], by simp [sizes, pres], by omega, by omega⟩)
        · obtain ⟨ts, rfl, h1, h2, h3, h4, h5, h6, h7⟩ := hG
          simp only [List.length_nil, Nat.add_zero] at h1
          walk_at "ago"
          refine ⟨_, _, rfl, .inl rfl, ?_⟩
          refine ⟨_, _, rfl, rfl, ?_, trivial, ?_⟩
          · rw [List.length_map, h1]
            show 1 + p.2.toNat ≤ sizeLine
            rw [sizeLine_eq]; omega
          have c3 : ts.length ≤ 3 := by omega
          have key : ts.length * costT (d - 1) + 2 ≤ costT d ∧ ts.length * mostT (d - 1) + 1 ≤ mostT d := by
            cases d with
            | zero =>
              have : ts.length = 0 := by have := pd rfl; omega
              rw [this]; simp [costT, mostT]
            | succ d =>
              have q1 := Nat.mul_le_mul_right (costT d) c3
              have q2 := Nat.mul_le_mul_right (mostT d) c3
              simp only [Nat.add_sub_cancel, costT, mostT]
              omega
          have := hq (.n p.1 ts) k ⟨by rw [h1, pm]; exact hpn, h2⟩ (by show deeps ts + 1 ≤ d + 1; omega) (by show sizes ts + 1 ≤ mostT d; omega) (by omega) (by omega)
          rw [Tr.data, datas_map] at this
          exact this
        · obtain ⟨ts, rfl, h1, h2, h3, h4, h5, h6, h7⟩ := hG
          rw [List.length_cons] at h1
          obtain ⟨d', rfl⟩ : ∃ d', d = d' + 1 := by
            cases d with
            | zero => have := pd rfl; omega
            | succ d => exact ⟨d, rfl⟩
          obtain rfl := hF d' rfl
          have c3 : ts.length ≤ 2 := by omega
          have q1 := Nat.mul_le_mul_right (costT d') c3
          simp only [Nat.add_sub_cancel] at h5 h7 ⊢
          have cc : costT (d' + 1) = 2 + 3 * costT d' := rfl
          walk_at "ago"
          refine ⟨ns, zs, by rw [show (((d' + 1 : Nat) : Int) - 1) = (d' : Int) by omega], hns, hzl, hz, by omega, fun t n' t1 t2 t3 t4 t5 => ?_⟩
          refine ⟨_, rfl, by rw [List.length_map, sizeLine_eq]; omega, ih _ _ ⟨ts ++ [t], by rw [List.map_append, List.map_singleton], by rw [List.length_append, List.length_singleton]; omega, ofs_append h2 ⟨t1, trivial⟩, fun _ => by omega, ?_, ?_, by omega, ?_⟩⟩
          · rw [deeps_append]; show max (deeps ts) (max t.deep 0) ≤ d' + 1; omega
          · rw [sizes_append, List.length_append, List.length_singleton, Nat.add_mul, Nat.one_mul, Nat.add_sub_cancel]
            have : sizes [t] = t.size := by show (t.pre ++ []).length = _; rw [List.append_nil]; rfl
            omega
          · rw [List.length_append, List.length_singleton, Nat.add_mul, Nat.one_mul, Nat.add_sub_cancel]; omega
      · obtain ⟨rfl, dn, rm, e1, e2, rfl⟩ := hG
        obtain ⟨p, rm, rfl⟩ : ∃ p rm', rm = p :: rm' := by
          cases rm with
          | nil => cases e2
          | cons p rm => exact ⟨p, rm, rfl⟩
        cases e2
        have hpn : p ∈ ns := by rw [e1]; simp
        have lns := hns.len
        have ldn : dn.length ≤ ns.length := by rw [e1, List.length_append]; omega
        have lf := List.length_filter_le (fun p : Str × Int => decide (p.2 = 0) || decide (0 < d)) dn
        have hyes : (decide (p.2 = 0) || decide (0 < d)) = true → (dn.filter fun p => decide (p.2 = 0) || decide (0 < d)).map nameP ++ [nameP p] = ((dn ++ [p]).filter fun p => decide (p.2 = 0) || decide (0 < d)).map nameP := fun h => by
          rw [List.filter_append, List.map_append]
          simp only [List.filter_cons, h, if_true, List.filter_nil, List.map_cons, List.map_nil]
        have hno : (decide (p.2 = 0) || decide (0 < d)) = false → (dn.filter fun p => decide (p.2 = 0) || decide (0 < d)).map nameP = ((dn ++ [p]).filter fun p => decide (p.2 = 0) || decide (0 < d)).map nameP := fun h => by
          rw [List.filter_append]
          simp only [List.filter_cons, h, Bool.false_eq_true, if_false, List.filter_nil, List.append_nil]
        have e2 : ns = (dn ++ [p]) ++ rm := by rw [e1, List.append_assoc]; rfl
        rw [aGo]
        walk_at "ago"
        refine iff_d (fun h0 => ?_) (fun h0 => ?_)
        · have h0' : p.2 = 0 := by simpa using h0
          refine (if_pos rfl).mpr ?_
          refine ⟨_, rfl, _, rfl, by rw [List.length_map, sizeLine_eq]; omega, ih _ _ ⟨rfl, dn ++ [p], rm, e2, rfl, hyes (by rw [h0']; rfl)⟩⟩
        · have h0' : p.2 ≠ 0 := by simpa using h0
          walk_at "ago"
          refine iff_d (fun h1 => ?_) (fun h1 => ?_)
          · refine ⟨_, rfl, _, rfl, by rw [List.length_map, sizeLine_eq]; omega, ih _ _ ⟨rfl, dn ++ [p], rm, e2, rfl, hyes (by rw [decide_eq_true (show 0 < d by omega)]; simp)⟩⟩
          · exact ih _ _ ⟨rfl, dn ++ [p], rm, e2, rfl, hno (by rw [decide_eq_false h0', decide_eq_false (show ¬ 0 < d by omega)]; rfl)⟩
theorem a_tree (T : At K mg "_law_tree" s__law_tree) (d__law_take : Has P w K mg base 1 "_law_take" s__law_take ["hand", "many"] (spA (lw K tb) fTake)) (d__law_of : Has P w K mg base 2 "_law_of" s__law_of ["hand", "some"] (spA (lw K tb) fOf))
    (mb_range : mg "range" = none) (mb_tuple : mg "tuple" = none) : ∀ d : Nat, Has P w K mg base (3 + d) "_law_tree" s__law_tree ["hand", "names", "holes", "deep"] (spA (lw K tb) (fTree d))
  | 0 => a_tree1 0 T d__law_take d__law_of mb_range mb_tuple (fun _ _ _ => False) (fun d' e => by omega) (Has.none T po__law_tree fun vs H Q E h => by obtain ⟨M, as, n, q, _, _, _, _, _, _, _, h, _⟩ := h; exact h)
  | d + 1 => a_tree1 (d + 1) T d__law_take d__law_of mb_range mb_tuple (fTree d) (fun d' e => by cases e; rfl) ((a_tree T d__law_take d__law_of mb_range mb_tuple d).up (by omega))
end
end Ah
namespace Ah
open PySem PySem.Spec PyProof.Rows L2
local macro_rules | `(tactic| walk_at "side") => `(tactic| first | omega | decide | (dsimp only; omega) | (unfold CDivN; omega) | (unfold CMul; omega) | (unfold CPow; omega) | (unfold CPow; decide) | (unfold CMulW; decide) | exact szLe rfl | rfl)
local macro_rules | `(tactic| walk_at "here") => `(tactic| first | assumption | exact upd_same)
local macro_rules | `(tactic| walk_at "go") => `(tactic| repeat (first
  | (refine ⟨_, rfl, ?_⟩)
  | (refine ⟨_, _, rfl, rfl, ?_⟩)
  | (refine ⟨_, _, _, _, rfl, rfl, SqL.of (by walk_at "here"), rfl, ?_⟩)
  | (refine ⟨_, _, _, _, rfl, rfl, (by walk_at "here"), rfl, ?_⟩)
  | (refine ⟨_, _, rfl, ?_⟩)
  | (refine And.intro (by walk_at "side") ?_)))
local macro_rules | `(tactic| walk_at "ab") => `(tactic| (try dsimp only [noxK]); repeat (first
  | with_reducible exact ab_var | with_reducible exact ab_int | with_reducible exact ab_str | with_reducible exact ab_bl | with_reducible exact ab_non | with_reducible exact ab_ty | with_reducible exact ab_nil | with_reducible exact ab_noPart | with_reducible exact ab_yes | with_reducible exact ab_dnew | with_reducible exact ab_xnew
  | with_reducible exact as_next | with_reducible exact as_retN | with_reducible exact as_break | with_reducible exact as_cont | with_reducible exact ab_gname | with_reducible exact ab_gnil
  | with_reducible exact oa_I0 | with_reducible exact oa_I | with_reducible exact oa_eq | with_reducible exact oa_ne | with_reducible exact oa_addQ | with_reducible exact oa_ixQ | with_reducible exact oa_eqD | with_reducible exact oa_neD | with_reducible exact oa_isTyB | with_reducible exact oa_notTyB | with_reducible exact oa_NT | with_reducible exact cb_sortD | with_reducible exact oa_isN | with_reducible exact oa_notN | with_reducible exact oa_mulQ | with_reducible exact oa_mulS | with_reducible exact oa_repT | with_reducible exact oa_inS | with_reducible exact oa_notInS | with_reducible exact oa_cat | with_reducible exact oa_catU
  | with_reducible exact cb_len | with_reducible exact cb_type | with_reducible exact cb_isi | with_reducible exact cb_repr | with_reducible exact cb_listOf | with_reducible exact cb_tupOf | with_reducible exact cb_max2 | with_reducible exact cb_minL | with_reducible exact cb_intB | with_reducible exact cb_all | with_reducible exact cb_any | with_reducible exact cb_listZip | with_reducible exact cb_listZipL | with_reducible exact cb_dictP | with_reducible exact oa_isB | with_reducible exact oa_notB | with_reducible exact cb_tupD | with_reducible exact cb_divmod | with_reducible exact oa_inD | with_reducible exact oa_notInD
  | with_reducible exact ma_join | with_reducible exact ma_find | with_reducible exact ma_count | with_reducible exact ma_split
  | with_reducible apply as_appTaken (by decide) | with_reducible apply as_ifSetd | with_reducible apply as_appPop | with_reducible apply as_update | with_reducible apply as_par3F | with_reducible apply as_asgT3 | with_reducible apply as_asgT2 | with_reducible apply as_frz | with_reducible apply as_setF | with_reducible apply as_parF | with_reducible apply as_seq | with_reducible apply as_if | with_reducible apply as_ret | with_reducible apply as_append | with_reducible apply as_extend | with_reducible apply as_pop | with_reducible apply as_popAt | with_reducible apply as_drop | with_reducible apply as_set | with_reducible apply as_par | with_reducible apply as_asg | with_reducible apply as_for | with_reducible apply as_while
  | with_reducible apply ab_gtup2 | with_reducible apply ab_gtup3 | with_reducible apply ab_gtup4 | with_reducible apply ab_gcons
  | with_reducible apply ab_cons | with_reducible apply ab_op | with_reducible apply ab_test | with_reducible apply ab_tB | with_reducible apply ab_and | with_reducible apply ab_or | with_reducible apply ab_not | with_reducible apply ab_andV | with_reducible apply ab_orV | with_reducible apply ab_notV | with_reducible apply ab_if
  | with_reducible apply ab_un | with_reducible apply ab_tup | with_reducible apply ab_lst | with_reducible apply ab_call | with_reducible apply ab_callK | with_reducible apply ab_cb | with_reducible apply ab_sl | with_reducible apply ab_part | with_reducible apply ab_backT | with_reducible apply ab_back0
  | with_reducible apply ab_lc | with_reducible apply ab_lenSetT | with_reducible apply ab_tupItems | with_reducible apply ab_stepT | with_reducible apply ab_sortItems | with_reducible apply ab_dc | with_reducible apply ab_listRg | with_reducible apply ab_star | with_reducible apply ab_starL | with_reducible apply ab_index | with_reducible apply ab_revL | with_reducible apply ab_callW | with_reducible apply ab_disp1 | with_reducible apply ab_dget1 | with_reducible apply ab_dget2 | with_reducible apply as_dput | with_reducible apply ab_chain | with_reducible apply ab_dget | with_reducible apply ab_din | with_reducible apply ab_dnotin | with_reducible apply ab_xin | with_reducible apply ab_xnotin | with_reducible apply ab_xget | with_reducible apply ab_xget1 | with_reducible apply as_xput
  | with_reducible apply ab_iany | with_reducible apply ab_ilist | with_reducible apply ab_itup | with_reducible apply ab_irng1 | with_reducible apply ab_irng2 | with_reducible apply ab_istr | with_reducible apply ab_ienum | with_reducible apply ab_ienumT
  | with_reducible apply ab_m1 | with_reducible apply ab_callLm | with_reducible apply ab_irev
  | with_reducible apply ab_tru
  | exact ab_keysAdd
  | (refine (show List.length _ = List.length _ from ?_); assumption)
  | rfl | (simp only [Tg.slots, tslots]; rfl)))
local macro_rules | `(tactic| walk_at "ago") => `(tactic| repeat (first
  | refine seqI ?_
  | refine ⟨_, rfl, szLe rfl, ?_⟩
  | refine ⟨_, rfl, ?_⟩
  | refine ⟨trivial, ?_⟩
  | refine ⟨_, _, rfl, rfl, ?_⟩
  | refine ⟨_, _, _, rfl, rfl, rfl, ?_⟩
  | refine ⟨_, _, _, rfl, (by decide), rfl, ?_⟩
  | refine ⟨_, _, _, _, rfl, rfl, rfl, rfl, rfl, ?_⟩
  | refine ⟨_, _, _, rfl, rfl, (by walk_at "side"), rfl, ?_⟩
  | refine ⟨_, _, rfl, rfl, (by walk_at "side"), ?_⟩
  | refine ⟨⟨_, rfl⟩, ?_⟩
  | refine ⟨rfl, ?_⟩))
local macro_rules | `(tactic| walk_at "agos") => `(tactic| repeat (first
  | refine ⟨_, rfl, szLe rfl, ?_⟩
  | refine ⟨_, rfl, ?_⟩
  | refine ⟨trivial, ?_⟩
  | refine ⟨_, _, rfl, rfl, ?_⟩
  | refine ⟨_, _, _, rfl, rfl, rfl, ?_⟩
  | refine ⟨_, _, _, rfl, (by decide), rfl, ?_⟩
  | refine ⟨_, _, _, _, rfl, rfl, rfl, rfl, rfl, ?_⟩
  | refine ⟨_, _, _, rfl, rfl, (by walk_at "side"), rfl, ?_⟩
  | refine ⟨_, _, rfl, rfl, (by walk_at "side"), ?_⟩
  | refine ⟨⟨_, rfl⟩, ?_⟩
  | refine ⟨rfl, ?_⟩))

abbrev s__law_symbols : Stmt := topS 26
abbrev N__law_symbols : List Str := ["tree", "found", "limb"]
theorem sc__law_symbols : FnScope N__law_symbols ["tree"] (defScope s__law_symbols) :=
  ⟨rfl, rfl, rfl, by decide +kernel, rfl, by decide +kernel, by decide +kernel⟩
theorem po__law_symbols : Posi "_law_symbols" s__law_symbols ["tree"] := fun _ _ _ _ _ _ us hl => match us, hl with | [_], _ => rfl

def symsD (t : Tr) : List PyData := (syms t).map PyData.str
def fSyms (d : Nat) : FS := fun as n q => ∃ t : Tr, as = [.d t.data] ∧ t.deep ≤ d ∧ t.size ≤ 5000 ∧ q (.ol (symsD t)) n
section
variable {P : Program} {w : World} {K : PySem.W.Frag} {mg : Str → Option Value} {base : Heap} {tb : TBs}
theorem a_syms1 (d : Nat) (T : At K mg "_law_symbols" s__law_symbols) (mb_str : mg "str" = none) (mb_isinstance : mg "isinstance" = none) (F : FS) (hF : ∀ d', d = d' + 1 → F = fSyms d')
    (d__law_symbols : Has P w K mg base d "_law_symbols" s__law_symbols ["tree"] (spA (lw K tb) F)) :
    Has P w K mg base (d + 1) "_law_symbols" s__law_symbols ["tree"] (spA (lw K tb) (fSyms d)) := by
  refine T.hasA sc__law_symbols po__law_symbols (fun as n q h => by obtain ⟨t, rfl, _⟩ := h; rfl) (fun f cdv Ar outer s H E hr => ?_)
  have nd := sc__law_symbols.nd
  refine' bodyA (fun as n q h => by obtain ⟨t, rfl, _⟩ := h; show 1 ≤ 3; decide) (pss_cons (ps_if (pt_val (pe_callB (isiQ K) (by rfl) mb_isinstance (by decide +kernel) (pa_cons (pv 0) (pa_cons (pe_ty_str mb_str) pa_nil)))) (pss_one (ps_ret (pe_lst (pa_cons (pv 0) pa_nil)))) pss_nil)
      (pss_cons (ps_set (i := 1) nd rfl (Or.inl rfl) (pe_lst (pa_cons (pe_ix (ixQ K) (pv 0) pe_int (fun _ _ => rfl)) pa_nil)))
      (pss_cons (ps_for PassesOwn.never rfl (pi_any (pe_slice (slQ K) (pv 0) (po_some pe_int) po_none)) (pg_name (i := 2) nd rfl (.inl rfl)) (pss_one (ps_expr (pe_bm PySem.F.plainAttrs_list PySem.F.slot_list_extend PySem.F.type_list_extend (mt_extQ K) (pv 1) (pa_cons (pe_callD d__law_symbols (by omega) hr (pa_cons (pv 2) pa_nil)) pa_nil)))))
      (pss_one (ps_ret (pv 1)))))) ?ab ?go
  case ab => walk_at "ab"
  case go =>
    rintro as n q ⟨t, rfl, h1, h2, hq⟩
    cases t with
    | h z =>
      walk_at "ago"
      have e : symsD (.h z) = [(Tr.h z).data] := by unfold symsD; rw [syms_h, Tr.data]; rfl
      rw [e] at hq
      exact hq
    | n f ps =>
      rw [Tr.data]
      walk_at "ago"
      refine ⟨_, atI0, ?_⟩
      walk_at "ago"
      refine .inr (.inl ?_)
      walk_at "ago"
      have ec : cutL (PyData.str f :: datas ps) (some 1) none = datas ps := by
        unfold cutL
        rw [show (1 : Int) = ((1 : Nat) : Int) from rfl, HT.sIx_none, HT.sIx_nat, Nat.min_eq_left (by rw [List.length_cons]; omega), List.take_of_length_le (by rw [List.length_drop]; exact Nat.le_refl _)]
        rfl
      rw [ec]
      have hd : deeps ps + 1 ≤ d := h1
      obtain ⟨d', rfl⟩ : ∃ d', d = d' + 1 := ⟨d - 1, by omega⟩
      obtain rfl := hF d' rfl
      have hsz : (Tr.n f ps).size = sizes ps + 1 := size_n f ps
      refine hold (aLoop_ind (fun rem e k => k = n ∧ ∃ (dn rm : List Tr) (x2 : Option A), ps = dn ++ rm ∧ rem = datas rm ∧ e = [some (.d (.tuple (.str f :: datas ps))), some (.ol (.str f :: ((pres dn).map symOf).map PyData.str)), x2])
        (fun e k hG => ?_) (fun x r e k hG ih => ?_) _ _ _ ⟨rfl, [], ps, none, rfl, rfl, rfl⟩)
      · obtain ⟨rfl, dn, rm, x2, e1, e2, rfl⟩ := hG
        obtain rfl : rm = [] := by cases rm with | nil => rfl | cons a b => rw [datas] at e2; cases e2
        rw [List.append_nil] at e1
        subst e1
        walk_at "ago"
        have e3 : symsD (.n f ps) = PyData.str f :: ((pres ps).map symOf).map PyData.str := by unfold symsD; rw [syms_n, List.map_cons]
        rw [e3] at hq
        exact hq
      · obtain ⟨rfl, dn, rm, x2, e1, e2, rfl⟩ := hG
        cases rm with
        | nil => rw [datas] at e2; cases e2
        | cons t rm =>
          rw [datas] at e2
          injection e2 with e2 e3
          subst e2 e3
          rw [aLoop]
          walk_at "ago"
          have md := preMem (qs := ps) (u := t) (by rw [e1]; exact List.mem_append_right _ List.mem_cons_self)
          have sz : sizes ps = sizes dn + (t.size + sizes rm) := by
            rw [e1]
            show (pres (dn ++ t :: rm)).length = _
            rw [pres_append, List.length_append]
            show _ + (t.pre ++ pres rm).length = _
            rw [List.length_append]
            rfl
          refine ⟨by omega, by omega, ?_⟩
          refine ⟨_, _, _, rfl, .inl rfl, rfl, ?_, ?_⟩
          · rw [List.length_cons, List.length_map, List.length_map, sizeLine_eq]
            have l1 : (symsD t).length = t.size := by unfold symsD syms; rw [List.length_map, List.length_map]; rfl
            have l2 : (pres dn).length = sizes dn := rfl
            omega
          · refine ih _ _ ⟨rfl, dn ++ [t], rm, some (.d t.data), by rw [e1, List.append_assoc]; rfl, rfl, ?_⟩
            have e4 : PyData.str f :: ((pres (dn ++ [t])).map symOf).map PyData.str = PyData.str f :: ((pres dn).map symOf).map PyData.str ++ symsD t := by
              rw [pres_append, List.map_append, List.map_append]
              show _ :: (_ ++ (((t.pre ++ pres []).map symOf).map PyData.str)) = _
              rw [show pres [] = [] from rfl, List.append_nil]
              rfl
            rw [e4]
            rfl
end
end Ah
namespace Ah
open PySem PySem.Spec PyProof.Rows L2
/-! ## a pile and a queue match alike -/
mutual
def Tr.inst (s : Str → Tr) : Tr → Tr
  | .h z => s z
  | .n f ps => .n f (insts s ps)
def insts (s : Str → Tr) : List Tr → List Tr
  | [] => []
  | t :: r => t.inst s :: insts s r
end
mutual
theorem eqvTr : ∀ u v : Tr, PyData.eqv u.data v.data = true → u = v
  | .h a, .h b, h => by
    simp only [Tr.data, PyData.eqv] at h
    rw [eq_of_beq h]
  | .h a, .n g qs, h => by simp [Tr.data, PyData.eqv] at h
  | .n f ps, .h b, h => by simp [Tr.data, PyData.eqv] at h
  | .n f ps, .n g qs, h => by
    simp only [Tr.data, PyData.eqv, PyData.eqvAll, Bool.and_eq_true] at h
    rw [eq_of_beq h.1, eqvTrs ps qs h.2]
theorem eqvTrs : ∀ us vs : List Tr, PyData.eqvAll (datas us) (datas vs) = true → us = vs
  | [], [], _ => rfl
  | [], v :: vs, h => by simp [datas, PyData.eqvAll] at h
  | u :: us, [], h => by simp [datas, PyData.eqvAll] at h
  | u :: us, v :: vs, h => by
    simp only [datas, PyData.eqvAll, Bool.and_eq_true] at h
    rw [eqvTr u v h.1, eqvTrs us vs h.2]
end
theorem instsZip (s : Str → Tr) : ∀ {ps qs : List Tr}, ps.length = qs.length → (insts s ps = qs ↔ ∀ p ∈ ps.zip qs, p.1.inst s = p.2)
  | [], [], _ => by simp [insts]
  | [], _ :: _, h => by simp at h
  | _ :: _, [], h => by simp at h
  | a :: r, b :: t, h => by
    rw [insts, List.zip_cons_cons]
    have ih := instsZip s (ps := r) (qs := t) (by simpa using h)
    constructor
    · intro e p hp
      injection e with e1 e2
      rcases List.mem_cons.mp hp with rfl | hp
      · exact e1
      · exact ih.mp e2 p hp
    · intro e
      rw [e (a, b) List.mem_cons_self, ih.mpr fun p hp => e p (List.mem_cons_of_mem _ hp)]
theorem instsLen (s : Str → Tr) : ∀ ps : List Tr, (insts s ps).length = ps.length
  | [] => rfl
  | _ :: r => by rw [insts, List.length_cons, List.length_cons, instsLen s r]
/-- each hole once -/
def Func (m : HM) : Prop := ∀ p ∈ m, m.get p.1 = some p.2
def Fits (ws : List (Tr × Tr)) (m : HM) : Prop := ∃ s : Str → Tr, (∀ p ∈ m, s p.1 = p.2) ∧ ∀ p ∈ ws, p.1.inst s = p.2
theorem getMem {m : HM} {z : Str} {u : Tr} (h : m.get z = some u) : (z, u) ∈ m := by
  unfold HM.get at h
  cases hf : m.find? fun p => decide (p.1 = z) with
  | none => rw [hf] at h; cases h
  | some p =>
    rw [hf] at h
    have h2 := List.find?_some hf
    have h3 : p.1 = z := of_decide_eq_true h2
    have h4 : p.2 = u := Option.some.inj h
    rw [← h3, ← h4]
    exact List.mem_of_find?_eq_some hf
theorem getApp {m : HM} {z : Str} {t : Tr} (h : m.get z = none) (hm : Func m) : Func (m ++ [(z, t)]) := by
  intro p hp
  unfold HM.get
  rw [List.find?_append]
  rcases List.mem_append.mp hp with hp | hp
  · have := hm p hp
    unfold HM.get at this
    cases hf : m.find? fun r => decide (r.1 = p.1) with
    | none => rw [hf] at this; cases this
    | some r => rw [hf] at this; exact this
  · rw [List.mem_singleton.mp hp]
    unfold HM.get at h
    rw [Option.map_eq_none_iff.mp h]
    simp
theorem fitsNil {m : HM} (hm : Func m) : Fits [] m := ⟨fun z => (m.get z).getD (.h z), fun p hp => by show (m.get p.1).getD _ = _; rw [hm p hp]; rfl, fun p hp => by cases hp⟩
theorem fitsHole {z : Str} {t : Tr} {ws ws' : List (Tr × Tr)} {m : HM} (hw : ∀ p, p ∈ ws' ↔ p = (.h z, t) ∨ p ∈ ws) (hg : m.get z = none) : Fits ws' m ↔ Fits ws (m ++ [(z, t)]) := by
  constructor
  · rintro ⟨s, h1, h2⟩
    refine ⟨s, fun p hp => ?_, fun p hp => h2 p ((hw p).mpr (.inr hp))⟩
    rcases List.mem_append.mp hp with hp | hp
    · exact h1 p hp
    · rw [List.mem_singleton.mp hp]
      exact h2 (.h z, t) ((hw _).mpr (.inl rfl))
  · rintro ⟨s, h1, h2⟩
    refine ⟨s, fun p hp => h1 p (List.mem_append_left _ hp), fun p hp => ?_⟩
    rcases (hw p).mp hp with rfl | hp
    · exact h1 (z, t) (List.mem_append_right _ (List.mem_singleton.mpr rfl))
    · exact h2 p hp
theorem fitsSame {z : Str} {t : Tr} {ws ws' : List (Tr × Tr)} {m : HM} (hw : ∀ p, p ∈ ws' ↔ p = (.h z, t) ∨ p ∈ ws) (hg : m.get z = some t) : Fits ws' m ↔ Fits ws m := by
  constructor
  · rintro ⟨s, h1, h2⟩
    exact ⟨s, h1, fun p hp => h2 p ((hw p).mpr (.inr hp))⟩
  · rintro ⟨s, h1, h2⟩
    refine ⟨s, h1, fun p hp => ?_⟩
    rcases (hw p).mp hp with rfl | hp
    · exact h1 (z, t) (getMem hg)
    · exact h2 p hp
theorem fitsNot {z : Str} {t u : Tr} {ws : List (Tr × Tr)} {m : HM} (hw : (.h z, t) ∈ ws) (hg : m.get z = some u) (hn : u ≠ t) : ¬ Fits ws m := by
  rintro ⟨s, h1, h2⟩
  exact hn ((h1 (z, u) (getMem hg)).symm.trans (h2 (.h z, t) hw))
theorem fitsParts {f g : Str} {ps qs : List Tr} {ws ws' ws2 : List (Tr × Tr)} {m : HM} (hw : ∀ p, p ∈ ws' ↔ p = (.n f ps, .n g qs) ∨ p ∈ ws) (hw2 : ∀ p, p ∈ ws2 ↔ p ∈ ps.zip qs ∨ p ∈ ws) (hf : f = g) (hl : ps.length = qs.length) : Fits ws' m ↔ Fits ws2 m := by
  subst hf
  constructor
  · rintro ⟨s, h1, h2⟩
    refine ⟨s, h1, fun p hp => ?_⟩
    have e := h2 _ ((hw _).mpr (.inl rfl))
    rw [Tr.inst] at e
    injection e with _ e
    rcases (hw2 p).mp hp with hp | hp
    · exact (instsZip s hl).mp e p hp
    · exact h2 p ((hw p).mpr (.inr hp))
  · rintro ⟨s, h1, h2⟩
    refine ⟨s, h1, fun p hp => ?_⟩
    rcases (hw p).mp hp with rfl | hp
    · show Tr.inst s (.n f ps) = .n f qs
      rw [Tr.inst, (instsZip s hl).mpr fun p hp => h2 p ((hw2 p).mpr (.inl hp))]
    · exact h2 p ((hw2 p).mpr (.inr hp))
theorem fitsOff {f g : Str} {ps qs : List Tr} {ws : List (Tr × Tr)} {m : HM} (hw : (.n f ps, .n g qs) ∈ ws) (h : ¬ (f = g ∧ ps.length = qs.length)) : ¬ Fits ws m := by
  rintro ⟨s, h1, h2⟩
  have e := h2 _ hw
  rw [Tr.inst] at e
  injection e with e1 e2
  exact h ⟨e1, by rw [← e2, instsLen]⟩
theorem turnsCons (p : Tr × Tr) (ws : List (Tr × Tr)) : turns (p :: ws) = p.1.size + turns ws := by unfold turns; rw [List.map_cons, List.sum_cons]
theorem turnsApp (a b : List (Tr × Tr)) : turns (a ++ b) = turns a + turns b := by unfold turns; rw [List.map_append, List.sum_append]
theorem matchFits : ∀ (j : Nat) (ws : List (Tr × Tr)) (m : HM), turns ws < j → Func m → ((matchGo j ws m).isSome = true ↔ Fits ws m)
  | 0, _, _, h, _ => by omega
  | j + 1, [], m, _, hm => ⟨fun _ => fitsNil hm, fun _ => rfl⟩
  | j + 1, (.h z, t) :: ws, m, h, hm => by
    rw [turnsCons, size_h] at h
    rw [matchGo]
    cases hg : m.get z with
    | none =>
      rw [fitsHole (fun p => List.mem_cons) hg]
      exact matchFits j ws _ (by omega) (getApp hg hm)
    | some u =>
      dsimp only
      cases he : PyData.eqv u.data t.data with
      | true =>
        have e := eqvTr _ _ he
        subst e
        rw [if_pos rfl, fitsSame (fun p => List.mem_cons) hg]
        exact matchFits j ws m (by omega) hm
      | false =>
        rw [if_neg Bool.false_ne_true]
        have hn : u ≠ t := fun q => by rw [q, eqvSelf] at he; cases he
        exact ⟨fun q => (by cases q), fun q => (fitsNot List.mem_cons_self hg hn q).elim⟩
  | j + 1, (.n f ps, .h b) :: ws, m, h, hm => by
    rw [matchGo]
    refine ⟨fun q => (by cases q), fun q => ?_⟩
    obtain ⟨s, _, h2⟩ := q
    have e := h2 _ List.mem_cons_self
    rw [Tr.inst] at e
    cases e
  | j + 1, (.n f ps, .n g qs) :: ws, m, h, hm => by
    rw [turnsCons, size_n] at h
    rw [matchGo]
    by_cases hfg : f = g ∧ ps.length = qs.length
    · rw [if_pos hfg, fitsParts (ws2 := ps.zip qs ++ ws) (fun p => List.mem_cons) (fun p => List.mem_append) hfg.1 hfg.2]
      exact matchFits j _ m (by rw [turnsApp, turnsZip ps qs hfg.2]; omega) hm
    · rw [if_neg hfg]
      exact ⟨fun q => (by cases q), fun q => (fitsOff List.mem_cons_self hfg q).elim⟩
def HM.put (m : HM) (z : Str) (t : Tr) : HM := if (m.get z).isSome then m.map (fun p => if p.1 = z then (p.1, t) else p) else m ++ [(z, t)]
theorem putData (m : HM) (z : Str) (t : Tr) : putM m.data (.inr z) t.data = (m.put z t).data := by
  unfold putM HM.put
  cases hg : m.get z with
  | none =>
    rw [noAny hg]
    show m.data ++ [(Sum.inr z, t.data)] = _
    unfold HM.data
    rw [Option.isSome_none, if_neg Bool.false_ne_true, List.map_append]; rfl
  | some u =>
    have ya : (m.data.any fun p => decide (p.1 = (.inr z : Key))) = true := by
      unfold HM.get at hg
      cases hf : m.find? fun p => decide (p.1 = z) with
      | none => rw [hf] at hg; cases hg
      | some p =>
        have h1 := List.mem_of_find?_eq_some hf
        have h2 : p.1 = z := by
          have h3 := List.find?_some hf
          exact of_decide_eq_true h3
        exact List.any_eq_true.mpr ⟨(.inr p.1, p.2.data), List.mem_map.mpr ⟨p, h1, rfl⟩, decide_eq_true (by rw [h2])⟩
    rw [ya]
    unfold HM.data
    rw [Option.isSome_some, if_pos rfl, if_pos rfl, List.map_map, List.map_map]
    refine List.map_congr_left fun p hp => ?_
    show (if (Sum.inr p.1 : Key) = .inr z then _ else _) = _
    by_cases h : p.1 = z
    · rw [if_pos (by rw [h])]
      show _ = ((Sum.inr (if p.1 = z then (p.1, t) else p).1 : Key), (if p.1 = z then (p.1, t) else p).2.data)
      rw [if_pos h]
    · rw [if_neg (fun q => h (by injection q))]
      show _ = ((Sum.inr (if p.1 = z then (p.1, t) else p).1 : Key), (if p.1 = z then (p.1, t) else p).2.data)
      rw [if_neg h]
theorem putLen (m : HM) (z : Str) (t : Tr) : (m.put z t).length ≤ m.length + 1 := by
  unfold HM.put
  split
  · rw [List.length_map]; omega
  · rw [List.length_append, List.length_singleton]; omega
theorem putFit {m : HM} {z : Str} {t : Tr} (h : ∀ p ∈ m, FitT p.2) (ht : FitT t) : ∀ p ∈ m.put z t, FitT p.2 := by
  intro p hp
  unfold HM.put at hp
  split at hp
  · obtain ⟨r, hr, rfl⟩ := List.mem_map.mp hp
    by_cases hz : r.1 = z
    · rw [if_pos hz]; exact ht
    · rw [if_neg hz]; exact h r hr
  · rcases List.mem_append.mp hp with hp | hp
    · exact h p hp
    · rw [List.mem_singleton.mp hp]; exact ht
theorem eqvNil (l : List PyData) : PyData.eqv (.list l) (.list []) = l.isEmpty := by cases l <;> simp [PyData.eqv, PyData.eqvAll]
theorem popAt0 {T : Tg} {d : AD} {e : AEnv} {n i : Nat} {l : List PyData} {y : PyData} (h : e[i]? = some (some (.ol (y :: l)))) (k : putT T y (e.set i (some (.ol l))) fun e' => d.nx e' n) : aPopAt i T (aCons (aC (.int 0)) aNil) d e n :=
  ⟨y :: l, y, 0, 0, rfl, h, by decide, by decide, by simp [seqIndex?], rfl, k⟩
theorem rngLen (lo : Int) (n : Nat) : (rngD lo n).length = n := by simp [rngD]
theorem rngDrop {lo : Int} {n i : Nat} {x : PyData} {r : List PyData} (h : x :: r = (rngD lo n).drop i) : i < n ∧ x = .int (lo + (i : Int)) ∧ r = (rngD lo n).drop (i + 1) := by
  have hi : i < n := by
    have := congrArg List.length h
    rw [List.length_drop, rngLen, List.length_cons] at this
    omega
  have hi' : i < (rngD lo n).length := by rw [rngLen]; exact hi
  rw [List.drop_eq_getElem_cons hi'] at h
  injection h with h1 h2
  refine ⟨hi, ?_, h2⟩
  rw [h1]
  simp [rngD]
theorem symsLen (t : Tr) : (syms t).length = t.size := List.length_map _
def SmS (t : Tr) : Prop := ∀ z ∈ syms t, Sm z ∧ z.length ≤ 17
def HM.sub (m : HM) (z : Str) : Tr := (m.get z).getD (.h z)
theorem strsPure {zs : List Str} (h : ∀ z ∈ zs, Sm z) : SeqAt.shaped (.list (zs.map PyData.str)) = true ∧ PyData.hasDictAll (zs.map PyData.str) = false := by
  refine ⟨?_, hasDictStrs zs⟩
  have l : PyData.canLay0 (.list (zs.map PyData.str)) = true := by
    simp only [PyData.canLay0]
    exact canLay_of fun d hd => by
      obtain ⟨z, hz, rfl⟩ := List.mem_map.mp hd
      exact (Fine.str (h z hz) 0).lay
  have dd : Dat 1 (.list (zs.map PyData.str)) := Dat.list (k := 0) fun d hd => by
    obtain ⟨z, hz, rfl⟩ := List.mem_map.mp hd
    exact Dat.str (h z hz) 0
  unfold SeqAt.shaped
  rw [l, decide_eq_true (Nat.le_trans dd.dep (by decide))]; rfl
theorem instsApp (s : Str → Tr) : ∀ a b : List Tr, insts s (a ++ b) = insts s a ++ insts s b
  | [], _ => rfl
  | t :: r, b => by rw [List.cons_append, insts, insts, instsApp s r b]; rfl
mutual
theorem ofSyms {ns : List (Str × Int)} {zs : List Str} (hn : NamesOk ns) (hz : ∀ z ∈ zs, Nm z) : ∀ t : Tr, t.of ns zs → ∀ z ∈ syms t, Sm z ∧ z.length ≤ 17
  | .h s, h, z, hm => by
    rw [syms_h] at hm
    rw [List.mem_singleton.mp hm]
    exact ⟨(hz s h).sm, by have := (hz s h).2.1; omega⟩
  | .n f ps, h, z, hm => by
    rw [syms_n] at hm
    rcases List.mem_cons.mp hm with rfl | hm
    · have hf := (hn.full _ h.1).1
      exact ⟨hf.sm, hf.length⟩
    · exact ofSymsL hn hz ps h.2 z hm
theorem ofSymsL {ns : List (Str × Int)} {zs : List Str} (hn : NamesOk ns) (hz : ∀ z ∈ zs, Nm z) : ∀ ts : List Tr, ofs ns zs ts → ∀ z ∈ (pres ts).map symOf, Sm z ∧ z.length ≤ 17
  | [], _, z, hm => by cases hm
  | t :: r, h, z, hm => by
    rw [pres_cons, List.map_append] at hm
    rcases List.mem_append.mp hm with hm | hm
    · exact ofSyms hn hz t h.1 z hm
    · exact ofSymsL hn hz r h.2 z hm
end
/-- a tree of at most so many names and holes, so deep -/
structure G (S D : Nat) (t : Tr) : Prop where
  size : t.size ≤ S
  deep : t.deep ≤ D
  syms : SmS t
theorem G.fit {S D : Nat} {t : Tr} (h : G S D t) (hd : D ≤ 50) : FitT t := ⟨h.syms, Nat.le_trans h.deep hd⟩
theorem G.up {S D S' D' : Nat} {t : Tr} (h : G S D t) (hs : S ≤ S') (hd : D ≤ D') : G S' D' t := ⟨Nat.le_trans h.size hs, Nat.le_trans h.deep hd, h.syms⟩
theorem G.hole {z : Str} (h : Sm z ∧ z.length ≤ 17) : G 1 0 (.h z) := ⟨by rw [size_h]; exact Nat.le_refl _, Nat.le_refl _, fun y hy => by rw [syms_h] at hy; rw [List.mem_singleton.mp hy]; exact h⟩
mutual
theorem instSize {s : Str → Tr} {S : Nat} (h : ∀ z, (s z).size ≤ S) (hS : 1 ≤ S) : ∀ t : Tr, (t.inst s).size ≤ t.size * S
  | .h z => by rw [Tr.inst, size_h, Nat.one_mul]; exact h z
  | .n f ps => by
    rw [Tr.inst, size_n, size_n, Nat.add_mul, Nat.one_mul]
    have := instsSize h hS ps
    omega
theorem instsSize {s : Str → Tr} {S : Nat} (h : ∀ z, (s z).size ≤ S) (hS : 1 ≤ S) : ∀ ts : List Tr, sizes (insts s ts) ≤ sizes ts * S
  | [] => by simp [insts, sizes, pres]
  | t :: r => by
    rw [insts, sizes_cons, sizes_cons, Nat.add_mul]
    have := instSize h hS t
    have := instsSize h hS r
    omega
end
mutual
theorem instDeep {s : Str → Tr} {D : Nat} (h : ∀ z, (s z).deep ≤ D) : ∀ t : Tr, (t.inst s).deep ≤ t.deep + D
  | .h z => by rw [Tr.inst]; show _ ≤ 0 + D; rw [Nat.zero_add]; exact h z
  | .n f ps => by
    rw [Tr.inst]
    show deeps (insts s ps) + 1 ≤ deeps ps + 1 + D
    have := instsDeep h ps
    omega
theorem instsDeep {s : Str → Tr} {D : Nat} (h : ∀ z, (s z).deep ≤ D) : ∀ ts : List Tr, deeps (insts s ts) ≤ deeps ts + D
  | [] => by rw [insts]; exact Nat.zero_le _
  | t :: r => by
    rw [insts]
    show max (t.inst s).deep (deeps (insts s r)) ≤ max t.deep (deeps r) + D
    have := instDeep h t
    have := instsDeep h r
    omega
end
mutual
theorem instSyms {s : Str → Tr} {P : Str → Prop} : ∀ t : Tr, (∀ z ∈ syms t, P z) → (∀ z ∈ syms t, ∀ y ∈ syms (s z), P y) → ∀ y ∈ syms (t.inst s), P y
  | .h z, _, h2, y, hy => by rw [Tr.inst] at hy; exact h2 z (by rw [syms_h]; simp) y hy
  | .n f ps, h1, h2, y, hy => by
    rw [Tr.inst, syms_n] at hy
    rw [syms_n] at h1 h2
    rcases List.mem_cons.mp hy with rfl | hy
    · exact h1 _ List.mem_cons_self
    · exact instsSyms ps (fun z hz => h1 z (List.mem_cons_of_mem _ hz)) (fun z hz => h2 z (List.mem_cons_of_mem _ hz)) y hy
theorem instsSyms {s : Str → Tr} {P : Str → Prop} : ∀ ts : List Tr, (∀ z ∈ (pres ts).map symOf, P z) → (∀ z ∈ (pres ts).map symOf, ∀ y ∈ syms (s z), P y) → ∀ y ∈ (pres (insts s ts)).map symOf, P y
  | [], _, _, y, hy => by cases hy
  | t :: r, h1, h2, y, hy => by
    rw [insts, pres_cons, List.map_append] at hy
    rw [pres_cons, List.map_append] at h1 h2
    rcases List.mem_append.mp hy with hy | hy
    · exact instSyms t (fun z hz => h1 z (List.mem_append_left _ hz)) (fun z hz => h2 z (List.mem_append_left _ hz)) y hy
    · exact instsSyms r (fun z hz => h1 z (List.mem_append_right _ hz)) (fun z hz => h2 z (List.mem_append_right _ hz)) y hy
end
mutual
theorem instId : ∀ t : Tr, t.inst Tr.h = t
  | .h z => by rw [Tr.inst]
  | .n f ps => by rw [Tr.inst, instsId ps]
theorem instsId : ∀ ts : List Tr, insts Tr.h ts = ts
  | [] => rfl
  | t :: r => by rw [insts, instId t, instsId r]
end
theorem subP {m : HM} {P : Tr → Prop} (h : ∀ p ∈ m, P p.2) {z : Str} (hz : P (.h z)) : P (m.sub z) := by
  unfold HM.sub
  cases hg : m.get z with
  | none => exact hz
  | some u => exact h _ (getMem hg)
theorem G.inst {S D S' D' : Nat} {t : Tr} {m : HM} (h : G S D t) (hm : ∀ p ∈ m, G S' D' p.2) (h1 : 1 ≤ S') : G (S * S') (D + D') (t.inst m.sub) := by
  refine ⟨?_, ?_, ?_⟩
  · refine Nat.le_trans (instSize (S := S') (fun z => subP (P := fun t => t.size ≤ S') (fun p hp => (hm p hp).size) (by rw [size_h]; exact h1)) h1 t) (Nat.mul_le_mul_right _ h.size)
  · have := instDeep (s := m.sub) (D := D') (fun z => subP (P := fun t => t.deep ≤ D') (fun p hp => (hm p hp).deep) (Nat.zero_le _)) t
    have := h.deep
    omega
  · refine instSyms t h.syms fun z hz => ?_
    exact subP (P := SmS) (fun p hp => (hm p hp).syms) (fun y hy => by rw [syms_h] at hy; rw [List.mem_singleton.mp hy]; exact h.syms z hz)
def HM.of (l : List (Str × Tr)) : HM := l.foldl (fun acc p => acc.put p.1 p.2) []
theorem mergeOf : ∀ (l : List (Str × Tr)) (m : HM), mergeM m.data (HM.data l) = (l.foldl (fun acc p => acc.put p.1 p.2) m : HM).data
  | [], _ => rfl
  | p :: l, m => by
    show mergeM (putM m.data (.inr p.1) p.2.data) (HM.data l) = _
    rw [putData]
    exact mergeOf l _
theorem mergeNil (l : List (Str × Tr)) : mergeM [] (HM.data l) = (HM.of l).data := mergeOf l []
theorem putP' {m : HM} {z : Str} {t : Tr} {P : Tr → Prop} (h : ∀ p ∈ m, P p.2) (ht : P t) : ∀ p ∈ m.put z t, P p.2 := by
  intro p hp
  unfold HM.put at hp
  split at hp
  · obtain ⟨r, hr, rfl⟩ := List.mem_map.mp hp
    by_cases hz : r.1 = z
    · rw [if_pos hz]; exact ht
    · rw [if_neg hz]; exact h r hr
  · rcases List.mem_append.mp hp with hp | hp
    · exact h p hp
    · rw [List.mem_singleton.mp hp]; exact ht
theorem foldP {P : Tr → Prop} : ∀ (l : List (Str × Tr)) (m : HM), (∀ p ∈ m, P p.2) → (∀ p ∈ l, P p.2) → ∀ p ∈ (l.foldl (fun acc p => acc.put p.1 p.2) m : HM), P p.2
  | [], _, h, _ => h
  | p :: l, m, h, hl => foldP l _ (putP' h (hl p List.mem_cons_self)) fun q hq => hl q (List.mem_cons_of_mem _ hq)
theorem ofP {P : Tr → Prop} {l : List (Str × Tr)} (hl : ∀ p ∈ l, P p.2) : ∀ p ∈ HM.of l, P p.2 := foldP l [] (by simp) hl
theorem itemsOf (l : List (Str × Tr)) : itemsD (HM.data l) = l.map fun p => .tuple [.str p.1, p.2.data] := by
  unfold itemsD HM.data
  rw [List.map_map]
  rfl
theorem cutMap {α β : Type} (f : α → β) (xs : List α) (lo hi : Option Int) : cutL (xs.map f) lo hi = (cutL xs lo hi).map f := by
  unfold cutL
  rw [List.length_map, List.map_take, List.map_drop]
theorem cutLen {α : Type} (xs : List α) (lo hi : Option Int) : (cutL xs lo hi).length ≤ xs.length := by
  unfold cutL
  rw [List.length_take, List.length_drop]
  omega
theorem cutMem {α : Type} {xs : List α} {lo hi : Option Int} {y : α} (h : y ∈ cutL xs lo hi) : y ∈ xs := List.mem_of_mem_drop (List.mem_of_mem_take h)
theorem zipItems (zs ws : List Str) : zipD (zs.map PyData.str) (ws.map PyData.str) = itemsD (HM.data ((zs.zip ws).map fun p => (p.1, Tr.h p.2))) := by
  rw [itemsOf]
  unfold zipD
  rw [List.zip_map, List.map_map, List.map_map]
  refine List.map_congr_left fun p _ => ?_
  show PyData.tuple [.str p.1, .str p.2] = .tuple [.str p.1, (Tr.h p.2).data]
  rw [Tr.data]
theorem strMem' {a b : Str} {c : Nat} (h : c ∈ (a ++ b).cps.toList) : c ∈ a.cps.toList ∨ c ∈ b.cps.toList := by
  have e : (a ++ b).cps.toList = a.cps.toList ++ b.cps.toList := Array.toList_append
  rw [e] at h
  exact List.mem_append.mp h
theorem smCut {z y : Str} (h : Nm z) (hy : y.length ≤ 5 ∧ ∀ c ∈ y.cps.toList, c < 128) (lo hi : Option Int) : Sm (cutS z lo hi ++ y) ∧ (cutS z lo hi ++ y).length ≤ 17 := by
  have l := cutS_length z lo hi
  have l2 := h.2.1
  have l3 := hy.1
  have l4 : (cutS z lo hi ++ y).length ≤ 13 := by rw [strLen]; omega
  refine ⟨⟨by omega, fun c hc => ?_⟩, by omega⟩
  rcases strMem' hc with hc | hc
  · have hc' : c ∈ z.cps.toList := by
      unfold cutS at hc
      rw [List.toList_toArray] at hc
      exact List.mem_of_mem_drop (List.mem_of_mem_take hc)
    have := (h.2.2 c hc').2
    omega
  · have := hy.2 c hc
    omega
theorem atI_last {α : Type} {xs : List α} {x : α} (h : xs[xs.length - 1]? = some x) : atI xs (-1) = some x := by
  have hl := (List.getElem?_eq_some_iff.mp h).1
  have e : ixN xs.length (-1) = some (xs.length - 1) := by
    unfold ixN
    simp
    omega
  unfold L2.atI
  rw [e]
  exact h
/-- what comes of a head by a dict is told to come of it -/
theorem instTold (b : Tr) (s : Str → Tr) : (matchGo (b.size + 1) [(b, b.inst s)] []).isSome = true :=
  (matchFits _ _ _ (by simp [turns]) (fun p hp => by cases hp)).mpr ⟨s, (fun p hp => by cases hp), fun p hp => by rw [List.mem_singleton.mp hp]⟩
end Ah
namespace Ah
open PySem PySem.Spec PyProof.Rows L2
local macro_rules | `(tactic| walk_at "side") => `(tactic| first | omega | decide | (dsimp only; omega) | (unfold CDivN; omega) | (unfold CMul; omega) | (unfold CPow; omega) | (unfold CPow; decide) | (unfold CMulW; decide) | exact szLe rfl | rfl)
local macro_rules | `(tactic| walk_at "here") => `(tactic| first | assumption | exact upd_same)
local macro_rules | `(tactic| walk_at "go") => `(tactic| repeat (first
  | (refine ⟨_, rfl, ?_⟩)
  | (refine ⟨_, _, rfl, rfl, ?_⟩)
  | (refine ⟨_, _, _, _, rfl, rfl, SqL.of (by walk_at "here"), rfl, ?_⟩)
  | (refine ⟨_, _, _, _, rfl, rfl, (by walk_at "here"), rfl, ?_⟩)
  | (refine ⟨_, _, rfl, ?_⟩)
  | (refine And.intro (by walk_at "side") ?_)))
local macro_rules | `(tactic| walk_at "ab") => `(tactic| (try dsimp only [noxK]); repeat (first
  | with_reducible exact ab_var | with_reducible exact ab_int | with_reducible exact ab_str | with_reducible exact ab_bl | with_reducible exact ab_non | with_reducible exact ab_ty | with_reducible exact ab_nil | with_reducible exact ab_noPart | with_reducible exact ab_yes | with_reducible exact ab_dnew | with_reducible exact ab_xnew
  | with_reducible exact as_next | with_reducible exact as_retN | with_reducible exact as_break | with_reducible exact as_cont | with_reducible exact ab_gname | with_reducible exact ab_gnil
  | with_reducible exact oa_I0 | with_reducible exact oa_I | with_reducible exact oa_eq | with_reducible exact oa_ne | with_reducible exact oa_addQ | with_reducible exact oa_ixQ | with_reducible exact oa_eqD | with_reducible exact oa_neD | with_reducible exact oa_isTyB | with_reducible exact oa_notTyB | with_reducible exact oa_NT | with_reducible exact cb_sortD | with_reducible exact oa_isN | with_reducible exact oa_notN | with_reducible exact oa_mulQ | with_reducible exact oa_mulS | with_reducible exact oa_repT | with_reducible exact oa_inS | with_reducible exact oa_notInS | with_reducible exact oa_cat | with_reducible exact oa_catU
  | with_reducible exact cb_len | with_reducible exact cb_type | with_reducible exact cb_isi | with_reducible exact cb_repr | with_reducible exact cb_listOf | with_reducible exact cb_tupOf | with_reducible exact cb_max2 | with_reducible exact cb_minL | with_reducible exact cb_intB | with_reducible exact cb_all | with_reducible exact cb_any | with_reducible exact cb_listZip | with_reducible exact cb_listZipL | with_reducible exact cb_dictP | with_reducible exact oa_isB | with_reducible exact oa_notB | with_reducible exact cb_tupD | with_reducible exact cb_divmod | with_reducible exact oa_inD | with_reducible exact oa_notInD
  | with_reducible exact ma_join | with_reducible exact ma_find | with_reducible exact ma_count | with_reducible exact ma_split
  | with_reducible apply as_appTaken (by decide) | with_reducible apply as_ifSetd | with_reducible apply as_appPop | with_reducible apply as_update | with_reducible apply as_par3F | with_reducible apply as_asgT3 | with_reducible apply as_asgT2 | with_reducible apply as_frz | with_reducible apply as_setF | with_reducible apply as_parF | with_reducible apply as_seq | with_reducible apply as_if | with_reducible apply as_ret | with_reducible apply as_append | with_reducible apply as_extend | with_reducible apply as_pop | with_reducible apply as_popAt | with_reducible apply as_drop | with_reducible apply as_set | with_reducible apply as_par | with_reducible apply as_asg | with_reducible apply as_for | with_reducible apply as_while
  | with_reducible apply ab_gtup2 | with_reducible apply ab_gtup3 | with_reducible apply ab_gtup4 | with_reducible apply ab_gcons
  | with_reducible apply ab_cons | with_reducible apply ab_op | with_reducible apply ab_test | with_reducible apply ab_tB | with_reducible apply ab_and | with_reducible apply ab_or | with_reducible apply ab_not | with_reducible apply ab_andV | with_reducible apply ab_orV | with_reducible apply ab_notV | with_reducible apply ab_if
  | with_reducible apply ab_un | with_reducible apply ab_tup | with_reducible apply ab_lst | with_reducible apply ab_call | with_reducible apply ab_callK | with_reducible apply ab_cb | with_reducible apply ab_sl | with_reducible apply ab_part | with_reducible apply ab_backT | with_reducible apply ab_back0
  | with_reducible apply ab_lc | with_reducible apply ab_lenSetT | with_reducible apply ab_tupItems | with_reducible apply ab_stepT | with_reducible apply ab_sortItems | with_reducible apply ab_dc | with_reducible apply ab_listRg | with_reducible apply ab_star | with_reducible apply ab_starL | with_reducible apply ab_index | with_reducible apply ab_revL | with_reducible apply ab_callW | with_reducible apply ab_disp1 | with_reducible apply ab_dget1 | with_reducible apply ab_dget2 | with_reducible apply as_dput | with_reducible apply ab_chain | with_reducible apply ab_dget | with_reducible apply ab_din | with_reducible apply ab_dnotin | with_reducible apply ab_xin | with_reducible apply ab_xnotin | with_reducible apply ab_xget | with_reducible apply ab_xget1 | with_reducible apply as_xput
  | with_reducible apply ab_iany | with_reducible apply ab_ilist | with_reducible apply ab_itup | with_reducible apply ab_irng1 | with_reducible apply ab_irng2 | with_reducible apply ab_istr | with_reducible apply ab_ienum | with_reducible apply ab_ienumT
  | with_reducible apply ab_m1 | with_reducible apply ab_callLm | with_reducible apply ab_irev
  | with_reducible apply ab_tru
  | exact ab_keysAdd
  | (refine (show List.length _ = List.length _ from ?_); assumption)
  | rfl | (simp only [Tg.slots, tslots]; rfl)))
local macro_rules | `(tactic| walk_at "ago") => `(tactic| repeat (first
  | refine seqI ?_
  | refine ⟨_, rfl, szLe rfl, ?_⟩
  | refine ⟨_, rfl, ?_⟩
  | refine ⟨trivial, ?_⟩
  | refine ⟨_, _, rfl, rfl, ?_⟩
  | refine ⟨_, _, _, rfl, rfl, rfl, ?_⟩
  | refine ⟨_, _, _, rfl, (by decide), rfl, ?_⟩
  | refine ⟨_, _, _, _, rfl, rfl, rfl, rfl, rfl, ?_⟩
  | refine ⟨_, _, _, rfl, rfl, (by walk_at "side"), rfl, ?_⟩
  | refine ⟨_, _, rfl, rfl, (by walk_at "side"), ?_⟩
  | refine ⟨⟨_, rfl⟩, ?_⟩
  | refine ⟨rfl, ?_⟩))
local macro_rules | `(tactic| walk_at "agos") => `(tactic| repeat (first
  | refine ⟨_, rfl, szLe rfl, ?_⟩
  | refine ⟨_, rfl, ?_⟩
  | refine ⟨trivial, ?_⟩
  | refine ⟨_, _, rfl, rfl, ?_⟩
  | refine ⟨_, _, _, rfl, rfl, rfl, ?_⟩
  | refine ⟨_, _, _, rfl, (by decide), rfl, ?_⟩
  | refine ⟨_, _, _, _, rfl, rfl, rfl, rfl, rfl, ?_⟩
  | refine ⟨_, _, _, rfl, rfl, (by walk_at "side"), rfl, ?_⟩
  | refine ⟨_, _, rfl, rfl, (by walk_at "side"), ?_⟩
  | refine ⟨⟨_, rfl⟩, ?_⟩
  | refine ⟨rfl, ?_⟩))

abbrev s__law_holes : Stmt := topS 27
abbrev N__law_holes : List Str := ["tree", "found", "symbol"]
theorem sc__law_holes : FnScope N__law_holes ["tree"] (defScope s__law_holes) :=
  ⟨rfl, rfl, rfl, by decide +kernel, rfl, by decide +kernel, by decide +kernel⟩
theorem po__law_holes : Posi "_law_holes" s__law_holes ["tree"] := fun _ _ _ _ _ _ us hl => match us, hl with | [_], _ => rfl

abbrev s__law_put : Stmt := topS 28
abbrev N__law_put : List Str := ["tree", "by", "limb"]
theorem sc__law_put : FnScope N__law_put ["tree", "by"] (defScope s__law_put) :=
  ⟨rfl, rfl, rfl, by decide +kernel, rfl, by decide +kernel, by decide +kernel⟩
theorem po__law_put : Posi "_law_put" s__law_put ["tree", "by"] := fun _ _ _ _ _ _ us hl => match us, hl with | [_, _], _ => rfl

abbrev s__law_head : Stmt := topS 25
abbrev N__law_head : List Str := ["hand", "names", "holes", "deep", "name", "many", "k"]
theorem sc__law_head : FnScope N__law_head ["hand", "names", "holes", "deep"] (defScope s__law_head) :=
  ⟨rfl, rfl, rfl, by decide +kernel, rfl, by decide +kernel, by decide +kernel⟩
theorem po__law_head : Posi "_law_head" s__law_head ["hand", "names", "holes", "deep"] := fun _ _ _ _ _ _ us hl => match us, hl with | [_, _, _, _], _ => rfl

def fHoles (D : Nat) : FS := fun as n q => ∃ t : Tr, as = [.d t.data] ∧ t.deep ≤ D ∧ t.size ≤ 5000 ∧ SmS t ∧ ∀ zs : List Str, zs.length ≤ t.size → (∀ z ∈ zs, z ∈ syms t) → q (.ol (zs.map PyData.str)) n
def fPut (d : Nat) : FS := fun as n q => ∃ (t : Tr) (m : HM), as = [.d t.data, .d (.dict (kvD m.data))] ∧ t.deep ≤ d ∧ t.size ≤ 5000 ∧ q (.d (t.inst m.sub).data) n
section
variable {P : Program} {w : World} {K : PySem.W.Frag} {mg : Str → Option Value} {base : Heap} {tb : TBs}
theorem a_syms (T : At K mg "_law_symbols" s__law_symbols) (mb_str : mg "str" = none) (mb_isinstance : mg "isinstance" = none) : ∀ d : Nat, Has P w K mg base (d + 1) "_law_symbols" s__law_symbols ["tree"] (spA (lw K tb) (fSyms d))
  | 0 => a_syms1 0 T mb_str mb_isinstance (fun _ _ _ => False) (fun d' e => by omega) (Has.none T po__law_symbols fun vs H Q E h => by obtain ⟨M, as, n, q, _, _, _, _, _, _, _, h, _⟩ := h; exact h)
  | d + 1 => a_syms1 (d + 1) T mb_str mb_isinstance (fSyms d) (fun d' e => by cases e; rfl) (a_syms T mb_str mb_isinstance d)
theorem a_holes (D : Nat) (T : At K mg "_law_holes" s__law_holes) (d__law_symbols : Has P w K mg base (D + 1) "_law_symbols" s__law_symbols ["tree"] (spA (lw K tb) (fSyms D))) :
    Has P w K mg base (D + 2) "_law_holes" s__law_holes ["tree"] (spA (lw K tb) (fHoles D)) := by
  refine T.hasA sc__law_holes po__law_holes (fun as n q h => by obtain ⟨t, rfl, _⟩ := h; rfl) (fun f cdv Ar outer s H E hr => ?_)
  have nd := sc__law_holes.nd
  refine' bodyA (fun as n q h => by obtain ⟨t, rfl, _⟩ := h; show 1 ≤ 3; decide) (pss_cons (ps_set (i := 1) nd rfl (Or.inl rfl) (pe_lst pa_nil))
      (pss_cons (ps_for PassesOwn.never rfl (pi_any (pe_callD d__law_symbols (by omega) hr (pa_cons (pv 0) pa_nil))) (pg_name (i := 2) nd rfl (.inl rfl)) (pss_one (ps_if (PW.pt (pw_and (pt_cmpR op_notIn_sign pe_str (pv 2) rfl) (pw_and1 (pt_cmpR (notInQ K (u65 hr)) (pv 2) (pv 1) rfl)))) (pss_one (ps_expr (pe_bm PySem.F.plainAttrs_list PySem.F.slot_list_append PySem.F.type_list_append mt_append (pv 1) (pa_cons (pv 2) pa_nil)))) pss_nil)))
      (pss_one (ps_ret (pv 1))))) ?ab ?go
  case ab => walk_at "ab"
  case go =>
    rintro as n q ⟨t, rfl, h1, h2, h3, hq⟩
    walk_at "ago"
    refine .inl ?_
    walk_at "ago"
    refine ⟨h1, h2, ?_⟩
    walk_at "ago"
    have sl := symsLen t
    refine hold (aLoop_ind (fun rem e k => k = n ∧ ∃ (dn rm zs : List Str) (x2 : Option A), syms t = dn ++ rm ∧ rem = rm.map PyData.str ∧ e = [some (.d t.data), some (.ol (zs.map PyData.str)), x2] ∧ zs.length ≤ dn.length ∧ ∀ z ∈ zs, z ∈ syms t)
      (fun e k hG => ?_) (fun x r e k hG ih => ?_) _ _ _ ⟨rfl, [], syms t, [], none, rfl, rfl, rfl, Nat.le_refl _, by simp⟩)
    · obtain ⟨rfl, dn, rm, zs, x2, e1, e2, rfl, g1, g2⟩ := hG
      obtain rfl : rm = [] := List.map_eq_nil_iff.mp e2.symm
      rw [List.append_nil] at e1
      walk_at "ago"
      exact hq zs (by rw [← sl, e1]; exact g1) g2
    · obtain ⟨rfl, dn, rm, zs, x2, e1, e2, rfl, g1, g2⟩ := hG
      obtain ⟨z, rm, rfl⟩ : ∃ z rm', rm = z :: rm' := by
        cases rm with
        | nil => cases e2
        | cons z rm => exact ⟨z, rm, rfl⟩
      cases e2
      rw [aLoop]
      walk_at "ago"
      have zin : z ∈ syms t := by rw [e1]; exact List.mem_append_right _ List.mem_cons_self
      have ld : dn.length + 1 ≤ t.size := by rw [← sl, e1, List.length_append, List.length_cons]; omega
      have e3 : syms t = (dn ++ [z]) ++ rm := by rw [e1, List.append_assoc]; rfl
      have skip := ih [some (.d t.data), some (.ol (zs.map PyData.str)), some (.d (.str z))] k ⟨rfl, dn ++ [z], rm, zs, some (.d (.str z)), e3, rfl, rfl, by rw [List.length_append, List.length_singleton]; omega, g2⟩
      refine iff_b (fun _ => ?_) (fun _ => skip)
      walk_at "ago"
      have sp := strsPure (zs := zs) fun y hy => (h3 y (g2 y hy)).1
      refine ⟨(Fine.str (h3 z zin).1 0).shaped (by decide), sp.1, by simp [PyData.hasDict], sp.2, ?_⟩
      refine ⟨_, rfl, ?_⟩
      refine iff_b (fun _ => ?_) (fun _ => skip)
      walk_at "ago"
      refine ⟨by rw [List.length_map, sizeLine_eq]; omega, ?_⟩
      refine ih _ _ ⟨rfl, dn ++ [z], rm, zs ++ [z], some (.d (.str z)), e3, rfl, by rw [List.map_append]; rfl, by simp only [List.length_append, List.length_singleton]; omega, fun y hy => ?_⟩
      rcases List.mem_append.mp hy with hy | hy
      · exact g2 y hy
      · rw [List.mem_singleton.mp hy]; exact zin
theorem a_put1 (d : Nat) (T : At K mg "_law_put" s__law_put) (mb_str : mg "str" = none) (mb_isinstance : mg "isinstance" = none) (mb_tuple : mg "tuple" = none) (F : FS) (hF : ∀ d', d = d' + 1 → F = fPut d')
    (d__law_put : Has P w K mg base d "_law_put" s__law_put ["tree", "by"] (spA (lw K tb) F)) :
    Has P w K mg base (d + 1) "_law_put" s__law_put ["tree", "by"] (spA (lw K tb) (fPut d)) := by
  refine T.hasA sc__law_put po__law_put (fun as n q h => by obtain ⟨t, m, rfl, _⟩ := h; rfl) (fun f cdv Ar outer s H E hr => ?_)
  have nd := sc__law_put.nd
  refine' bodyA (fun as n q h => by obtain ⟨t, m, rfl, _⟩ := h; show 2 ≤ 3; decide) (pss_cons (ps_if (pt_val (pe_callB (isiQ K) (by rfl) mb_isinstance (by decide +kernel) (pa_cons (pv 0) (pa_cons (pe_ty_str mb_str) pa_nil)))) (pss_one (ps_ret (pe_dget2 (u1 hr.units) (pv 1) (pv 0) (pv 0) ⟨rfl, rfl, rfl, rfl⟩))) pss_nil)
      (pss_one (ps_ret (pe_op (addQ K) (pe_slice (slQ K) (pv 0) po_none (po_some pe_int)) (pe_callTy (tupQ K) (by rfl) mb_tuple (by decide +kernel) (pa_cons (pe_lc (own := [("limb", 2)]) (by rfl) nd (pi_any (pe_slice (slQ K) (pv 0) (po_some pe_int) po_none)) (blkOk_by (own := [("limb", 2)]) (N := N__law_put) (sc := defScope s__law_put) (by decide +kernel)) (fun _ _ _ _ _ => (pg_name (i := 2) nd rfl (.inl rfl))) (fun _ _ _ _ _ => pts_nil) (fun _ _ _ _ _ => (pe_callD d__law_put (by omega) hr (pa_cons (pv 2) (pa_cons (pv 1) pa_nil))))) pa_nil)))))) ?ab ?go
  case ab => walk_at "ab"
  case go =>
    rintro as n q ⟨t, m, rfl, h1, h2, hq⟩
    cases t with
    | h z =>
      have ev : (valM m.data (.inr z)).getD (.str z) = (m.sub z).data := by
        rw [valData]
        unfold HM.sub
        cases m.get z with
        | none => show PyData.str z = (Tr.h z).data; rw [Tr.data]
        | some u => rfl
      rw [Tr.inst] at hq
      rw [← ev] at hq
      rw [Tr.data]
      walk_at "ago"
      exact hq
    | n f ps =>
      rw [Tr.data]
      walk_at "ago"
      refine .inr (.inl ?_)
      walk_at "ago"
      have ec1 : cutL (PyData.str f :: datas ps) none (some 1) = [.str f] := by
        unfold cutL
        rw [show (1 : Int) = ((1 : Nat) : Int) from rfl, HT.sIx_none, HT.sIx_nat, Nat.min_eq_left (by rw [List.length_cons]; omega)]
        rfl
      have ec : cutL (PyData.str f :: datas ps) (some 1) none = datas ps := by
        unfold cutL
        rw [show (1 : Int) = ((1 : Nat) : Int) from rfl, HT.sIx_none, HT.sIx_nat, Nat.min_eq_left (by rw [List.length_cons]; omega), List.take_of_length_le (by rw [List.length_drop]; exact Nat.le_refl _)]
        rfl
      rw [ec, ec1]
      have hd : deeps ps + 1 ≤ d := h1
      obtain ⟨d', rfl⟩ : ∃ d', d = d' + 1 := ⟨d - 1, by omega⟩
      obtain rfl := hF d' rfl
      have hsz : (Tr.n f ps).size = sizes ps + 1 := size_n f ps
      refine hold (aGoY_ind (fun rem acc k => k = n ∧ ∃ dn rm : List Tr, ps = dn ++ rm ∧ rem = datas rm ∧ acc = datas (insts m.sub dn)) (fun acc k hG => ?_) (fun x r acc k hG ih => ?_) _ _ _ ⟨rfl, [], ps, rfl, rfl, rfl⟩)
      · obtain ⟨rfl, dn, rm, e1, e2, rfl⟩ := hG
        obtain rfl : rm = [] := by cases rm with | nil => rfl | cons a b => rw [datas] at e2; cases e2
        rw [List.append_nil] at e1
        subst e1
        walk_at "ago"
        refine ⟨_, _, rfl, .inl rfl, ?_⟩
        have ln : (insts m.sub ps).length = ps.length := instsLen _ _
        have lp := lenSizes ps
        refine ⟨_, _, rfl, rfl, ?_, trivial, ?_⟩
        · rw [datas_map, List.length_map, ln]
          show 1 + ps.length ≤ sizeLine
          rw [sizeLine_eq]; omega
        rw [Tr.inst, Tr.data] at hq
        exact hq
      · obtain ⟨rfl, dn, rm, e1, e2, rfl⟩ := hG
        cases rm with
        | nil => rw [datas] at e2; cases e2
        | cons t rm =>
          rw [datas] at e2
          injection e2 with e2 e3
          subst e2 e3
          walk_at "ago"
          have tm : t ∈ ps := by rw [e1]; exact List.mem_append_right _ List.mem_cons_self
          have td := (preMem tm).2
          have ts := memSizes tm
          have lp := lenSizes ps
          have ld : dn.length ≤ ps.length := by rw [e1, List.length_append]; omega
          refine ⟨t, m, rfl, by omega, by omega, ?_⟩
          refine ⟨_, rfl, by rw [datas_map, List.length_map, instsLen, sizeLine_eq]; omega, ih _ _ ⟨rfl, dn ++ [t], rm, by rw [e1, List.append_assoc]; rfl, rfl, ?_⟩⟩
          rw [instsApp, datas_append]
          rfl
theorem a_put (T : At K mg "_law_put" s__law_put) (mb_str : mg "str" = none) (mb_isinstance : mg "isinstance" = none) (mb_tuple : mg "tuple" = none) : ∀ d : Nat, Has P w K mg base (d + 1) "_law_put" s__law_put ["tree", "by"] (spA (lw K tb) (fPut d))
  | 0 => a_put1 0 T mb_str mb_isinstance mb_tuple (fun _ _ _ => False) (fun d' e => by omega) (Has.none T po__law_put fun vs H Q E h => by obtain ⟨M, as, n, q, _, _, _, _, _, _, _, h, _⟩ := h; exact h)
  | d + 1 => a_put1 (d + 1) T mb_str mb_isinstance mb_tuple (fPut d) (fun d' e => by cases e; rfl) (a_put T mb_str mb_isinstance mb_tuple d)
/-- a head: its own name has parts -/
def fHead : FS := fun as n q => ∃ ns zs, as = [.hd, .d (.list (ns.map nameP)), .d (strsD zs), .d (.int 2)] ∧ NamesD ns ∧ zs.length ≤ 100 ∧ (∀ z ∈ zs, Nm z) ∧ n + 30 < 900000 ∧
  ∀ (t : Tr) (n' : Nat), t.of ns zs → t.isH = false → t.deep ≤ 3 → t.size ≤ 13 → n ≤ n' → n' ≤ n + 30 → q (.d t.data) n'
theorem a_head (T : At K mg "_law_head" s__law_head) (d__law_of : Has P w K mg base 2 "_law_of" s__law_of ["hand", "some"] (spA (lw K tb) fOf)) (d__law_tree : Has P w K mg base 4 "_law_tree" s__law_tree ["hand", "names", "holes", "deep"] (spA (lw K tb) (fTree 1)))
    (mb_range : mg "range" = none) (mb_tuple : mg "tuple" = none) :
    Has P w K mg base 5 "_law_head" s__law_head ["hand", "names", "holes", "deep"] (spA (lw K tb) fHead) := by
  refine T.hasA sc__law_head po__law_head (fun as n q h => by obtain ⟨ns, zs, rfl, _⟩ := h; rfl) (fun f cdv Ar outer s H E hr => ?_)
  have nd := sc__law_head.nd
  refine' bodyA (fun as n q h => by obtain ⟨ns, zs, rfl, _⟩ := h; show 4 ≤ 7; decide) (pss_cons (ps_asg (pe_callD d__law_of (by omega) hr (pa_cons (pv 0) (pa_cons (pe_slice (slQ K) (pv 1) (po_some pe_int) po_none) pa_nil))) (pgTup K 2 rfl (pgs_cons (pg_name (i := 4) nd rfl (.inl rfl)) (pgs_cons (pg_name (i := 5) nd rfl (.inl rfl)) pgs_nil))))
      (pss_one (ps_ret (pe_op (addQ K) (pe_tup (pa_cons (pv 4) pa_nil)) (pe_callTy (tupQ K) (by rfl) mb_tuple (by decide +kernel) (pa_cons (pe_lc (own := [("k", 6)]) (by rfl) nd (pi_range1 (by rfl) mb_range (pa_cons (pv 5) pa_nil)) (blkOk_by (own := [("k", 6)]) (N := N__law_head) (sc := defScope s__law_head) (by decide +kernel)) (fun _ _ _ _ _ => (pg_name (i := 6) nd rfl (.inl rfl))) (fun _ _ _ _ _ => pts_nil) (fun _ _ _ _ _ => (pe_callD d__law_tree (by omega) hr (pa_cons (pv 0) (pa_cons (pv 1) (pa_cons (pv 2) (pa_cons (pe_op op_sub (pv 3) pe_int) pa_nil))))))) pa_nil)))))) ?ab ?go
  case ab => walk_at "ab"
  case go =>
    rintro as n q ⟨ns, zs, rfl, hns, hzl, hz, hn, hq⟩
    walk_at "ago"
    have l5 : ns.length = 5 := by have := congrArg List.length hns.1; simpa using this
    have ok := hns.ok
    have ec : cutL (ns.map nameP) (some 2) none = (ns.drop 2).map nameP := by
      unfold cutL
      rw [show (2 : Int) = ((2 : Nat) : Int) from rfl, HT.sIx_none, HT.sIx_nat, List.length_map, l5, List.map_drop]
      exact List.take_of_length_le (by rw [List.length_drop, List.length_map, l5]; decide)
    rw [ec]
    refine drawL (by omega) ?_ ?_ fun x hx => ?_
    · intro e
      have := congrArg List.length (List.map_eq_nil_iff.mp e)
      rw [List.length_drop, l5] at this
      simp at this
    · rw [List.length_map, List.length_drop, l5]; decide
    obtain ⟨p, hp, rfl⟩ := List.mem_map.mp hx
    have hpn : p ∈ ns := List.mem_of_mem_drop hp
    obtain ⟨hf, p0, p3⟩ := ok.full p hpn
    walk_at "ago"
    refine ⟨by omega, by omega, ?_⟩
    have pm : (p.2.toNat : Int) = p.2 := by omega
    refine hold (aGoY_ind (fun rem acc k => ∃ ts : List Tr, acc = ts.map Tr.data ∧ ts.length + rem.length = p.2.toNat ∧ ofs ns zs ts ∧ deeps ts ≤ 2 ∧ sizes ts ≤ ts.length * 4 ∧ n + 1 ≤ k ∧ k ≤ n + 1 + ts.length * 8)
      (fun acc k hG => ?_) (fun x r acc k hG ih => ?_) _ _ _ ⟨[], rfl, by simp [rngD], trivial, by simp [deeps], by simp [sizes, pres], by omega, by omega⟩)
    · obtain ⟨ts, rfl, h1, h2, h4, h5, h6, h7⟩ := hG
      simp only [List.length_nil, Nat.add_zero] at h1
      walk_at "ago"
      refine ⟨_, _, rfl, .inl rfl, ?_⟩
      refine ⟨_, _, rfl, rfl, ?_, trivial, ?_⟩
      · rw [List.length_map, h1]
        show 1 + p.2.toNat ≤ sizeLine
        rw [sizeLine_eq]; omega
      have := hq (.n p.1 ts) k ⟨by rw [h1, pm]; exact hpn, h2⟩ rfl (by show deeps ts + 1 ≤ 3; omega) (by show sizes ts + 1 ≤ 13; omega) (by omega) (by omega)
      rw [Tr.data, datas_map] at this
      exact this
    · obtain ⟨ts, rfl, h1, h2, h4, h5, h6, h7⟩ := hG
      rw [List.length_cons] at h1
      walk_at "ago"
      have cc : costT 1 = 8 := rfl
      have mm : mostT 1 = 4 := rfl
      refine ⟨ns, zs, rfl, ok, hzl, hz, by omega, fun t n' t1 t2 t3 t4 t5 => ?_⟩
      refine ⟨_, rfl, by rw [List.length_map, sizeLine_eq]; omega, ih _ _ ⟨ts ++ [t], by rw [List.map_append, List.map_singleton], by simp only [List.length_append, List.length_singleton]; omega, ofs_append h2 ⟨t1, trivial⟩, ?_, ?_, by omega, ?_⟩⟩
      · rw [deeps_append]; show max (deeps ts) (max t.deep 0) ≤ 2; omega
      · have : sizes [t] = t.size := by show (t.pre ++ []).length = _; rw [List.append_nil]; rfl
        rw [sizes_append, List.length_append, List.length_singleton]
        omega
      · rw [List.length_append, List.length_singleton]; omega
end
end Ah
namespace Ah
open PySem PySem.Spec PyProof.Rows L2
local macro_rules | `(tactic| walk_at "side") => `(tactic| first | omega | decide | (dsimp only; omega) | (unfold CDivN; omega) | (unfold CMul; omega) | (unfold CPow; omega) | (unfold CPow; decide) | (unfold CMulW; decide) | exact szLe rfl | rfl)
local macro_rules | `(tactic| walk_at "here") => `(tactic| first | assumption | exact upd_same)
local macro_rules | `(tactic| walk_at "go") => `(tactic| repeat (first
  | (refine ⟨_, rfl, ?_⟩)
  | (refine ⟨_, _, rfl, rfl, ?_⟩)
  | (refine ⟨_, _, _, _, rfl, rfl, SqL.of (by walk_at "here"), rfl, ?_⟩)
  | (refine ⟨_, _, _, _, rfl, rfl, (by walk_at "here"), rfl, ?_⟩)
  | (refine ⟨_, _, rfl, ?_⟩)
  | (refine And.intro (by walk_at "side") ?_)))
local macro_rules | `(tactic| walk_at "ab") => `(tactic| (try dsimp only [noxK]); repeat (first
  | with_reducible exact ab_var | with_reducible exact ab_int | with_reducible exact ab_str | with_reducible exact ab_bl | with_reducible exact ab_non | with_reducible exact ab_ty | with_reducible exact ab_nil | with_reducible exact ab_noPart | with_reducible exact ab_yes | with_reducible exact ab_dnew | with_reducible exact ab_xnew
  | with_reducible exact as_next | with_reducible exact as_retN | with_reducible exact as_break | with_reducible exact as_cont | with_reducible exact ab_gname | with_reducible exact ab_gnil
  | with_reducible exact oa_I0 | with_reducible exact oa_I | with_reducible exact oa_eq | with_reducible exact oa_ne | with_reducible exact oa_addQ | with_reducible exact oa_ixQ | with_reducible exact oa_eqD | with_reducible exact oa_neD | with_reducible exact oa_isTyB | with_reducible exact oa_notTyB | with_reducible exact oa_NT | with_reducible exact cb_sortD | with_reducible exact oa_isN | with_reducible exact oa_notN | with_reducible exact oa_mulQ | with_reducible exact oa_mulS | with_reducible exact oa_repT | with_reducible exact oa_inS | with_reducible exact oa_notInS | with_reducible exact oa_cat | with_reducible exact oa_catU
  | with_reducible exact cb_len | with_reducible exact cb_type | with_reducible exact cb_isi | with_reducible exact cb_repr | with_reducible exact cb_listOf | with_reducible exact cb_tupOf | with_reducible exact cb_max2 | with_reducible exact cb_minL | with_reducible exact cb_intB | with_reducible exact cb_all | with_reducible exact cb_any | with_reducible exact cb_listZip | with_reducible exact cb_listZipL | with_reducible exact cb_dictP | with_reducible exact oa_isB | with_reducible exact oa_notB | with_reducible exact cb_tupD | with_reducible exact cb_divmod | with_reducible exact oa_inD | with_reducible exact oa_notInD
  | with_reducible exact ma_join | with_reducible exact ma_find | with_reducible exact ma_count | with_reducible exact ma_split
  | with_reducible apply as_appTaken (by decide) | with_reducible apply as_ifSetd | with_reducible apply as_appPop | with_reducible apply as_update | with_reducible apply as_par3F | with_reducible apply as_asgT3 | with_reducible apply as_asgT2 | with_reducible apply as_frz | with_reducible apply as_setF | with_reducible apply as_parF | with_reducible apply as_seq | with_reducible apply as_if | with_reducible apply as_ret | with_reducible apply as_append | with_reducible apply as_extend | with_reducible apply as_pop | with_reducible apply as_popAt | with_reducible apply as_drop | with_reducible apply as_set | with_reducible apply as_par | with_reducible apply as_asg | with_reducible apply as_for | with_reducible apply as_while
  | with_reducible apply ab_gtup2 | with_reducible apply ab_gtup3 | with_reducible apply ab_gtup4 | with_reducible apply ab_gcons
  | with_reducible apply ab_cons | with_reducible apply ab_op | with_reducible apply ab_test | with_reducible apply ab_tB | with_reducible apply ab_and | with_reducible apply ab_or | with_reducible apply ab_not | with_reducible apply ab_andV | with_reducible apply ab_orV | with_reducible apply ab_notV | with_reducible apply ab_if
  | with_reducible apply ab_un | with_reducible apply ab_tup | with_reducible apply ab_lst | with_reducible apply ab_call | with_reducible apply ab_callK | with_reducible apply ab_cb | with_reducible apply ab_sl | with_reducible apply ab_part | with_reducible apply ab_backT | with_reducible apply ab_back0
  | with_reducible apply ab_lc | with_reducible apply ab_lenSetT | with_reducible apply ab_tupItems | with_reducible apply ab_stepT | with_reducible apply ab_sortItems | with_reducible apply ab_dc | with_reducible apply ab_listRg | with_reducible apply ab_star | with_reducible apply ab_starL | with_reducible apply ab_index | with_reducible apply ab_revL | with_reducible apply ab_callW | with_reducible apply ab_disp1 | with_reducible apply ab_dget1 | with_reducible apply ab_dget2 | with_reducible apply as_dput | with_reducible apply ab_chain | with_reducible apply ab_dget | with_reducible apply ab_din | with_reducible apply ab_dnotin | with_reducible apply ab_xin | with_reducible apply ab_xnotin | with_reducible apply ab_xget | with_reducible apply ab_xget1 | with_reducible apply as_xput
  | with_reducible apply ab_iany | with_reducible apply ab_ilist | with_reducible apply ab_itup | with_reducible apply ab_irng1 | with_reducible apply ab_irng2 | with_reducible apply ab_istr | with_reducible apply ab_ienum | with_reducible apply ab_ienumT
  | with_reducible apply ab_m1 | with_reducible apply ab_callLm | with_reducible apply ab_irev
  | with_reducible apply ab_tru
  | exact ab_keysAdd
  | (refine (show List.length _ = List.length _ from ?_); assumption)
  | rfl | (simp only [Tg.slots, tslots]; rfl)))
local macro_rules | `(tactic| walk_at "ago") => `(tactic| repeat (first
  | refine seqI ?_
  | refine ⟨_, rfl, szLe rfl, ?_⟩
  | refine ⟨_, rfl, ?_⟩
  | refine ⟨trivial, ?_⟩
  | refine ⟨_, _, rfl, rfl, ?_⟩
  | refine ⟨_, _, _, rfl, rfl, rfl, ?_⟩
  | refine ⟨_, _, _, rfl, (by decide), rfl, ?_⟩
  | refine ⟨_, _, _, _, rfl, rfl, rfl, rfl, rfl, ?_⟩
  | refine ⟨_, _, _, rfl, rfl, (by walk_at "side"), rfl, ?_⟩
  | refine ⟨_, _, rfl, rfl, (by walk_at "side"), ?_⟩
  | refine ⟨⟨_, rfl⟩, ?_⟩
  | refine ⟨rfl, ?_⟩))
local macro_rules | `(tactic| walk_at "agos") => `(tactic| repeat (first
  | refine ⟨_, rfl, szLe rfl, ?_⟩
  | refine ⟨_, rfl, ?_⟩
  | refine ⟨trivial, ?_⟩
  | refine ⟨_, _, rfl, rfl, ?_⟩
  | refine ⟨_, _, _, rfl, rfl, rfl, ?_⟩
  | refine ⟨_, _, _, rfl, (by decide), rfl, ?_⟩
  | refine ⟨_, _, _, _, rfl, rfl, rfl, rfl, rfl, ?_⟩
  | refine ⟨_, _, _, rfl, rfl, (by walk_at "side"), rfl, ?_⟩
  | refine ⟨_, _, rfl, rfl, (by walk_at "side"), ?_⟩
  | refine ⟨⟨_, rfl⟩, ?_⟩
  | refine ⟨rfl, ?_⟩))

abbrev s__trees_met : Stmt := topS 8
abbrev N__trees_met : List Str := ["tree", "step", "found", "left", "part"]
theorem sc__trees_met : FnScope N__trees_met ["tree", "step"] (defScope s__trees_met) :=
  ⟨rfl, rfl, rfl, by decide +kernel, rfl, by decide +kernel, by decide +kernel⟩
theorem po__trees_met : Posi "_trees_met" s__trees_met ["tree", "step"] := fun _ _ _ _ _ _ us hl => match us, hl with | [_, _], _ => rfl

abbrev s_trees_in : Stmt := topS 6
abbrev N_trees_in : List Str := ["tree"]
theorem sc_trees_in : FnScope N_trees_in ["tree"] (defScope s_trees_in) :=
  ⟨rfl, rfl, rfl, by decide +kernel, rfl, by decide +kernel, by decide +kernel⟩
theorem po_trees_in : Posi "trees_in" s_trees_in ["tree"] := fun _ _ _ _ _ _ us hl => match us, hl with | [_], _ => rfl

/-! ## the trees that stand in a tree, from the left, from the right -/
mutual
def Tr.preB (b : Bool) : Tr → List Tr
  | .h z => [.h z]
  | .n f ps => .n f ps :: presB b ps
def presB (b : Bool) : List Tr → List Tr
  | [] => []
  | t :: r => if b = true then t.preB b ++ presB b r else presB b r ++ t.preB b
end
def visit (b : Bool) (ts : List Tr) : List Tr := (ts.map (Tr.preB b)).flatten
theorem visit_cons (b : Bool) (t : Tr) (ts : List Tr) : visit b (t :: ts) = t.preB b ++ visit b ts := by unfold visit; rw [List.map_cons, List.flatten_cons]
theorem visit_append (b : Bool) (ts us : List Tr) : visit b (ts ++ us) = visit b ts ++ visit b us := by unfold visit; rw [List.map_append, List.flatten_append]
theorem presT : ∀ ps : List Tr, presB true ps = visit true ps
  | [] => rfl
  | t :: r => by rw [presB, if_pos rfl, presT r, visit_cons]
theorem presF : ∀ ps : List Tr, presB false ps = visit false ps.reverse
  | [] => rfl
  | t :: r => by
    rw [presB, if_neg Bool.false_ne_true, presF r, List.reverse_cons, visit_append]
    show _ = _ ++ visit false [t]
    rw [visit_cons]
    show _ = _ ++ (_ ++ [])
    rw [List.append_nil]
def ordB (b : Bool) (ps : List Tr) : List Tr := if b = true then ps else ps.reverse
theorem presO (b : Bool) (ps : List Tr) : presB b ps = visit b (ordB b ps) := by
  cases b
  · exact presF ps
  · exact presT ps
mutual
theorem preT : ∀ t : Tr, t.preB true = t.pre
  | .h z => rfl
  | .n f ps => by rw [Tr.preB, presTT ps]; rfl
theorem presTT : ∀ ps : List Tr, presB true ps = pres ps
  | [] => rfl
  | t :: r => by rw [presB, if_pos rfl, preT t, presTT r]; rfl
end
mutual
theorem preLen (b : Bool) : ∀ t : Tr, (t.preB b).length = t.size
  | .h z => by rw [Tr.preB, size_h]; rfl
  | .n f ps => by rw [Tr.preB, List.length_cons, presLen b ps, size_n]
theorem presLen (b : Bool) : ∀ ps : List Tr, (presB b ps).length = sizes ps
  | [] => rfl
  | t :: r => by
    rw [presB, sizes_cons]
    split
    · rw [List.length_append, preLen b t, presLen b r]
    · rw [List.length_append, preLen b t, presLen b r]; omega
end
theorem preOne (b : Bool) (t : Tr) : 1 ≤ (t.preB b).length := by
  cases t <;> simp [Tr.preB]
theorem visitLen (b : Bool) : ∀ ts : List Tr, ts.length ≤ (visit b ts).length
  | [] => Nat.zero_le _
  | t :: r => by
    rw [visit_cons, List.length_append, List.length_cons]
    have := visitLen b r
    have := preOne b t
    omega
def fIsHole' : FS := fun as n q => ∃ t : Tr, as = [.d t.data] ∧ q (.d (.bool (match t with | .h _ => true | .n _ _ => false))) n
def fTreesMet : FS := fun as n q => ∃ (t : Tr) (b : Bool), as = [.d t.data, .d (.int (if b = true then -1 else 1))] ∧ t.size ≤ 5000 ∧ q (.ol (datas (t.preB b))) n
def fTreesIn : FS := fun as n q => ∃ t : Tr, as = [.d t.data] ∧ t.size ≤ 5000 ∧ q (.ol (datas t.pre)) n
section
variable {P : Program} {w : World} {K : PySem.W.Frag} {mg : Str → Option Value} {base : Heap} {tb : TBs}
theorem a_is_hole' (T : At K mg "is_hole" s_is_hole) (mb_type : mg "type" = none) (mb_str : mg "str" = none) :
    Has P w K mg base 1 "is_hole" s_is_hole ["tree"] (spA (lw K tb) fIsHole') := by
  refine T.hasA sc_is_hole po_is_hole (fun as n q h => by obtain ⟨t, rfl, _⟩ := h; rfl) (fun f cdv Ar outer s H E hr => ?_)
  have nd := sc_is_hole.nd
  refine' bodyA (fun as n q h => by obtain ⟨t, rfl, _⟩ := h; show 1 ≤ 1; decide) (pss_one (ps_ret (pe_cmpR op_isTyB (pe_callTy (typQ K) (by rfl) mb_type (by decide +kernel) (pa_cons (pv 0) pa_nil)) (pe_ty_str mb_str) (nomark _)))) ?ab ?go
  case ab => walk_at "ab"
  case go =>
    rintro as n q ⟨t, rfl, hq⟩
    walk_at "ago"
    cases t with
    | h z => exact hq
    | n f ps => exact hq
theorem lenSizes' : ∀ ps : List Tr, ps.length ≤ sizes ps
  | [] => Nat.zero_le _
  | t :: r => by
    rw [sizes_cons, List.length_cons]
    have := lenSizes' r
    have := Tr.size1 t
    omega
theorem dropLast_append1 {α : Type} (l : List α) (x : α) : (l ++ [x])[(l ++ [x]).length - 1]? = some x := by simp
theorem a_trees_met (T : At K mg "_trees_met" s__trees_met) (d_is_hole : Has P w K mg base 1 "is_hole" s_is_hole ["tree"] (spA (lw K tb) fIsHole')) :
    Has P w K mg base 2 "_trees_met" s__trees_met ["tree", "step"] (spA (lw K tb) fTreesMet) := by
  refine T.hasA sc__trees_met po__trees_met (fun as n q h => by obtain ⟨t, b, rfl, _⟩ := h; rfl) (fun f cdv Ar outer s H E hr => ?_)
  have nd := sc__trees_met.nd
  refine' bodyA (fun as n q h => by obtain ⟨t, b, rfl, _⟩ := h; show 2 ≤ 5; decide) (pss_cons (ps_set (i := 2) nd rfl (Or.inl rfl) (pe_lst pa_nil))
      (pss_cons (ps_set (i := 3) nd rfl (Or.inl rfl) (pe_lst (pa_cons (pv 0) pa_nil)))
      (pss_cons (ps_while PassesOwn.never (pt_truth (pv 3) (by intro _; rfl)) (pss_cons (ps_set (i := 4) nd rfl (Or.inl rfl) (pe_bm0 PySem.F.plainAttrs_list PySem.F.slot_list_pop PySem.F.type_list_pop mt_pop (pv 3)))
      (pss_cons (ps_expr (pe_bm PySem.F.plainAttrs_list PySem.F.slot_list_append PySem.F.type_list_append mt_append (pv 2) (pa_cons (pv 4) pa_nil)))
      (pss_one (ps_if (pt_not (pt_val (pe_callD d_is_hole (by omega) hr (pa_cons (pv 4) pa_nil)))) (pss_one (ps_expr (pe_bm PySem.F.plainAttrs_list PySem.F.slot_list_extend PySem.F.type_list_extend (mt_extQ K) (pv 3) (pa_cons (pe_stepT (pe_slice (slQ K) (pv 4) (po_some pe_int) po_none) (pv 1)) pa_nil)))) pss_nil)))))
      (pss_one (ps_ret (pv 2)))))) ?ab ?go
  case ab => walk_at "ab"
  case go =>
    rintro as n q ⟨t, b, rfl, h1, hq⟩
    walk_at "ago"
    have tl := preLen b t
    refine ⟨t.size + 1, aIter_ind (fun j e k => k = n ∧ ∃ (dn ts : List Tr) (x4 : Option A), e = [some (.d t.data), some (.d (.int (if b = true then -1 else 1))), some (.ol (datas dn)), some (.ol (datas ts.reverse)), x4] ∧
      dn ++ visit b ts = t.preB b ∧ (visit b ts).length < j) (fun e k hG => ?_) (fun j e k hG ih => ?_) _ _ _ ⟨rfl, [], [t], none, rfl, ?_, ?_⟩⟩
    · obtain ⟨_, dn, ts, x4, _, _, h⟩ := hG
      omega
    · obtain ⟨rfl, dn, ts, x4, rfl, g1, g2⟩ := hG
      have gl := congrArg List.length g1
      rw [List.length_append, tl] at gl
      cases ts with
      | nil =>
        walk_at "ago"
        have e : dn = t.preB b := by rw [← g1]; show dn = dn ++ []; rw [List.append_nil]
        rw [e]
        exact hq
      | cons u ts =>
        have es : datas (u :: ts).reverse = datas ts.reverse ++ [u.data] := by rw [List.reverse_cons, datas_append]; rfl
        have vl := visitLen b ts
        rw [es]
        rw [visit_cons] at g1 g2 gl
        rw [List.length_append] at g2 gl
        walk_at "ago"
        refine (if_pos (by cases (datas ts.reverse) <;> rfl)).mpr ?_
        walk_at "ago"
        refine ⟨_, u.data, rfl, dropLast_append1 _ _, ?_⟩
        rw [List.dropLast_concat]
        walk_at "ago"
        have dl : (datas dn).length = dn.length := by rw [datas_map, List.length_map]
        have po := preOne b u
        refine ⟨by rw [dl, sizeLine_eq]; omega, ?_⟩
        walk_at "ago"
        have ea : datas dn ++ [u.data] = datas (dn ++ [u]) := by rw [datas_append]; rfl
        cases u with
        | h z =>
          refine ifF rfl ?_
          rw [ea]
          refine ih _ _ ⟨rfl, dn ++ [.h z], ts, _, rfl, ?_, by omega⟩
          rw [List.append_assoc]; exact g1
        | n f ps =>
          refine ifT rfl ?_
          have np : ((Tr.n f ps).preB b).length = sizes ps + 1 := by rw [preLen, size_n]
          have lp := lenSizes' ps
          rw [Tr.data] at ea
          rw [Tr.data]
          walk_at "ago"
          have ec : cutL (PyData.str f :: datas ps) (some 1) none = datas ps := by
            unfold cutL
            rw [show (1 : Int) = ((1 : Nat) : Int) from rfl, HT.sIx_none, HT.sIx_nat, Nat.min_eq_left (by rw [List.length_cons]; omega), List.take_of_length_le (by rw [List.length_drop]; exact Nat.le_refl _)]
            rfl
          rw [ec]
          have fin : ∀ rs : List Tr, rs = (ordB b ps).reverse → datas ts.reverse ++ datas rs = datas (ordB b ps ++ ts).reverse := fun rs hrs => by
            rw [hrs, List.reverse_append, datas_append]
          have lo : (ordB b ps).length = ps.length := by unfold ordB; split <;> simp
          have tot : dn ++ [Tr.n f ps] ++ visit b (ordB b ps ++ ts) = t.preB b := by
            rw [← g1, visit_append, ← presO, Tr.preB, List.append_assoc]
            rfl
          have cnt : (visit b (ordB b ps ++ ts)).length < j := by
            rw [visit_append, List.length_append, ← presO, presLen]
            omega
          have go := ih [some (.d t.data), some (.d (.int (if b = true then -1 else 1))), some (.ol (datas (dn ++ [Tr.n f ps]))), some (.ol (datas (ordB b ps ++ ts).reverse)), some (.d (Tr.n f ps).data)] k ⟨rfl, dn ++ [.n f ps], ordB b ps ++ ts, _, rfl, tot, cnt⟩
          have lts : (datas ts.reverse).length = ts.length := by rw [datas_map, List.length_map, List.length_reverse]
          rw [← fin _ rfl, Tr.data, ← ea] at go
          cases b with
          | true =>
            refine .inl ⟨rfl, ?_⟩
            have er : (datas ps).reverse = datas (ordB true ps).reverse := by
              rw [datas_map, datas_map]
              exact (List.map_reverse ..).symm
            rw [er]
            refine ⟨_, _, _, rfl, .inr rfl, rfl, ?_, go⟩
            rw [lts, datas_map, List.length_map, List.length_reverse, lo, sizeLine_eq]
            omega
          | false =>
            refine .inr ⟨rfl, ?_⟩
            have er : datas ps = datas (ordB false ps).reverse := by
              show _ = datas ps.reverse.reverse
              rw [List.reverse_reverse]
            rw [← er] at go
            refine ⟨_, _, _, rfl, .inr rfl, rfl, ?_, go⟩
            rw [lts, datas_map, List.length_map, sizeLine_eq]
            omega
    · show (visit b [t]) = _
      rw [visit_cons]
      show _ ++ [] = _
      rw [List.append_nil]
    · rw [visit_cons]
      show (t.preB b ++ []).length < _
      rw [List.append_nil, tl]; omega
theorem a_trees_in (T : At K mg "trees_in" s_trees_in) (d__trees_met : Has P w K mg base 2 "_trees_met" s__trees_met ["tree", "step"] (spA (lw K tb) fTreesMet)) :
    Has P w K mg base 3 "trees_in" s_trees_in ["tree"] (spA (lw K tb) fTreesIn) := by
  refine T.hasA sc_trees_in po_trees_in (fun as n q h => by obtain ⟨t, rfl, _⟩ := h; rfl) (fun f cdv Ar outer s H E hr => ?_)
  have nd := sc_trees_in.nd
  refine' bodyA (fun as n q h => by obtain ⟨t, rfl, _⟩ := h; show 1 ≤ 1; decide) (pss_one (ps_ret (pe_callD d__trees_met (by omega) hr (pa_cons (pv 0) (pa_cons (pe_un un_neg pe_int) pa_nil))))) ?ab ?go
  case ab => walk_at "ab"
  case go =>
    rintro as n q ⟨t, rfl, h1, hq⟩
    walk_at "ago"
    refine ⟨t, true, rfl, h1, ?_⟩
    rw [preT]
    walk_at "ago"
    exact hq
end
end Ah
namespace Ah
open PySem PySem.Spec PyProof.Rows L2 LamX NdefX
local macro_rules | `(tactic| walk_at "side") => `(tactic| first | omega | decide | (dsimp only; omega) | (unfold CDivN; omega) | (unfold CMul; omega) | (unfold CPow; omega) | (unfold CPow; decide) | (unfold CMulW; decide) | exact szLe rfl | rfl)
local macro_rules | `(tactic| walk_at "here") => `(tactic| first | assumption | exact upd_same)
local macro_rules | `(tactic| walk_at "go") => `(tactic| repeat (first
  | (refine ⟨_, rfl, ?_⟩)
  | (refine ⟨_, _, rfl, rfl, ?_⟩)
  | (refine ⟨_, _, _, _, rfl, rfl, SqL.of (by walk_at "here"), rfl, ?_⟩)
  | (refine ⟨_, _, _, _, rfl, rfl, (by walk_at "here"), rfl, ?_⟩)
  | (refine ⟨_, _, rfl, ?_⟩)
  | (refine And.intro (by walk_at "side") ?_)))
local macro_rules | `(tactic| walk_at "ab") => `(tactic| (try dsimp only [noxK]); repeat (first
  | with_reducible exact ab_var | with_reducible exact ab_int | with_reducible exact ab_str | with_reducible exact ab_bl | with_reducible exact ab_non | with_reducible exact ab_ty | with_reducible exact ab_nil | with_reducible exact ab_noPart | with_reducible exact ab_yes | with_reducible exact ab_dnew | with_reducible exact ab_xnew
  | with_reducible exact as_next | with_reducible exact as_retN | with_reducible exact as_break | with_reducible exact as_cont | with_reducible exact ab_gname | with_reducible exact ab_gnil
  | with_reducible exact oa_I0 | with_reducible exact oa_I | with_reducible exact oa_eq | with_reducible exact oa_ne | with_reducible exact oa_addQ | with_reducible exact oa_ixQ | with_reducible exact oa_eqD | with_reducible exact oa_neD | with_reducible exact oa_isTyB | with_reducible exact oa_notTyB | with_reducible exact oa_NT | with_reducible exact cb_sortD | with_reducible exact oa_isN | with_reducible exact oa_notN | with_reducible exact oa_mulQ | with_reducible exact oa_mulS | with_reducible exact oa_repT | with_reducible exact oa_inS | with_reducible exact oa_notInS | with_reducible exact oa_cat | with_reducible exact oa_catU
  | with_reducible exact cb_len | with_reducible exact cb_type | with_reducible exact cb_isi | with_reducible exact cb_repr | with_reducible exact cb_listOf | with_reducible exact cb_tupOf | with_reducible exact cb_max2 | with_reducible exact cb_minL | with_reducible exact cb_intB | with_reducible exact cb_all | with_reducible exact cb_any | with_reducible exact cb_listZip | with_reducible exact cb_listZipL | with_reducible exact cb_dictP | with_reducible exact oa_isB | with_reducible exact oa_notB | with_reducible exact cb_tupD | with_reducible exact cb_divmod | with_reducible exact oa_inD | with_reducible exact oa_notInD
  | with_reducible exact ma_join | with_reducible exact ma_find | with_reducible exact ma_count | with_reducible exact ma_split
  | with_reducible apply as_appTaken (by decide) | with_reducible apply as_ifSetd | with_reducible apply as_appPop | with_reducible apply as_update | with_reducible apply as_par3F | with_reducible apply as_asgT3 | with_reducible apply as_asgT2 | with_reducible apply as_frz | with_reducible apply as_setF | with_reducible apply as_parF | with_reducible apply as_seq | with_reducible apply as_if | with_reducible apply as_ret | with_reducible apply as_append | with_reducible apply as_extend | with_reducible apply as_pop | with_reducible apply as_popAt | with_reducible apply as_drop | with_reducible apply as_set | with_reducible apply as_par | with_reducible apply as_asg | with_reducible apply as_for | with_reducible apply as_while
  | with_reducible apply ab_gtup2 | with_reducible apply ab_gtup3 | with_reducible apply ab_gtup4 | with_reducible apply ab_gcons
  | with_reducible apply ab_cons | with_reducible apply ab_op | with_reducible apply ab_test | with_reducible apply ab_tB | with_reducible apply ab_and | with_reducible apply ab_or | with_reducible apply ab_not | with_reducible apply ab_andV | with_reducible apply ab_orV | with_reducible apply ab_notV | with_reducible apply ab_if
  | with_reducible apply ab_un | with_reducible apply ab_tup | with_reducible apply ab_lst | with_reducible apply ab_call | with_reducible apply ab_callK | with_reducible apply ab_cb | with_reducible apply ab_sl | with_reducible apply ab_part | with_reducible apply ab_backT | with_reducible apply ab_back0
  | with_reducible apply ab_lc | with_reducible apply ab_lenSetT | with_reducible apply ab_tupItems | with_reducible apply ab_stepT | with_reducible apply ab_sortItems | with_reducible apply ab_dc | with_reducible apply ab_listRg | with_reducible apply ab_star | with_reducible apply ab_starL | with_reducible apply ab_index | with_reducible apply ab_revL | with_reducible apply ab_callW | with_reducible apply ab_disp1 | with_reducible apply ab_dget1 | with_reducible apply ab_dget2 | with_reducible apply as_dput | with_reducible apply ab_chain | with_reducible apply ab_dget | with_reducible apply ab_din | with_reducible apply ab_dnotin | with_reducible apply ab_xin | with_reducible apply ab_xnotin | with_reducible apply ab_xget | with_reducible apply ab_xget1 | with_reducible apply as_xput
  | with_reducible apply ab_iany | with_reducible apply ab_ilist | with_reducible apply ab_itup | with_reducible apply ab_irng1 | with_reducible apply ab_irng2 | with_reducible apply ab_istr | with_reducible apply ab_ienum | with_reducible apply ab_ienumT
  | with_reducible apply ab_m1 | with_reducible apply ab_callLm | with_reducible apply ab_irev
  | with_reducible apply ab_tru
  | exact ab_keysAdd
  | (refine (show List.length _ = List.length _ from ?_); assumption)
  | rfl | (simp only [Tg.slots, tslots]; rfl)))
local macro_rules | `(tactic| walk_at "ago") => `(tactic| repeat (first
  | refine seqI ?_
  | refine ⟨_, rfl, szLe rfl, ?_⟩
  | refine ⟨_, rfl, ?_⟩
  | refine ⟨trivial, ?_⟩
  | refine ⟨_, _, rfl, rfl, ?_⟩
  | refine ⟨_, _, _, rfl, rfl, rfl, ?_⟩
  | refine ⟨_, _, _, rfl, (by decide), rfl, ?_⟩
  | refine ⟨_, _, _, _, rfl, rfl, rfl, rfl, rfl, ?_⟩
  | refine ⟨_, _, _, rfl, rfl, (by walk_at "side"), rfl, ?_⟩
  | refine ⟨_, _, rfl, rfl, (by walk_at "side"), ?_⟩
  | refine ⟨⟨_, rfl⟩, ?_⟩
  | refine ⟨rfl, ?_⟩))
local macro_rules | `(tactic| walk_at "agos") => `(tactic| repeat (first
  | refine ⟨_, rfl, szLe rfl, ?_⟩
  | refine ⟨_, rfl, ?_⟩
  | refine ⟨trivial, ?_⟩
  | refine ⟨_, _, rfl, rfl, ?_⟩
  | refine ⟨_, _, _, rfl, rfl, rfl, ?_⟩
  | refine ⟨_, _, _, rfl, (by decide), rfl, ?_⟩
  | refine ⟨_, _, _, _, rfl, rfl, rfl, rfl, rfl, ?_⟩
  | refine ⟨_, _, _, rfl, rfl, (by walk_at "side"), rfl, ?_⟩
  | refine ⟨_, _, rfl, rfl, (by walk_at "side"), ?_⟩
  | refine ⟨⟨_, rfl⟩, ?_⟩
  | refine ⟨rfl, ?_⟩))

abbrev s_trees_from_right : Stmt := topS 7
abbrev N_trees_from_right : List Str := ["tree"]
theorem sc_trees_from_right : FnScope N_trees_from_right ["tree"] (defScope s_trees_from_right) :=
  ⟨rfl, rfl, rfl, by decide +kernel, rfl, by decide +kernel, by decide +kernel⟩
theorem po_trees_from_right : Posi "trees_from_right" s_trees_from_right ["tree"] := fun _ _ _ _ _ _ us hl => match us, hl with | [_], _ => rfl

abbrev s_taken_off : Stmt := topS 10
abbrev N_taken_off : List Str := ["made", "many", "at", "taken"]
theorem sc_taken_off : FnScope N_taken_off ["made", "many"] (defScope s_taken_off) :=
  ⟨rfl, rfl, rfl, by decide +kernel, rfl, by decide +kernel, by decide +kernel⟩
theorem po_taken_off : Posi "taken_off" s_taken_off ["made", "many"] := fun _ _ _ _ _ _ us hl => match us, hl with | [_, _], _ => rfl

abbrev s_built : Stmt := topS 11
abbrev N_built : List Str := ["tree", "of_hole", "of_name", "made", "part"]
theorem sc_built : FnScope N_built ["tree", "of_hole", "of_name"] (defScope s_built) :=
  ⟨rfl, rfl, rfl, by decide +kernel, rfl, by decide +kernel, by decide +kernel⟩
theorem po_built : Posi "built" s_built ["tree", "of_hole", "of_name"] := fun _ _ _ _ _ _ us hl => match us, hl with | [_, _, _], _ => rfl

/-! ## a tree from below -/
mutual
def Tr.post : Tr → List Tr
  | .h z => [.h z]
  | .n f ps => posts ps ++ [.n f ps]
def posts : List Tr → List Tr
  | [] => []
  | t :: r => t.post ++ posts r
end
mutual
theorem postRev : ∀ t : Tr, (t.preB false).reverse = t.post
  | .h z => rfl
  | .n f ps => by rw [Tr.preB, List.reverse_cons, postsRev ps, Tr.post]
theorem postsRev : ∀ ps : List Tr, (presB false ps).reverse = posts ps
  | [] => rfl
  | t :: r => by rw [presB, if_neg Bool.false_ne_true, List.reverse_append, postRev t, postsRev r, posts]
end
/-- what stands on the pile behind these trees, and in the end -/
def runP (g : Tr → PyData) : List Tr → List PyData → List PyData → Prop
  | [], st, st' => st' = st
  | .h z :: r, st, st' => runP g r (st ++ [g (.h z)]) st'
  | .n f ps :: r, st, st' => ∃ st0, st = st0 ++ ps.map g ∧ runP g r (st0 ++ [g (.n f ps)]) st'
mutual
theorem runPost (g : Tr → PyData) : ∀ (t : Tr) (r : List Tr) (st st' : List PyData), runP g r (st ++ [g t]) st' → runP g (t.post ++ r) st st'
  | .h z, r, st, st', h => h
  | .n f ps, r, st, st', h => by
    rw [Tr.post, List.append_assoc]
    exact runPosts g ps _ st st' ⟨st, rfl, h⟩
theorem runPosts (g : Tr → PyData) : ∀ (ps : List Tr) (r : List Tr) (st st' : List PyData), runP g r (st ++ ps.map g) st' → runP g (posts ps ++ r) st st'
  | [], r, st, st', h => by rw [List.map_nil, List.append_nil] at h; exact h
  | t :: ps, r, st, st', h => by
    rw [posts, List.append_assoc]
    refine runPost g t _ st st' (runPosts g ps r _ st' ?_)
    rw [List.append_assoc]
    exact h
end
mutual
theorem postMem : ∀ (t : Tr), ∀ u ∈ t.post, u ∈ t.pre
  | .h z, u, h => h
  | .n f ps, u, h => by
    rw [Tr.post] at h
    show u ∈ Tr.n f ps :: pres ps
    rcases List.mem_append.mp h with h | h
    · exact List.mem_cons_of_mem _ (postsMem ps u h)
    · rw [List.mem_singleton.mp h]; exact List.mem_cons_self
theorem postsMem : ∀ (ps : List Tr), ∀ u ∈ posts ps, u ∈ pres ps
  | [], u, h => by cases h
  | t :: r, u, h => by
    rw [posts] at h
    rw [pres_cons]
    rcases List.mem_append.mp h with h | h
    · exact List.mem_append_left _ (postMem t u h)
    · exact List.mem_append_right _ (postsMem r u h)
end
/-- what is asked of the two that are handed to built: g is what is made of each tree -/
def foldTr : List A → List PyData → List PyData → FS → FS → AQ → Nat → Prop := fun as c1 c2 Fs1 Fs2 q n => ∃ (t : Tr) (g : Tr → PyData), as = [.d t.data] ∧ t.size ≤ 5000 ∧
  (∀ z n q, Tr.h z ∈ t.pre → q (A.d (g (.h z))) n → Fs1 (A.d (.str z) :: c1.map A.d) n q) ∧
  (∀ f ps n q, Tr.n f ps ∈ t.pre → (∀ y, y.sto = some (g (.n f ps)) → q y n) → Fs2 ([A.d (.str f), A.d (.list (ps.map g))] ++ c2.map A.d) n q) ∧ q (A.d (g t)) n
def fFromRight : FS := fun as n q => ∃ t : Tr, as = [.d t.data] ∧ t.size ≤ 5000 ∧ q (.ol (datas (t.preB false))) n
section
variable {P : Program} {w : World} {K : PySem.W.Frag} {mg : Str → Option Value} {base : Heap} {tb : TBs}
theorem a_trees_from_right (T : At K mg "trees_from_right" s_trees_from_right) (d__trees_met : Has P w K mg base 2 "_trees_met" s__trees_met ["tree", "step"] (spA (lw K tb) fTreesMet)) :
    Has P w K mg base 3 "trees_from_right" s_trees_from_right ["tree"] (spA (lw K tb) fFromRight) := by
  refine T.hasA sc_trees_from_right po_trees_from_right (fun as n q h => by obtain ⟨t, rfl, _⟩ := h; rfl) (fun f cdv Ar outer s H E hr => ?_)
  have nd := sc_trees_from_right.nd
  refine' bodyA (fun as n q h => by obtain ⟨t, rfl, _⟩ := h; show 1 ≤ 1; decide) (pss_one (ps_ret (pe_callD d__trees_met (by omega) hr (pa_cons (pv 0) (pa_cons pe_int pa_nil))))) ?ab ?go
  case ab => walk_at "ab"
  case go =>
    rintro as n q ⟨t, rfl, h1, hq⟩
    walk_at "ago"
    refine ⟨t, false, rfl, h1, ?_⟩
    walk_at "ago"
    exact hq
theorem h_taken_off (T : At K mg "taken_off" s_taken_off) (mb_len : mg "len" = none) :
    Has P w K mg base 1 "taken_off" s_taken_off ["made", "many"] spTaken := by
  refine T.has sc_taken_off po_taken_off (fun vs H Q E h => by obtain ⟨c, xs, k, rfl, _⟩ := h; rfl) (fun f cdv Ar outer s H vs Q E hr h => ?_)
  have nd := sc_taken_off.nd
  obtain ⟨c, xs, k, rfl, hc, hz, hk, hq⟩ := h
  refine ⟨_, pss_cons (ps_set (i := 2) nd rfl (.inl rfl) (pe_op op_sub (pe_callB call_len_seq (by rfl) mb_len PySem.boot_len (pa_cons (pv 0) pa_nil)) (pv 1)))
    (pss_cons (ps_set (i := 3) nd rfl (.inl rfl) (pe_slice sl_list (pv 0) (po_some (pv 2)) po_none))
    (pss_cons (ps_delSl (pv 0) (po_some (pv 2)))
    (pss_one (ps_ret (pv 3))))), ?_⟩
  refine ⟨_, rfl, c, _, rfl, .inl (SqL.of hc), _, rfl, _, _, rfl, rfl, ?_⟩
  have e1 : ((xs.length : Nat) : Int) - (k : Int) = ((xs.length - k : Nat) : Int) := by omega
  have e2 : ((fun i j : Int => V.int (i - j)) ((xs.length : Nat) : Int) (k : Int)) = V.int ((xs.length - k : Nat) : Int) := by show V.int _ = _; rw [e1]
  rw [e2]
  have ec : cutV xs (some ((xs.length - k : Nat) : Int)) none = xs.drop (xs.length - k) := by
    unfold cutV
    rw [HT.sIx_none, HT.sIx_nat, Nat.min_eq_left (by omega), List.take_of_length_le (by rw [List.length_drop]; exact Nat.le_refl _)]
  refine ⟨_, rfl, _, rfl, _, rfl, c, xs, rfl, SqL.of hc, fun p hp => ?_⟩
  rw [ec]
  have cp : c ≠ p := ne_of_none hc hp
  refine ⟨_, rfl, _, rfl, _, rfl, c, xs, xs.length - k, rfl, rfl, by rw [upd_ne cp]; exact hc, by omega, ?_⟩
  exact ⟨_, rfl, hq p hp⟩
theorem a_built (j : Nat) (T : At K mg "built" s_built) (d_trees_from_right : Has P w K mg base 3 "trees_from_right" s_trees_from_right ["tree"] (spA (lw K tb) fFromRight)) (d_is_hole : Has P w K mg base 1 "is_hole" s_is_hole ["tree"] (spA (lw K tb) fIsHole'))
    (d_taken_off : Has P w K mg base 1 "taken_off" s_taken_off ["made", "many"] spTaken) (mb_reversed : mg "reversed" = none) (mb_len : mg "len" = none) :
    HasS P w K mg base (j + 4) "built" s_built ["tree", "of_hole", "of_name"] (spFoldS P w K mg base j (lw K tb) foldTr) := by
  refine T.hasS sc_built po_built (fun s vs H Q E h => h.len) (fun f cdv Ar outer s H vs Q E hr h => ?_)
  have nd := sc_built.nd
  obtain ⟨M, n, q, a, f1, f2, F1, F2, ps1, ps2, pr1, pr2, fr1, fr2, Fs1, Fs2, l, e0, hs, O, hp, hst, ha, LO1, CE1, hl1, LO2, CE2, hl2, hF, hq⟩ := h
  obtain ⟨t, g, e1, h1, h2, h3, h4⟩ := hF
  obtain rfl : a = .d t.data := by injection e1
  replace CE1 : CellsAt F1.cl fr1 (ps1.map fun p => some p.1) s.heap H := CE1
  replace CE2 : CellsAt F2.cl fr2 (ps2.map fun p => some p.1) s.heap H := CE2
  refine' ⟨_, (pss_cons (ps_set (i := 3) nd rfl (Or.inl rfl) (pe_lst pa_nil))
      (pss_cons (ps_for PassesOwn.never rfl (pi_reversed (by rfl) mb_reversed (pa_cons (pe_callD d_trees_from_right (by omega) hr (pa_cons (pv 0) pa_nil)) pa_nil)) (pg_name (i := 4) nd rfl (.inl rfl)) (pss_one (ps_if (pt_val (pe_callD d_is_hole (by omega) hr (pa_cons (pv 4) pa_nil))) (pss_one (ps_expr (pe_bm PySem.F.plainAttrs_list PySem.F.slot_list_append PySem.F.type_list_append mt_append (pv 3) (pa_cons (pe_callLm (i := 1) LO1 CE1 rfl hr (by omega) pass0 rfl (.inl rfl) (pa_cons (pv 4) pa_nil)) pa_nil)))) (pss_one (ps_expr (pe_bm PySem.F.plainAttrs_list PySem.F.slot_list_append PySem.F.type_list_append mt_append (pv 3) (pa_cons (pe_callLm (i := 2) LO2 CE2 rfl hr (by omega) pass0 rfl (.inl rfl) (pa_cons (pe_ix (ixQ K) (pv 4) pe_int (fun _ _ => rfl)) (pa_cons (pe_callD d_taken_off (by omega) hr (pa_cons (pv 3) (pa_cons (pe_op op_sub (pe_callB (lenQ K) (by rfl) mb_len (by decide +kernel) (pa_cons (pv 4) pa_nil)) pe_int) pa_nil))) pa_nil))) pa_nil)))))))
      (pss_one (ps_ret (pe_ix (ixQ K) (pv 3) pe_int (fun _ _ => rfl)))))), bodyAt (L := lw K tb) (N := N_built) (q := q) ?ab l e0 hs O hp hst ha (by show 3 ≤ 5; decide) ?go hq⟩
  case ab => walk_at "ab"
  case go =>
    refine seqI ?_
    walk_at "agos"
    refine seqI ?_
    walk_at "agos"
    refine ⟨h1, ?_⟩
    walk_at "agos"
    have er : (datas (t.preB false)).reverse = datas t.post := by rw [← postRev t, datas_map, datas_map, List.map_reverse]
    rw [er]
    have lp : t.post.length = t.size := by rw [← postRev t, List.length_reverse, preLen]
    let eB (st : List PyData) (x4 : Option A) : AEnv := [some (.d t.data), some (.rf f1 (lamK f1 F1) ps1), some (.rf f2 (lamK f2 F2) ps2), some (.ol st), x4]
    refine hold (aLoop_ind (fun rem e k => k = n ∧ ∃ (rm : List Tr) (st : List PyData) (x4 : Option A), rem = datas rm ∧ (∀ u ∈ rm, u ∈ t.pre) ∧ runP g rm st [g t] ∧ st.length + rm.length ≤ t.size ∧ e = eB st x4)
      (fun e k hG => ?_) (fun x r e k hG ih => ?_) _ _ _ ⟨rfl, t.post, [], none, rfl, postMem t, ?_, by rw [lp]; simp, rfl⟩)
    · obtain ⟨rfl, rm, st, x4, e2, g1, g2, g3, rfl⟩ := hG
      obtain rfl : rm = [] := by cases rm with | nil => rfl | cons a b => rw [datas] at e2; cases e2
      obtain rfl : [g t] = st := g2
      walk_at "agos"
      exact h4
    · obtain ⟨rfl, rm, st, x4, e2, g1, g2, g3, rfl⟩ := hG
      cases rm with
      | nil => rw [datas] at e2; cases e2
      | cons u rm =>
        rw [datas] at e2
        injection e2 with e2 e3
        subst e2 e3
        rw [List.length_cons] at g3
        have um := g1 u List.mem_cons_self
        rw [aLoop]
        walk_at "agos"
        cases u with
        | h z =>
          refine ifT rfl ?_
          walk_at "agos"
          rw [Tr.data]
          have hc : (ps1.map fun p => A.d p.2) = (ps1.map (·.2)).map A.d := by rw [List.map_map]; rfl
          rw [hc]
          refine h2 z k _ um ?_
          walk_at "agos"
          refine ⟨by rw [sizeLine_eq]; omega, ?_⟩
          exact ih _ _ ⟨rfl, rm, st ++ [g (.h z)], _, rfl, fun u hu => g1 u (List.mem_cons_of_mem _ hu), g2, by rw [List.length_append, List.length_singleton]; omega, rfl⟩
        | n f ps =>
          refine ifF rfl ?_
          obtain ⟨st0, rfl, g2⟩ := g2
          rw [List.length_append, List.length_map] at g3
          have hc : (ps2.map fun p => A.d p.2) = (ps2.map (·.2)).map A.d := by rw [List.map_map]; rfl
          have e1 : (st0 ++ ps.map g).length - ps.length = st0.length := by rw [List.length_append, List.length_map]; omega
          rw [Tr.data]
          refine ⟨st0 ++ ps.map g, rfl, rfl, by rw [List.length_append, List.length_map, sizeLine_eq]; omega, ?_⟩
          walk_at "agos"
          refine ⟨_, atI0, ?_⟩
          walk_at "agos"
          refine ⟨fun z h => (by cases h), ?_⟩
          walk_at "agos"
          have hl : (PyData.str f :: datas ps).length = ps.length + 1 := by rw [datas_map, List.length_cons, List.length_map]
          rw [hl]
          refine ⟨ps.length, by show A.d (.int _) = _; rw [show (((ps.length + 1 : Nat) : Int) - 1) = (ps.length : Int) by omega], by rw [List.length_append, List.length_map]; omega, by rw [e1, sizeLine_eq]; omega, ?_⟩
          rw [e1, hc, List.drop_left, List.take_left]
          refine h3 f ps k _ um fun y hy => ⟨_, hy, ?_⟩
          exact ih _ _ ⟨rfl, rm, st0 ++ [g (.n f ps)], _, rfl, fun u hu => g1 u (List.mem_cons_of_mem _ hu), g2, by rw [List.length_append, List.length_singleton]; omega, rfl⟩
    · have := runPost g t [] [] [g t] rfl
      rw [List.append_nil] at this
      exact this
end
end Ah
namespace Ah
open PySem PySem.Spec PyProof.Rows L2 LamX NdefX
local macro_rules | `(tactic| walk_at "side") => `(tactic| first | omega | decide | (dsimp only; omega) | (unfold CDivN; omega) | (unfold CMul; omega) | (unfold CPow; omega) | (unfold CPow; decide) | (unfold CMulW; decide) | exact szLe rfl | rfl)
local macro_rules | `(tactic| walk_at "here") => `(tactic| first | assumption | exact upd_same)
local macro_rules | `(tactic| walk_at "go") => `(tactic| repeat (first
  | (refine ⟨_, rfl, ?_⟩)
  | (refine ⟨_, _, rfl, rfl, ?_⟩)
  | (refine ⟨_, _, _, _, rfl, rfl, SqL.of (by walk_at "here"), rfl, ?_⟩)
  | (refine ⟨_, _, _, _, rfl, rfl, (by walk_at "here"), rfl, ?_⟩)
  | (refine ⟨_, _, rfl, ?_⟩)
  | (refine And.intro (by walk_at "side") ?_)))
local macro_rules | `(tactic| walk_at "ab") => `(tactic| (try dsimp only [noxK]); repeat (first
  | with_reducible exact ab_var | with_reducible exact ab_int | with_reducible exact ab_str | with_reducible exact ab_bl | with_reducible exact ab_non | with_reducible exact ab_ty | with_reducible exact ab_nil | with_reducible exact ab_noPart | with_reducible exact ab_yes | with_reducible exact ab_dnew | with_reducible exact ab_xnew
  | with_reducible exact as_next | with_reducible exact as_retN | with_reducible exact as_break | with_reducible exact as_cont | with_reducible exact ab_gname | with_reducible exact ab_gnil
  | with_reducible exact oa_I0 | with_reducible exact oa_I | with_reducible exact oa_eq | with_reducible exact oa_ne | with_reducible exact oa_addQ | with_reducible exact oa_ixQ | with_reducible exact oa_eqD | with_reducible exact oa_neD | with_reducible exact oa_isTyB | with_reducible exact oa_notTyB | with_reducible exact oa_NT | with_reducible exact cb_sortD | with_reducible exact oa_isN | with_reducible exact oa_notN | with_reducible exact oa_mulQ | with_reducible exact oa_mulS | with_reducible exact oa_repT | with_reducible exact oa_inS | with_reducible exact oa_notInS | with_reducible exact oa_cat | with_reducible exact oa_catU
  | with_reducible exact cb_len | with_reducible exact cb_type | with_reducible exact cb_isi | with_reducible exact cb_repr | with_reducible exact cb_listOf | with_reducible exact cb_tupOf | with_reducible exact cb_max2 | with_reducible exact cb_minL | with_reducible exact cb_intB | with_reducible exact cb_all | with_reducible exact cb_any | with_reducible exact cb_listZip | with_reducible exact cb_listZipL | with_reducible exact cb_dictP | with_reducible exact oa_isB | with_reducible exact oa_notB | with_reducible exact cb_tupD | with_reducible exact cb_divmod | with_reducible exact oa_inD | with_reducible exact oa_notInD
  | with_reducible exact ma_join | with_reducible exact ma_find | with_reducible exact ma_count | with_reducible exact ma_split
  | with_reducible apply as_appTaken (by decide) | with_reducible apply as_ifSetd | with_reducible apply as_appPop | with_reducible apply as_update | with_reducible apply as_par3F | with_reducible apply as_asgT3 | with_reducible apply as_asgT2 | with_reducible apply as_frz | with_reducible apply as_setF | with_reducible apply as_parF | with_reducible apply as_seq | with_reducible apply as_if | with_reducible apply as_ret | with_reducible apply as_append | with_reducible apply as_extend | with_reducible apply as_pop | with_reducible apply as_popAt | with_reducible apply as_drop | with_reducible apply as_set | with_reducible apply as_par | with_reducible apply as_asg | with_reducible apply as_for | with_reducible apply as_while
  | with_reducible apply ab_gtup2 | with_reducible apply ab_gtup3 | with_reducible apply ab_gtup4 | with_reducible apply ab_gcons
  | with_reducible apply ab_cons | with_reducible apply ab_op | with_reducible apply ab_test | with_reducible apply ab_tB | with_reducible apply ab_and | with_reducible apply ab_or | with_reducible apply ab_not | with_reducible apply ab_andV | with_reducible apply ab_orV | with_reducible apply ab_notV | with_reducible apply ab_if
  | with_reducible apply ab_un | with_reducible apply ab_tup | with_reducible apply ab_lst | with_reducible apply ab_call | with_reducible apply ab_callK | with_reducible apply ab_cb | with_reducible apply ab_sl | with_reducible apply ab_part | with_reducible apply ab_backT | with_reducible apply ab_back0
  | with_reducible apply ab_lc | with_reducible apply ab_lenSetT | with_reducible apply ab_tupItems | with_reducible apply ab_stepT | with_reducible apply ab_sortItems | with_reducible apply ab_dc | with_reducible apply ab_listRg | with_reducible apply ab_star | with_reducible apply ab_starL | with_reducible apply ab_index | with_reducible apply ab_revL | with_reducible apply ab_callW | with_reducible apply ab_disp1 | with_reducible apply ab_dget1 | with_reducible apply ab_dget2 | with_reducible apply as_dput | with_reducible apply ab_chain | with_reducible apply ab_dget | with_reducible apply ab_din | with_reducible apply ab_dnotin | with_reducible apply ab_xin | with_reducible apply ab_xnotin | with_reducible apply ab_xget | with_reducible apply ab_xget1 | with_reducible apply as_xput
  | with_reducible apply ab_iany | with_reducible apply ab_ilist | with_reducible apply ab_itup | with_reducible apply ab_irng1 | with_reducible apply ab_irng2 | with_reducible apply ab_istr | with_reducible apply ab_ienum | with_reducible apply ab_ienumT
  | with_reducible apply ab_m1 | with_reducible apply ab_callLm | with_reducible apply ab_irev
  | with_reducible apply ab_tru
  | exact ab_keysAdd
  | (refine (show List.length _ = List.length _ from ?_); assumption)
  | rfl | (simp only [Tg.slots, tslots]; rfl)))
local macro_rules | `(tactic| walk_at "ago") => `(tactic| repeat (first
  | refine seqI ?_
  | refine ⟨_, rfl, szLe rfl, ?_⟩
  | refine ⟨_, rfl, ?_⟩
  | refine ⟨trivial, ?_⟩
  | refine ⟨_, _, rfl, rfl, ?_⟩
  | refine ⟨_, _, _, rfl, rfl, rfl, ?_⟩
  | refine ⟨_, _, _, rfl, (by decide), rfl, ?_⟩
  | refine ⟨_, _, _, _, rfl, rfl, rfl, rfl, rfl, ?_⟩
  | refine ⟨_, _, _, rfl, rfl, (by walk_at "side"), rfl, ?_⟩
  | refine ⟨_, _, rfl, rfl, (by walk_at "side"), ?_⟩
  | refine ⟨⟨_, rfl⟩, ?_⟩
  | refine ⟨rfl, ?_⟩))
local macro_rules | `(tactic| walk_at "agos") => `(tactic| repeat (first
  | refine ⟨_, rfl, szLe rfl, ?_⟩
  | refine ⟨_, rfl, ?_⟩
  | refine ⟨trivial, ?_⟩
  | refine ⟨_, _, rfl, rfl, ?_⟩
  | refine ⟨_, _, _, rfl, rfl, rfl, ?_⟩
  | refine ⟨_, _, _, rfl, (by decide), rfl, ?_⟩
  | refine ⟨_, _, _, _, rfl, rfl, rfl, rfl, rfl, ?_⟩
  | refine ⟨_, _, _, rfl, rfl, (by walk_at "side"), rfl, ?_⟩
  | refine ⟨_, _, rfl, rfl, (by walk_at "side"), ?_⟩
  | refine ⟨⟨_, rfl⟩, ?_⟩
  | refine ⟨rfl, ?_⟩))

abbrev s_put_for : Stmt := topS 12
abbrev N_put_for : List Str := ["tree", "by", "put", "hole", "worth"]
theorem sc_put_for : FnScope N_put_for ["tree", "by"] (defScope s_put_for) :=
  ⟨rfl, rfl, rfl, by decide +kernel, rfl, by decide +kernel, by decide +kernel⟩
theorem po_put_for : Posi "put_for" s_put_for ["tree", "by"] := fun _ _ _ _ _ _ us hl => match us, hl with | [_, _], _ => rfl

abbrev lamPF1 : Expr := retArg s_put_for 1 1
abbrev lamPF2 : Expr := retArg s_put_for 1 2
def qnPF : Nat → Nat → Str := fun _ _ => "put_for.<locals>.<lambda>"
theorem fb1 : ndefB (defScope s_put_for) (lamS lamPF1) ["put"] = true := by decide +kernel
theorem fb2 : ndefB (defScope s_put_for) (lamS lamPF2) [] = true := by decide +kernel
def fPF1 : FS := fun as n q => ∃ (z : Str) (m : KM), as = [.d (.str z), .d (.dict (kvD m))] ∧ q (.d ((valM m (.inr z)).getD (.str z))) n
def fPF2 : FS := fun as n q => ∃ (z : Str) (xs : List PyData), as = [.d (.str z), .d (.list xs)] ∧ xs.length + 1 ≤ sizeLine ∧ q (.d (.tuple (.str z :: xs))) n
def fPutFor : FS := fun as n q => ∃ (t : Tr) (l : List (Str × Tr)), (as = [.d t.data, .d (.tuple (itemsD (HM.data l)))] ∨ as = [.d t.data, .d (.list (itemsD (HM.data l)))]) ∧ t.size ≤ 5000 ∧ l.length ≤ 5000 ∧ q (.d (t.inst (HM.of l).sub).data) n
theorem ofLen (l : List (Str × Tr)) : (HM.of l).length ≤ l.length := by
  unfold HM.of
  have : ∀ (l : List (Str × Tr)) (m : HM), (l.foldl (fun acc p => acc.put p.1 p.2) m : HM).length ≤ m.length + l.length := by
    intro l
    induction l with
    | nil => intro m; exact Nat.le_refl _
    | cons p r ih =>
      intro m
      have := ih (m.put p.1 p.2)
      have := putLen m p.1 p.2
      rw [List.foldl_cons, List.length_cons]; omega
  have := this l []
  simpa using this
theorem instsMap (s : Str → Tr) : ∀ ps : List Tr, insts s ps = ps.map (Tr.inst s)
  | [] => rfl
  | t :: r => by rw [insts, List.map_cons, instsMap s r]
mutual
theorem preSize : ∀ (t : Tr), ∀ u ∈ t.pre, u.size ≤ t.size
  | .h z, u, h => by rw [List.mem_singleton.mp h]; exact Nat.le_refl _
  | .n f ps, u, h => by
    rcases List.mem_cons.mp h with rfl | h
    · exact Nat.le_refl _
    · have := presSize ps u h
      rw [size_n]; omega
theorem presSize : ∀ (ps : List Tr), ∀ u ∈ pres ps, u.size ≤ sizes ps
  | [], u, h => by cases h
  | t :: r, u, h => by
    rw [pres_cons] at h
    rw [sizes_cons]
    rcases List.mem_append.mp h with h | h
    · have := preSize t u h; omega
    · have := presSize r u h; omega
end
section
variable {P : Program} {w : World} {K : PySem.W.Frag} {mg : Str → Option Value} {base : Heap} {tb : TBs} {c pt : Addr}
theorem lok1 (env : Env) (f' c' : Addr) : LOk P w K mg base CX0 1 f' (mkL lamPF1 env c') ["hole"] ["put"] (fun ws vs H Q E => ws.length = 1 ∧ spL (lw K tb) fPF1 ws vs H Q E) := by
  refine lokA (N := ["hole", "put"]) (nscope_by (show nscB ["hole", "put"] ["hole"] ["put"] (lamS lamPF1) = true from by decide +kernel)) (fun _ _ us hl => match us, hl with | [_], _ => rfl) (fun as n q h => by obtain ⟨z, m, rfl, _⟩ := h; rfl) (fun A outer s H E hr => ?_)
  have nd : ["hole", "put"].Nodup := by decide
  refine' exTW (pe_dget2 (u1 hr.units) (pv 1) (pv 0) (pv 0) ⟨rfl, rfl, rfl, rfl⟩) ?ab ?go
  case ab => walk_at "ab"
  case go =>
    rintro as n q ⟨z, m, rfl, hq⟩
    walk_at "ago"
    exact hq
theorem lok2 (env : Env) (f' c' : Addr) : LOk P w K mg base CX0 1 f' (mkL lamPF2 env c') ["full", "parts"] [] (fun ws vs H Q E => ws.length = 0 ∧ spL (lw K tb) fPF2 ws vs H Q E) := by
  refine lokA (N := ["full", "parts"]) (nscope_by (show nscB ["full", "parts"] ["full", "parts"] [] (lamS lamPF2) = true from by decide +kernel)) (fun _ _ us hl => match us, hl with | [_, _], _ => rfl) (fun as n q h => by obtain ⟨z, m, rfl, _⟩ := h; rfl) (fun A outer s H E hr => ?_)
  have nd : ["full", "parts"].Nodup := by decide
  refine' exTW (pe_tup (pa_cons (pv 0) (show PA _ _ (tStarL K _ _) from paStar K (pv 1) pa_nil))) ?ab ?go
  case ab => walk_at "ab"
  case go =>
    rintro as n q ⟨z, m, rfl, hl, hq⟩
    walk_at "ago"
    have e : ∀ xs : List PyData, stos (xs.map Ah.A.d ++ []) = some xs := fun xs => by
      have := stosStar xs (bs := []) (ys := []) rfl
      rw [List.append_nil xs] at this
      exact this
    refine ⟨.str z :: m, ?_, hl, trivial, hq⟩
    show stos (Ah.A.d (.str z) :: (m.map Ah.A.d ++ [])) = _
    rw [stos, e m]
    rfl
theorem a_put_for (T : AtC K mg "put_for" s_put_for c) (TB : TabB base mg c pt) (hg : pt ∈ tb.g) (hm : (pt, qnPF) ∈ tb.l) (hu : ∀ p ∈ tb.l, p.1 = pt → p.2 = qnPF) (hsub : ∀ p ∈ tb.l, p.1 ∈ tb.g)
    (d_built : HasS P w K mg base 5 "built" s_built ["tree", "of_hole", "of_name"] (spFoldS P w K mg base 1 (lw K tb) foldTr)) :
    Has P w K mg base 6 "put_for" s_put_for ["tree", "by"] (spA (lw K tb) fPutFor) := by
  refine T.hasA sc_put_for po_put_for (fun as n q h => by obtain ⟨t, l, h, _⟩ := h; rcases h with rfl | rfl <;> rfl) (fun f Ar outer s H E hr => ?_)
  have nd := sc_put_for.nd
  refine' bodyA (fun as n q h => by obtain ⟨t, l, h, _⟩ := h; rcases h with rfl | rfl <;> (show 2 ≤ 5; decide)) (pss_cons (show PS _ _ (tAsgF _ (gName 2)) from (ps_set (i := 2) nd rfl (Or.inr rfl) (pe_dc (own := [("hole", 3), ("worth", 4)]) (by rfl) nd (pi_any (pv 1)) (blkOk_by (own := [("hole", 3), ("worth", 4)]) (N := N_put_for) (sc := defScope s_put_for) (by decide +kernel)) (fun _ _ _ _ _ => (pgTup K 2 rfl (pgs_cons (pg_name (i := 3) nd rfl (.inl rfl)) (pgs_cons (pg_name (i := 4) nd rfl (.inl rfl)) pgs_nil)))) (fun _ _ _ _ _ => pts_nil) (fun _ _ _ _ _ => (pv 3)) (fun _ _ _ _ _ => (pv 4)))))
      (pss_one (ps_ret (show PE _ _ (tCallS (fun σ => spFold P w K mg base 1 (lw K tb) foldTr (fun F fr ws => F.cl = cloFrom (envOfC "put_for" (defScope s_put_for) s.heap.objs.size f (.ref c)).cells (lamS lamPF1).names [] ∧ fr = [("put" : Str)] ∧ ws = [2].map (slotAt σ)) (fun F fr ws => F.cl = cloFrom (envOfC "put_for" (defScope s_put_for) s.heap.objs.size f (.ref c)).cells (lamS lamPF2).names [] ∧ fr = [] ∧ ws = [].map (slotAt σ))) E0 (tCons (tVar 0) (tCons (tLam1 pt tb.l (mkL lamPF1 (envOfC "put_for" (defScope s_put_for) s.heap.objs.size f (.ref c)))) (tCons (tLam1 pt tb.l (mkL lamPF2 (envOfC "put_for" (defScope s_put_for) s.heap.objs.size f (.ref c)))) tNil)))) from (pe_callS d_built (by omega) hr (pa_cons (pv 0) (pa_cons (pe_lamE lamPF1 rfl TB rfl hm rfl hu rfl (ndef_free fb1)) (pa_cons (pe_lamE lamPF2 rfl TB rfl hm rfl hu rfl (ndef_free fb2)) pa_nil))) (fun pins σ H s vs Q I h => spFold.cells (cellsMade lamPF1 (js := [2]) I (ndef_free fb1) (ndef_fr fb1) rfl) (cellsMade lamPF2 (js := []) (fr := []) I (ndef_free fb2) (fun _ h => by cases h) rfl) h)))))) ?ab ?go
  case ab =>
    walk_at "ab"
    exact ab_fold (L := lw K tb) hg ⟨_, hm⟩ hsub (fun f' c' => lok1 _ f' c') (fun f' c' => lok2 _ f' c') (fun _ => ⟨rfl, rfl⟩) (fun _ => ⟨rfl, rfl⟩) rfl rfl ab_var
  case go =>
    rintro as n q ⟨t, l, h, h1, h2, hq⟩
    have fin : ∀ l', l = l' → foldTr [.d t.data] [.dict (kvD (HM.of l').data)] [] fPF1 fPF2 (fun a m => a.ret ∧ q (a.out []) m) n := by
      intro l' e
      subst e
      refine ⟨t, fun u => (u.inst (HM.of l).sub).data, rfl, h1, fun z n q hz hq => ?_, fun f ps n q hp hq => ?_, trivial, hq⟩
      · refine ⟨z, (HM.of l).data, rfl, ?_⟩
        have ev : (valM (HM.of l).data (.inr z)).getD (.str z) = ((HM.of l).sub z).data := by
          rw [valData]
          unfold HM.sub
          cases (HM.of l).get z with
          | none => show PyData.str z = (Tr.h z).data; rw [Tr.data]
          | some u => rfl
        rw [ev]
        have hq' : q (A.d ((Tr.h z).inst (HM.of l).sub).data) n := hq
        rw [Tr.inst] at hq'
        exact hq'
      · have hs : (Tr.n f ps).size ≤ t.size := by
          have := preSize t _ hp
          omega
        rw [size_n] at hs
        have lp := lenSizes ps
        refine ⟨f, _, rfl, by rw [List.length_map, sizeLine_eq]; omega, hq _ ?_⟩
        show some (PyData.tuple (.str f :: ps.map fun u => (u.inst (HM.of l).sub).data)) = some ((Tr.n f ps).inst (HM.of l).sub).data
        rw [Tr.inst, Tr.data, datas_map, instsMap, List.map_map]
        rfl
    rcases h with rfl | rfl
    · refine seqI ?_
      walk_at "agos"
      refine .inr (.inl ?_)
      walk_at "agos"
      refine hold (aGoD_ind (fun rem acc k => k = n ∧ ∃ dn rm : List (Str × Tr), l = dn ++ rm ∧ rem = itemsD (HM.data rm) ∧ acc = (HM.of dn).data) (fun acc k hG => ?_) (fun x r acc k hG ih => ?_) _ _ _ ⟨rfl, [], l, rfl, rfl, rfl⟩)
      · obtain ⟨rfl, dn, rm, e1, e2, rfl⟩ := hG
        obtain rfl : rm = [] := by
          cases rm with
          | nil => rfl
          | cons p rm => rw [itemsOf] at e2; cases e2
        rw [List.append_nil] at e1
        subst e1
        walk_at "agos"
        exact fin l rfl
      · obtain ⟨rfl, dn, rm, e1, e2, rfl⟩ := hG
        cases rm with
        | nil => cases e2
        | cons p rm =>
          rw [itemsOf, List.map_cons] at e2
          injection e2 with e2 e3
          subst e2 e3
          have lo := ofLen dn
          have ll : dn.length + 1 ≤ l.length := by rw [e1, List.length_append, List.length_cons]; omega
          rw [aGoD]
          refine ⟨_, rfl, rfl, ?_⟩
          simp only [putTs, putT]
          walk_at "agos"
          refine ⟨by rw [show ((HM.of dn).data).length = (HM.of dn).length from List.length_map .., sizeLine_eq]; omega, ?_⟩
          refine ih _ _ ⟨rfl, dn ++ [p], rm, by rw [e1, List.append_assoc]; rfl, (itemsOf rm).symm, ?_⟩
          rw [putData]
          unfold HM.of
          rw [List.foldl_append]
          rfl
    · refine seqI ?_
      walk_at "agos"
      refine .inl ?_
      walk_at "agos"
      refine hold (aGoD_ind (fun rem acc k => k = n ∧ ∃ dn rm : List (Str × Tr), l = dn ++ rm ∧ rem = itemsD (HM.data rm) ∧ acc = (HM.of dn).data) (fun acc k hG => ?_) (fun x r acc k hG ih => ?_) _ _ _ ⟨rfl, [], l, rfl, rfl, rfl⟩)
      · obtain ⟨rfl, dn, rm, e1, e2, rfl⟩ := hG
        obtain rfl : rm = [] := by
          cases rm with
          | nil => rfl
          | cons p rm => rw [itemsOf] at e2; cases e2
        rw [List.append_nil] at e1
        subst e1
        walk_at "agos"
        exact fin l rfl
      · obtain ⟨rfl, dn, rm, e1, e2, rfl⟩ := hG
        cases rm with
        | nil => cases e2
        | cons p rm =>
          rw [itemsOf, List.map_cons] at e2
          injection e2 with e2 e3
          subst e2 e3
          have lo := ofLen dn
          have ll : dn.length + 1 ≤ l.length := by rw [e1, List.length_append, List.length_cons]; omega
          rw [aGoD]
          refine ⟨_, rfl, rfl, ?_⟩
          simp only [putTs, putT]
          walk_at "agos"
          refine ⟨by rw [show ((HM.of dn).data).length = (HM.of dn).length from List.length_map .., sizeLine_eq]; omega, ?_⟩
          refine ih _ _ ⟨rfl, dn ++ [p], rm, by rw [e1, List.append_assoc]; rfl, (itemsOf rm).symm, ?_⟩
          rw [putData]
          unfold HM.of
          rw [List.foldl_append]
          rfl
end
end Ah
namespace Ah
open PySem PySem.Spec PyProof.Rows L2
local macro_rules | `(tactic| walk_at "side") => `(tactic| first | omega | decide | (dsimp only; omega) | (unfold CDivN; omega) | (unfold CMul; omega) | (unfold CPow; omega) | (unfold CPow; decide) | (unfold CMulW; decide) | exact szLe rfl | rfl)
local macro_rules | `(tactic| walk_at "here") => `(tactic| first | assumption | exact upd_same)
local macro_rules | `(tactic| walk_at "go") => `(tactic| repeat (first
  | (refine ⟨_, rfl, ?_⟩)
  | (refine ⟨_, _, rfl, rfl, ?_⟩)
  | (refine ⟨_, _, _, _, rfl, rfl, SqL.of (by walk_at "here"), rfl, ?_⟩)
  | (refine ⟨_, _, _, _, rfl, rfl, (by walk_at "here"), rfl, ?_⟩)
  | (refine ⟨_, _, rfl, ?_⟩)
  | (refine And.intro (by walk_at "side") ?_)))
local macro_rules | `(tactic| walk_at "ab") => `(tactic| (try dsimp only [noxK]); repeat (first
  | with_reducible exact ab_var | with_reducible exact ab_int | with_reducible exact ab_str | with_reducible exact ab_bl | with_reducible exact ab_non | with_reducible exact ab_ty | with_reducible exact ab_nil | with_reducible exact ab_noPart | with_reducible exact ab_yes | with_reducible exact ab_dnew | with_reducible exact ab_xnew
  | with_reducible exact as_next | with_reducible exact as_retN | with_reducible exact as_break | with_reducible exact as_cont | with_reducible exact ab_gname | with_reducible exact ab_gnil
  | with_reducible exact oa_I0 | with_reducible exact oa_I | with_reducible exact oa_eq | with_reducible exact oa_ne | with_reducible exact oa_addQ | with_reducible exact oa_ixQ | with_reducible exact oa_eqD | with_reducible exact oa_neD | with_reducible exact oa_isTyB | with_reducible exact oa_notTyB | with_reducible exact oa_NT | with_reducible exact cb_sortD | with_reducible exact oa_isN | with_reducible exact oa_notN | with_reducible exact oa_mulQ | with_reducible exact oa_mulS | with_reducible exact oa_repT | with_reducible exact oa_inS | with_reducible exact oa_notInS | with_reducible exact oa_cat | with_reducible exact oa_catU
  | with_reducible exact cb_len | with_reducible exact cb_type | with_reducible exact cb_isi | with_reducible exact cb_repr | with_reducible exact cb_listOf | with_reducible exact cb_tupOf | with_reducible exact cb_max2 | with_reducible exact cb_minL | with_reducible exact cb_intB | with_reducible exact cb_all | with_reducible exact cb_any | with_reducible exact cb_listZip | with_reducible exact cb_listZipL | with_reducible exact cb_dictP | with_reducible exact oa_isB | with_reducible exact oa_notB | with_reducible exact cb_tupD | with_reducible exact cb_divmod | with_reducible exact oa_inD | with_reducible exact oa_notInD
  | with_reducible exact ma_join | with_reducible exact ma_find | with_reducible exact ma_count | with_reducible exact ma_split
  | with_reducible apply as_appTaken (by decide) | with_reducible apply as_ifSetd | with_reducible apply as_appPop | with_reducible apply as_update | with_reducible apply as_par3F | with_reducible apply as_asgT3 | with_reducible apply as_asgT2 | with_reducible apply as_frz | with_reducible apply as_setF | with_reducible apply as_parF | with_reducible apply as_seq | with_reducible apply as_if | with_reducible apply as_ret | with_reducible apply as_append | with_reducible apply as_extend | with_reducible apply as_pop | with_reducible apply as_popAt | with_reducible apply as_drop | with_reducible apply as_set | with_reducible apply as_par | with_reducible apply as_asg | with_reducible apply as_for | with_reducible apply as_while
  | with_reducible apply ab_gtup2 | with_reducible apply ab_gtup3 | with_reducible apply ab_gtup4 | with_reducible apply ab_gcons
  | with_reducible apply ab_cons | with_reducible apply ab_op | with_reducible apply ab_test | with_reducible apply ab_tB | with_reducible apply ab_and | with_reducible apply ab_or | with_reducible apply ab_not | with_reducible apply ab_andV | with_reducible apply ab_orV | with_reducible apply ab_notV | with_reducible apply ab_if
  | with_reducible apply ab_un | with_reducible apply ab_tup | with_reducible apply ab_lst | with_reducible apply ab_call | with_reducible apply ab_callK | with_reducible apply ab_cb | with_reducible apply ab_sl | with_reducible apply ab_part | with_reducible apply ab_backT | with_reducible apply ab_back0
  | with_reducible apply ab_lc | with_reducible apply ab_lenSetT | with_reducible apply ab_tupItems | with_reducible apply ab_stepT | with_reducible apply ab_sortItems | with_reducible apply ab_dc | with_reducible apply ab_listRg | with_reducible apply ab_star | with_reducible apply ab_starL | with_reducible apply ab_index | with_reducible apply ab_revL | with_reducible apply ab_callW | with_reducible apply ab_disp1 | with_reducible apply ab_dget1 | with_reducible apply ab_dget2 | with_reducible apply as_dput | with_reducible apply ab_chain | with_reducible apply ab_dget | with_reducible apply ab_din | with_reducible apply ab_dnotin | with_reducible apply ab_xin | with_reducible apply ab_xnotin | with_reducible apply ab_xget | with_reducible apply ab_xget1 | with_reducible apply as_xput
  | with_reducible apply ab_iany | with_reducible apply ab_ilist | with_reducible apply ab_itup | with_reducible apply ab_irng1 | with_reducible apply ab_irng2 | with_reducible apply ab_istr | with_reducible apply ab_ienum | with_reducible apply ab_ienumT
  | with_reducible apply ab_m1 | with_reducible apply ab_callLm | with_reducible apply ab_irev
  | with_reducible apply ab_tru
  | exact ab_keysAdd
  | (refine (show List.length _ = List.length _ from ?_); assumption)
  | rfl | (simp only [Tg.slots, tslots]; rfl)))
local macro_rules | `(tactic| walk_at "ago") => `(tactic| repeat (first
  | refine seqI ?_
  | refine ⟨_, rfl, szLe rfl, ?_⟩
  | refine ⟨_, rfl, ?_⟩
  | refine ⟨trivial, ?_⟩
  | refine ⟨_, _, rfl, rfl, ?_⟩
  | refine ⟨_, _, _, rfl, rfl, rfl, ?_⟩
  | refine ⟨_, _, _, rfl, (by decide), rfl, ?_⟩
  | refine ⟨_, _, _, _, rfl, rfl, rfl, rfl, rfl, ?_⟩
  | refine ⟨_, _, _, rfl, rfl, (by walk_at "side"), rfl, ?_⟩
  | refine ⟨_, _, rfl, rfl, (by walk_at "side"), ?_⟩
  | refine ⟨⟨_, rfl⟩, ?_⟩
  | refine ⟨rfl, ?_⟩))
local macro_rules | `(tactic| walk_at "agos") => `(tactic| repeat (first
  | refine ⟨_, rfl, szLe rfl, ?_⟩
  | refine ⟨_, rfl, ?_⟩
  | refine ⟨trivial, ?_⟩
  | refine ⟨_, _, rfl, rfl, ?_⟩
  | refine ⟨_, _, _, rfl, rfl, rfl, ?_⟩
  | refine ⟨_, _, _, rfl, (by decide), rfl, ?_⟩
  | refine ⟨_, _, _, _, rfl, rfl, rfl, rfl, rfl, ?_⟩
  | refine ⟨_, _, _, rfl, rfl, (by walk_at "side"), rfl, ?_⟩
  | refine ⟨_, _, rfl, rfl, (by walk_at "side"), ?_⟩
  | refine ⟨⟨_, rfl⟩, ?_⟩
  | refine ⟨rfl, ?_⟩))

abbrev s_holes_in : Stmt := topS 9
abbrev N_holes_in : List Str := ["tree", "found", "part"]
theorem sc_holes_in : FnScope N_holes_in ["tree"] (defScope s_holes_in) :=
  ⟨rfl, rfl, rfl, by decide +kernel, rfl, by decide +kernel, by decide +kernel⟩
theorem po_holes_in : Posi "holes_in" s_holes_in ["tree"] := fun _ _ _ _ _ _ us hl => match us, hl with | [_], _ => rfl

abbrev s_nth_name : Stmt := topS 13
abbrev N_nth_name : List Str := ["number", "name", "left", "at"]
theorem sc_nth_name : FnScope N_nth_name ["number"] (defScope s_nth_name) :=
  ⟨rfl, rfl, rfl, by decide +kernel, rfl, by decide +kernel, by decide +kernel⟩
theorem po_nth_name : Posi "nth_name" s_nth_name ["number"] := fun _ _ _ _ _ _ us hl => match us, hl with | [_], _ => rfl

abbrev s_renamed : Stmt := topS 14
abbrev N_renamed : List Str := ["tree", "number", "hole"]
theorem sc_renamed : FnScope N_renamed ["tree"] (defScope s_renamed) :=
  ⟨rfl, rfl, rfl, by decide +kernel, rfl, by decide +kernel, by decide +kernel⟩
theorem po_renamed : Posi "renamed" s_renamed ["tree"] := fun _ _ _ _ _ _ us hl => match us, hl with | [_], _ => rfl

/-! ## the holes of a tree, each once, as they first come -/
def insS (zs : List Str) (z : Str) : List Str := if z ∈ zs then zs else zs ++ [z]
def holeIn : List Tr → List Str → List Str
  | [], zs => zs
  | .h z :: r, zs => holeIn r (insS zs z)
  | .n _ _ :: r, zs => holeIn r zs
def Tr.holes (t : Tr) : List Str := holeIn t.pre []
theorem insNodup {zs : List Str} {z : Str} (h : zs.Nodup) : (insS zs z).Nodup := by
  unfold insS
  split
  · exact h
  · rename_i hz
    rw [List.nodup_append]
    exact ⟨h, by simp, fun a ha b hb e => by rw [List.mem_singleton.mp hb] at e; exact hz (e ▸ ha)⟩
theorem insLen (zs : List Str) (z : Str) : (insS zs z).length ≤ zs.length + 1 := by
  unfold insS
  split
  · omega
  · rw [List.length_append, List.length_singleton]; omega
theorem holeNodup : ∀ (l : List Tr) {zs : List Str}, zs.Nodup → (holeIn l zs).Nodup
  | [], _, h => h
  | .h z :: r, _, h => holeNodup r (insNodup h)
  | .n _ _ :: r, _, h => holeNodup r h
theorem holeMem : ∀ (l : List Tr) {zs : List Str} {z : Str}, z ∈ holeIn l zs ↔ z ∈ zs ∨ Tr.h z ∈ l
  | [], zs, z => by simp [holeIn]
  | .h y :: r, zs, z => by
    rw [holeIn, holeMem r]
    have : z ∈ insS zs y ↔ z ∈ zs ∨ z = y := by
      unfold insS
      split
      · rename_i hy
        exact ⟨.inl, fun q => q.elim id fun e => by rw [e]; exact hy⟩
      · rw [List.mem_append, List.mem_singleton]
    rw [this, List.mem_cons]
    constructor
    · rintro ((h | h) | h)
      · exact .inl h
      · exact .inr (.inl (by rw [h]))
      · exact .inr (.inr h)
    · rintro (h | h | h)
      · exact .inl (.inl h)
      · exact .inl (.inr (by injection h))
      · exact .inr h
  | .n f ps :: r, zs, z => by
    rw [holeIn, holeMem r, List.mem_cons]
    exact ⟨fun h => h.imp id .inr, fun h => h.imp id fun q => q.resolve_left (by intro z; cases z)⟩
theorem holeLen : ∀ (l : List Tr) (zs : List Str), (holeIn l zs).length ≤ zs.length + l.length
  | [], zs => Nat.le_refl _
  | .h y :: r, zs => by
    have := holeLen r (insS zs y)
    have := insLen zs y
    rw [holeIn, List.length_cons]; omega
  | .n f ps :: r, zs => by
    have := holeLen r zs
    rw [holeIn, List.length_cons]; omega
def keysK (zs : List Str) : KM := zs.map fun z => ((.inr z : Key), PyData.bool true)
theorem keysKPut (zs : List Str) (z : Str) : putM (keysK zs) (.inr z) (.bool true) = keysK (insS zs z) := by
  have ha : ((keysK zs).any fun p => decide (p.1 = (.inr z : Key))) = decide (z ∈ zs) := by
    unfold keysK
    rw [List.any_map]
    induction zs with
    | nil => rfl
    | cons y r ih =>
      rw [List.any_cons, ih]
      show (decide ((Sum.inr y : Key) = .inr z) || _) = _
      rw [← Bool.decide_or]
      refine decide_eq_decide.mpr ⟨fun h => ?_, fun h => ?_⟩
      · rcases h with h | h
        · injection h with h; rw [h]; exact List.mem_cons_self
        · exact List.mem_cons_of_mem _ h
      · rcases List.mem_cons.mp h with h | h
        · exact .inl (by rw [h])
        · exact .inr h
  unfold putM insS
  rw [ha]
  by_cases h : z ∈ zs
  · rw [decide_eq_true h, if_pos rfl, if_pos h]
    refine (List.map_congr_left fun p hp => ?_).trans (List.map_id _)
    obtain ⟨y, hy, rfl⟩ := List.mem_map.mp hp
    show (if (Sum.inr y : Key) = .inr z then _ else _) = _
    split
    · rfl
    · rfl
  · rw [decide_eq_false h, if_neg Bool.false_ne_true, if_neg h]
    unfold keysK
    rw [List.map_append]; rfl
def fHolesIn : FS := fun as n q => ∃ t : Tr, as = [.d t.data] ∧ t.size ≤ 5000 ∧ q (.d (.tuple (t.holes.map .str))) n
/-! ## names by numbers -/
def nthGo : Nat → Nat → Str → Str
  | 0, _, z => z
  | _ + 1, 0, z => z
  | f + 1, l + 1, z => nthGo f (l / 26) (⟨#[97 + l % 26]⟩ ++ z)
def nthName (k : Nat) : Str := nthGo (k + 2) (k + 1) ""
def fNth : FS := fun as n q => ∃ k : Nat, as = [.d (.int (k : Int))] ∧ k ≤ 6000 ∧ q (.d (.str (nthName k))) n
/-- what stands for a hole, renamed -/
def renL (t : Tr) : List (Str × Tr) := t.holes.zipIdx.map fun p => (p.1, Tr.h (nthName p.2))
def Tr.ren (t : Tr) : Tr := t.inst (HM.of (renL t)).sub
def fRen : FS := fun as n q => ∃ t : Tr, as = [.d t.data] ∧ t.size ≤ 5000 ∧ q (.d t.ren.data) n
theorem alphaAt {i : Nat} (h : i < 26) : AB.cps.toList[i]? = some (97 + i) := by
  have : ∀ j : Fin 26, AB.cps.toList[j.val]? = some (97 + j.val) := by decide +kernel
  exact this ⟨i, h⟩
section
variable {P : Program} {w : World} {K : PySem.W.Frag} {mg : Str → Option Value} {base : Heap} {tb : TBs}
theorem a_holes_in (T : At K mg "holes_in" s_holes_in) (d_trees_in : Has P w K mg base 3 "trees_in" s_trees_in ["tree"] (spA (lw K tb) fTreesIn)) (d_is_hole : Has P w K mg base 1 "is_hole" s_is_hole ["tree"] (spA (lw K tb) fIsHole')) (mb_tuple : mg "tuple" = none) :
    Has P w K mg base 4 "holes_in" s_holes_in ["tree"] (spA (lw K tb) fHolesIn) := by
  refine T.hasA sc_holes_in po_holes_in (fun as n q h => by obtain ⟨t, rfl, _⟩ := h; rfl) (fun f cdv Ar outer s H E hr => ?_)
  have nd := sc_holes_in.nd
  refine' bodyA (fun as n q h => by obtain ⟨t, rfl, _⟩ := h; show 1 ≤ 3; decide) (pss_cons (ps_set (i := 1) nd rfl (Or.inl rfl) pe_dnewK)
      (pss_cons (ps_for PassesOwn.never rfl (pi_any (pe_callD d_trees_in (by omega) hr (pa_cons (pv 0) pa_nil))) (pg_name (i := 2) nd rfl (.inl rfl)) (pss_one (ps_if (pt_val (pe_callD d_is_hole (by omega) hr (pa_cons (pv 2) pa_nil))) (pss_one (ps_dput (u1 hr.units) (pv 1) (pv 2) pe_bl (by rfl))) pss_nil)))
      (pss_one (ps_ret (pe_callTy (call_tupleD rfl) (by rfl) mb_tuple (by decide +kernel) (pa_cons (pv 1) pa_nil)))))) ?ab ?go
  case ab => walk_at "ab"
  case go =>
    rintro as n q ⟨t, rfl, h1, hq⟩
    refine seqI ?_
    walk_at "agos"
    refine seqI ?_
    refine .inl ?_
    walk_at "agos"
    refine ⟨h1, ?_⟩
    walk_at "agos"
    refine hold (aLoop_ind (fun rem e k => k = n ∧ ∃ (dn rm : List Tr) (x2 : Option A), t.pre = dn ++ rm ∧ rem = datas rm ∧ e = [some (.d t.data), some (.od (kvD (keysK (holeIn dn [])))), x2]) (fun e k hG => ?_) (fun x r e k hG ih => ?_) _ _ _ ⟨rfl, [], t.pre, none, rfl, rfl, rfl⟩)
    · obtain ⟨rfl, dn, rm, x2, e1, e2, rfl⟩ := hG
      obtain rfl : rm = [] := by cases rm with | nil => rfl | cons a b => rw [datas] at e2; cases e2
      rw [List.append_nil] at e1
      walk_at "agos"
      have ek : ((keysK (holeIn dn [])).map fun p => kD p.1) = t.holes.map .str := by
        unfold keysK Tr.holes
        rw [List.map_map, e1]
        rfl
      rw [ek]
      exact hq
    · obtain ⟨rfl, dn, rm, x2, e1, e2, rfl⟩ := hG
      cases rm with
      | nil => rw [datas] at e2; cases e2
      | cons u rm =>
        rw [datas] at e2
        injection e2 with e2 e3
        subst e2 e3
        have happ : ∀ (l : List Tr) (u : Tr) (zs : List Str), holeIn (l ++ [u]) zs = holeIn [u] (holeIn l zs) := by
          intro l
          induction l with
          | nil => intro u zs; rfl
          | cons a b ih =>
            intro u zs
            cases a with
            | h y => exact ih u _
            | n f ps => exact ih u _
        have ld : dn.length + 1 ≤ 5000 := by
          have := congrArg List.length e1
          rw [List.length_append, List.length_cons] at this
          have : t.pre.length = t.size := rfl
          omega
        have e4 : t.pre = (dn ++ [u]) ++ rm := by rw [e1, List.append_assoc]; rfl
        rw [aLoop]
        walk_at "agos"
        cases u with
        | h z =>
          refine ifT rfl ?_
          walk_at "agos"
          refine ⟨.bool true, .str z, .inr z, keysK (holeIn dn []), rfl, by rw [Tr.data], rfl, rfl, ?_, ?_⟩
          · have := holeLen dn []
            rw [show (keysK (holeIn dn [])).length = (holeIn dn []).length from List.length_map .., sizeLine_eq]
            rw [List.length_nil] at this
            omega
          · refine ih _ _ ⟨rfl, dn ++ [.h z], rm, some (.d (Tr.h z).data), e4, rfl, ?_⟩
            rw [keysKPut, happ]
            rfl
        | n f ps =>
          refine ifF rfl ?_
          refine ih _ _ ⟨rfl, dn ++ [.n f ps], rm, some (.d (Tr.n f ps).data), e4, rfl, ?_⟩
          rw [happ]
          rfl
theorem a_nth_name (T : At K mg "nth_name" s_nth_name) (mb_divmod : mg "divmod" = none) (mb_len : mg "len" = none) (mc_LETTERS : ∃ u, mg "LETTERS" = some u ∧ RelV (.str AB) u) :
    Has P w K mg base 1 "nth_name" s_nth_name ["number"] (spA (lw K tb) fNth) := by
  refine T.hasA sc_nth_name po_nth_name (fun as n q h => by obtain ⟨t, rfl, _⟩ := h; rfl) (fun f cdv Ar outer s H E hr => ?_)
  have nd := sc_nth_name.nd
  refine' bodyA (fun as n q h => by obtain ⟨t, rfl, _⟩ := h; show 1 ≤ 4; decide) (pss_cons (ps_setF (i := 1) nd rfl (Or.inl rfl) pe_str)
      (pss_cons (ps_setF (i := 2) nd rfl (Or.inl rfl) (pe_op (addQ K) (pv 0) pe_int))
      (pss_cons (ps_while PassesOwn.never (pt_cmpR op_gt (pv 2) pe_int (nomark _)) (pss_cons (ps_asg (pe_callB call_divmod (by rfl) mb_divmod (by decide +kernel) (pa_cons (pe_op op_sub (pv 2) pe_int) (pa_cons (pe_callB (lenQ K) (by rfl) mb_len (by decide +kernel) (pa_cons (pe_const (by rfl) mc_LETTERS) pa_nil)) pa_nil))) (pgTup K 2 rfl (pgs_cons (pg_name (i := 2) nd rfl (.inl rfl)) (pgs_cons (pg_name (i := 3) nd rfl (.inl rfl)) pgs_nil))))
      (pss_one (ps_setF (i := 1) nd rfl (Or.inl rfl) (pe_op (addQ K) (pe_ix (ixQ K) (pe_const (by rfl) mc_LETTERS) (pv 3) (fun _ _ => rfl)) (pv 1))))))
      (pss_one (ps_ret (pv 1)))))) ?ab ?go
  case ab => walk_at "ab"
  case go =>
    rintro as n q ⟨k0, rfl, h1, hq⟩
    refine seqI ?_
    walk_at "agos"
    refine envTo (e' := [some (.d (.int (k0 : Int))), some (.d (.str "")), none, none]) rfl ?_
    refine seqI ?_
    walk_at "agos"
    refine envTo (e' := [some (.d (.int (k0 : Int))), some (.d (.str "")), some (.d (.int ((k0 + 1 : Nat) : Int))), none]) rfl ?_
    refine seqI ?_
    have z0 : ("" : Str).length = 0 := by decide
    refine ⟨k0 + 2, aIter_ind (fun j e k => k = n ∧ ∃ (l : Nat) (z : Str) (x3 : Option A), e = [some (.d (.int (k0 : Int))), some (.d (.str z)), some (.d (.int (l : Int))), x3] ∧ l < j ∧ z.length + j ≤ k0 + 2 ∧ nthGo j l z = nthName k0) (fun e k hG => ?_) (fun j e k hG ih => ?_) _ _ _ ⟨rfl, k0 + 1, "", none, rfl, by omega, by omega, rfl⟩⟩
    · obtain ⟨_, l, z, x3, _, h, _⟩ := hG
      omega
    · obtain ⟨rfl, l, z, x3, rfl, g1, g2, g3⟩ := hG
      walk_at "agos"
      cases l with
      | zero =>
        refine iff_d (fun h => absurd h (by decide)) (fun _ => ?_)
        walk_at "agos"
        rw [nthGo] at g3
        rw [g3]
        exact hq
      | succ l =>
        refine iff_d (fun _ => ?_) (fun h => (h (by omega)).elim)
        refine seqI ?_
        walk_at "agos"
        have hab : AB.length = 26 := by decide +kernel
        refine ⟨fun z h => (by cases h; rw [hab]; decide), ?_⟩
        rw [hab]
        walk_at "agos"
        have e1 : (((l + 1 : Nat) : Int) - 1) = (l : Int) := by omega
        rw [e1]
        have e2 : (l : Int) / ((26 : Nat) : Int) = ((l / 26 : Nat) : Int) := by omega
        have e3 : (l : Int) % ((26 : Nat) : Int) = ((l % 26 : Nat) : Int) := by omega
        refine ⟨(l : Int), ((26 : Nat) : Int), rfl, ⟨by decide, by decide⟩, ?_⟩
        rw [e2, e3]
        refine ⟨_, rfl, ?_⟩
        refine ⟨_, rfl, rfl, ?_⟩
        simp only [putTs, putT]
        walk_at "agos"
        refine ⟨by rw [hab]; decide, 97 + l % 26, atI_nat (alphaAt (by omega)), ?_⟩
        walk_at "agos"
        have l1 : (⟨#[97 + l % 26]⟩ : Str).length = 1 := rfl
        refine ⟨by rw [l1, sizeLine_eq]; omega, ?_⟩
        rw [nthGo] at g3
        refine ⟨trivial, ?_⟩
        refine envTo (e' := [some (.d (.int (k0 : Int))), some (.d (.str (⟨#[97 + l % 26]⟩ ++ z))), some (.d (.int ((l / 26 : Nat) : Int))), some (.d (.int ((l % 26 : Nat) : Int)))]) rfl ?_
        refine ih _ _ ⟨rfl, l / 26, ⟨#[97 + l % 26]⟩ ++ z, some (.d (.int ((l % 26 : Nat) : Int))), rfl, by omega, by rw [Str.length_append, l1]; omega, g3⟩
theorem a_renamed (T : At K mg "renamed" s_renamed) (d_put_for : Has P w K mg base 6 "put_for" s_put_for ["tree", "by"] (spA (lw K tb) fPutFor)) (d_holes_in : Has P w K mg base 4 "holes_in" s_holes_in ["tree"] (spA (lw K tb) fHolesIn))
    (d_nth_name : Has P w K mg base 1 "nth_name" s_nth_name ["number"] (spA (lw K tb) fNth)) (mb_enumerate : mg "enumerate" = none) :
    Has P w K mg base 7 "renamed" s_renamed ["tree"] (spA (lw K tb) fRen) := by
  refine T.hasA sc_renamed po_renamed (fun as n q h => by obtain ⟨t, rfl, _⟩ := h; rfl) (fun f cdv Ar outer s H E hr => ?_)
  have nd := sc_renamed.nd
  refine' bodyA (fun as n q h => by obtain ⟨t, rfl, _⟩ := h; show 1 ≤ 3; decide) (pss_one (ps_ret (pe_callD d_put_for (by omega) hr (pa_cons (pv 0) (pa_cons (pe_lc (own := [("number", 1), ("hole", 2)]) (by rfl) nd (pi_enumT (by rfl) mb_enumerate (pa_cons (pe_callD d_holes_in (by omega) hr (pa_cons (pv 0) pa_nil)) pa_nil)) (blkOk_by (own := [("number", 1), ("hole", 2)]) (N := N_renamed) (sc := defScope s_renamed) (by decide +kernel)) (fun _ _ _ _ _ => (pgTup K 2 rfl (pgs_cons (pg_name (i := 1) nd rfl (.inl rfl)) (pgs_cons (pg_name (i := 2) nd rfl (.inl rfl)) pgs_nil)))) (fun _ _ _ _ _ => pts_nil) (fun _ _ _ _ _ => (pe_tup (pa_cons (pv 2) (pa_cons (pe_callD d_nth_name (by omega) hr (pa_cons (pv 1) pa_nil)) pa_nil))))) pa_nil))))) ?ab ?go
  case ab => walk_at "ab"
  case go =>
    rintro as n q ⟨t, rfl, h1, hq⟩
    walk_at "agos"
    refine ⟨h1, ?_⟩
    walk_at "agos"
    have lh : t.holes.length ≤ 5000 := by
      have := holeLen t.pre []
      have : t.pre.length = t.size := rfl
      unfold Tr.holes
      rw [List.length_nil] at *
      omega
    have ez : ((t.holes.map PyData.str).zipIdx.map fun p : PyData × Nat => PyData.tuple [.int ((p.2 : Nat) : Int), p.1]) = t.holes.zipIdx.map fun p => PyData.tuple [.int ((p.2 : Nat) : Int), .str p.1] := by
      rw [List.zipIdx_map, List.map_map]
      rfl
    rw [ez]
    have lz : t.holes.zipIdx.length = t.holes.length := List.length_zipIdx
    have hz : ∀ p ∈ t.holes.zipIdx, p.2 < 5000 := fun p hp => by
      have := List.snd_lt_of_mem_zipIdx hp
      omega
    unfold fRen at *
    have hq' : q (.d (t.inst (HM.of (t.holes.zipIdx.map fun p => (p.1, Tr.h (nthName p.2)))).sub).data) n := hq
    generalize t.holes.zipIdx = L0 at lz hz hq'
    refine hold (aGoY_ind (fun rem acc k => k = n ∧ ∃ dn rm : List (Str × Nat), L0 = dn ++ rm ∧ rem = rm.map (fun p => PyData.tuple [.int ((p.2 : Nat) : Int), .str p.1]) ∧ acc = itemsD (HM.data (dn.map fun p => (p.1, Tr.h (nthName p.2))))) (fun acc k hG => ?_) (fun x r acc k hG ih => ?_) _ _ _ ⟨rfl, [], L0, rfl, rfl, rfl⟩)
    · obtain ⟨rfl, dn, rm, e1, e2, rfl⟩ := hG
      obtain rfl : rm = [] := List.map_eq_nil_iff.mp e2.symm
      rw [List.append_nil] at e1
      subst e1
      walk_at "agos"
      refine ⟨t, L0.map fun p => (p.1, Tr.h (nthName p.2)), .inr rfl, h1, by rw [List.length_map]; omega, ?_⟩
      exact ⟨trivial, hq'⟩
    · obtain ⟨rfl, dn, rm, e1, e2, rfl⟩ := hG
      obtain ⟨p, rm, rfl⟩ : ∃ p rm', rm = p :: rm' := by
        cases rm with
        | nil => cases e2
        | cons p rm => exact ⟨p, rm, rfl⟩
      rw [List.map_cons] at e2
      injection e2 with e2 e3
      subst e2 e3
      have ld : dn.length + 1 ≤ L0.length := by rw [e1, List.length_append, List.length_cons]; omega
      have hp := hz p (by rw [e1]; simp)
      refine ⟨_, rfl, rfl, ?_⟩
      simp only [putTs, putT]
      walk_at "agos"
      refine ⟨by omega, ?_⟩
      walk_at "agos"
      have il : (itemsD (HM.data (dn.map fun p => (p.1, Tr.h (nthName p.2))))).length = dn.length := by rw [itemsOf, List.length_map, List.length_map]
      refine ⟨by rw [il, sizeLine_eq]; omega, ih _ _ ⟨rfl, dn ++ [p], rm, by rw [e1, List.append_assoc]; rfl, rfl, ?_⟩⟩
      rw [itemsOf, itemsOf, List.map_append, List.map_append]
      show _ = _ ++ [PyData.tuple [.str p.1, (Tr.h (nthName p.2)).data]]
      rw [Tr.data]
end
end Ah
namespace Ah
open PySem PySem.Spec PyProof.Rows L2
/-! ## what comes of what, told of trees -/
def Comes (a b : Tr) : Prop := ∃ s : Str → Tr, b.inst s = a
theorem matchComes (b a : Tr) : (matchGo (b.size + 1) [(b, a)] []).isSome = true ↔ Comes a b := by
  rw [matchFits _ _ _ (by simp [turns]) (fun p hp => by cases hp)]
  constructor
  · rintro ⟨s, _, h⟩
    exact ⟨s, h (b, a) (by simp)⟩
  · rintro ⟨s, h⟩
    exact ⟨s, fun p hp => (by cases hp), fun p hp => (by rw [List.mem_singleton.mp hp]; exact h)⟩
mutual
theorem instInst (s r : Str → Tr) : ∀ t : Tr, (t.inst s).inst r = t.inst fun z => (s z).inst r
  | .h z => rfl
  | .n f ps => by rw [Tr.inst, Tr.inst, Tr.inst, instsInsts s r ps]
theorem instsInsts (s r : Str → Tr) : ∀ ts : List Tr, insts r (insts s ts) = insts (fun z => (s z).inst r) ts
  | [] => rfl
  | t :: ts => by rw [insts, insts, insts, instInst s r t, instsInsts s r ts]
end
mutual
theorem instCongr {s r : Str → Tr} : ∀ t : Tr, (∀ z, Tr.h z ∈ t.pre → s z = r z) → t.inst s = t.inst r
  | .h z, h => by rw [Tr.inst, Tr.inst]; exact h z List.mem_cons_self
  | .n f ps, h => by rw [Tr.inst, Tr.inst, instsCongr ps fun z hz => h z (List.mem_cons_of_mem _ hz)]
theorem instsCongr {s r : Str → Tr} : ∀ ts : List Tr, (∀ z, Tr.h z ∈ pres ts → s z = r z) → insts s ts = insts r ts
  | [], _ => rfl
  | t :: ts, h => by
    rw [insts, insts, instCongr t fun z hz => h z (by rw [pres_cons]; exact List.mem_append_left _ hz), instsCongr ts fun z hz => h z (by rw [pres_cons]; exact List.mem_append_right _ hz)]
end
mutual
theorem instInj {s r : Str → Tr} : ∀ t : Tr, t.inst s = t.inst r → ∀ z, Tr.h z ∈ t.pre → s z = r z
  | .h y, h, z, hz => by
    have e := List.mem_singleton.mp hz
    injection e with e
    rw [e]
    exact h
  | .n f ps, h, z, hz => by
    rw [Tr.inst, Tr.inst] at h
    injection h with _ h
    rcases List.mem_cons.mp hz with e | hz
    · cases e
    · exact instsInj ps h z hz
theorem instsInj {s r : Str → Tr} : ∀ ts : List Tr, insts s ts = insts r ts → ∀ z, Tr.h z ∈ pres ts → s z = r z
  | [], _, z, hz => by cases hz
  | t :: ts, h, z, hz => by
    rw [insts, insts] at h
    injection h with h1 h2
    rw [pres_cons] at hz
    rcases List.mem_append.mp hz with hz | hz
    · exact instInj t h1 z hz
    · exact instsInj ts h2 z hz
end
theorem Comes.trans {a b c : Tr} (h1 : Comes a b) (h2 : Comes b c) : Comes a c := by
  obtain ⟨s, rfl⟩ := h1
  obtain ⟨r, rfl⟩ := h2
  exact ⟨_, (instInst r s c).symm⟩
theorem Comes.inst (t : Tr) (s : Str → Tr) : Comes (t.inst s) t := ⟨s, rfl⟩
theorem holesMem' {t : Tr} {z : Str} : z ∈ t.holes ↔ Tr.h z ∈ t.pre := by
  unfold Tr.holes
  rw [holeMem]
  simp
/-! ## words that nobody heard in the places of holes -/
mutual
def Tr.bk (g : Str → Option Str) : Tr → Tr
  | .h z => .h z
  | .n f ps => match g f with
    | some z => .h z
    | none => .n f (bks g ps)
def bks (g : Str → Option Str) : List Tr → List Tr
  | [] => []
  | t :: r => t.bk g :: bks g r
end
mutual
theorem bkInst {g : Str → Option Str} {s : Str → Tr} : ∀ t : Tr, (∀ f ps, Tr.n f ps ∈ t.pre → g f = none) → (t.inst s).bk g = t.inst fun z => (s z).bk g
  | .h z, _ => rfl
  | .n f ps, h => by
    rw [Tr.inst, Tr.inst, Tr.bk, h f ps List.mem_cons_self]
    dsimp only
    rw [bksInsts ps fun f' ps' hm => h f' ps' (List.mem_cons_of_mem _ hm)]
theorem bksInsts {g : Str → Option Str} {s : Str → Tr} : ∀ ts : List Tr, (∀ f ps, Tr.n f ps ∈ pres ts → g f = none) → bks g (insts s ts) = insts (fun z => (s z).bk g) ts
  | [], _ => rfl
  | t :: r, h => by
    rw [insts, insts, bks, bkInst t fun f ps hm => h f ps (by rw [pres_cons]; exact List.mem_append_left _ hm), bksInsts r fun f ps hm => h f ps (by rw [pres_cons]; exact List.mem_append_right _ hm)]
end
/-- a form of a head by unheard words comes of what the head comes of -/
theorem unheardComes {one other : Tr} {F : Str → Str} (h1 : ∀ f ps, Tr.n f ps ∈ one.pre → ∀ z ∈ one.holes, F z ≠ f) (h2 : ∀ f ps, Tr.n f ps ∈ other.pre → ∀ z ∈ one.holes, F z ≠ f) (hi : ∀ z ∈ one.holes, ∀ y ∈ one.holes, F z = F y → z = y) :
    Comes (one.inst fun z => .n (F z) []) other ↔ Comes one other := by
  constructor
  · rintro ⟨s, hs⟩
    let g : Str → Option Str := fun f => one.holes.find? fun z => decide (F z = f)
    have gn : ∀ f, (∀ z ∈ one.holes, F z ≠ f) → g f = none := fun f h => List.find?_eq_none.mpr fun z hz => by simpa using h z hz
    have e := congrArg (Tr.bk g) hs
    rw [bkInst other fun f ps hm => gn f (h2 f ps hm), bkInst one fun f ps hm => gn f (h1 f ps hm)] at e
    refine ⟨_, e.trans ?_⟩
    have : one.inst (fun z => (Tr.n (F z) []).bk g) = one.inst Tr.h := instCongr one fun z hz => by
      have hz' := holesMem'.mpr hz
      have hg : g (F z) = some z := by
        cases hf : g (F z) with
        | none =>
          have := List.find?_eq_none.mp hf z hz'
          simp at this
        | some y =>
          have m1 := List.mem_of_find?_eq_some hf
          have m2 := List.find?_some hf
          rw [hi y m1 z hz' (of_decide_eq_true m2)]
      rw [Tr.bk, hg]
    rw [this, instId]
  · intro h
    exact (Comes.inst one _).trans h
/-! ## like trees -/
theorem getIdx {α : Type} (F : Nat → α) : ∀ (zs : List Str) (k : Nat) {z : Str}, z ∈ zs → ((zs.zipIdx k).map fun p => (p.1, F p.2)).find? (fun p => decide (p.1 = z)) = some (z, F (k + zs.idxOf z))
  | [], _, _, h => by cases h
  | y :: r, k, z, h => by
    rw [List.zipIdx_cons, List.map_cons, List.find?_cons]
    by_cases e : y = z
    · subst e
      simp
    · have hz : z ∈ r := by
        rcases List.mem_cons.mp h with h | h
        · exact (e h.symm).elim
        · exact h
      have : decide (y = z) = false := decide_eq_false e
      simp only [this]
      rw [getIdx F r (k + 1) hz, List.idxOf_cons]
      have hb : (y == z) = false := by simpa using e
      rw [hb]
      simp only [cond_false]
      rw [show k + 1 + r.idxOf z = k + (r.idxOf z + 1) by omega]
theorem getPut (m : HM) (z y : Str) (t : Tr) : (m.put z t).get y = if y = z then some t else m.get y := by
  unfold HM.put
  cases hg : m.get z with
  | none =>
    rw [Option.isSome_none, if_neg Bool.false_ne_true]
    unfold HM.get at hg ⊢
    rw [List.find?_append]
    by_cases e : y = z
    · subst e
      rw [if_pos rfl, Option.map_eq_none_iff.mp hg]
      simp
    · rw [if_neg e]
      cases m.find? (fun p => decide (p.1 = y)) with
      | some p => rfl
      | none => simp; exact fun q => e q.symm
  | some u =>
    rw [Option.isSome_some, if_pos rfl]
    unfold HM.get at hg ⊢
    rw [List.find?_map]
    have ek : ((fun p : Str × Tr => decide (p.1 = y)) ∘ fun p => if p.1 = z then (p.1, t) else p) = fun p => decide (p.1 = y) := by
      funext p
      show decide ((if p.1 = z then (p.1, t) else p).1 = y) = _
      split <;> rfl
    rw [ek]
    by_cases e : y = z
    · subst e
      rw [if_pos rfl]
      cases hf : m.find? (fun p => decide (p.1 = y)) with
      | none => rw [hf] at hg; cases hg
      | some p =>
        have : p.1 = y := by have := List.find?_some (p := fun p : Str × Tr => decide (p.1 = y)) hf; exact of_decide_eq_true this
        simp [this]
    · rw [if_neg e]
      cases hf : m.find? (fun p => decide (p.1 = y)) with
      | none => rfl
      | some p =>
        have : p.1 = y := by have := List.find?_some (p := fun p : Str × Tr => decide (p.1 = y)) hf; exact of_decide_eq_true this
        simp [this, e]
theorem getNil (z : Str) : HM.get [] z = none := rfl
/-- pairs that tell each hole one tree -/
theorem ofGet {l : List (Str × Tr)} {φ : Str → Option Tr} (h : ∀ p ∈ l, φ p.1 = some p.2) (z : Str) (hz : z ∈ l.map (·.1)) : (HM.of l).get z = φ z := by
  unfold HM.of
  have key : ∀ (l : List (Str × Tr)) (m : HM), (∀ p ∈ l, φ p.1 = some p.2) → (z ∈ l.map (·.1) ∨ m.get z = φ z) → (l.foldl (fun acc p => acc.put p.1 p.2) m : HM).get z = φ z := by
    intro l
    induction l with
    | nil => intro m _ h; exact h.resolve_left (by simp)
    | cons p r ih =>
      intro m hl hz
      rw [List.foldl_cons]
      refine ih _ (fun q hq => hl q (List.mem_cons_of_mem _ hq)) ?_
      rw [getPut]
      by_cases e : z = p.1
      · rw [if_pos e, e]; exact .inr (hl p List.mem_cons_self).symm
      · rw [if_neg e]
        refine hz.imp (fun h => ?_) id
        rw [List.map_cons] at h
        exact (List.mem_cons.mp h).resolve_left e
  exact key l [] h (.inl hz)
theorem idxSub {zs : List Str} (F : Nat → Tr) {z : Str} (hn : zs.Nodup) (hz : z ∈ zs) : (HM.of (zs.zipIdx.map fun p => (p.1, F p.2))).sub z = F (zs.idxOf z) := by
  have e : (HM.of (zs.zipIdx.map fun p => (p.1, F p.2))).get z = some (F (zs.idxOf z)) := by
    refine ofGet (φ := fun z => some (F (zs.idxOf z))) (fun p hp => ?_) z ?_
    · obtain ⟨q, hq, rfl⟩ := List.mem_map.mp hp
      obtain ⟨h1, h2⟩ := List.mem_zipIdx' hq
      show some (F (zs.idxOf q.1)) = some (F q.2)
      have hi : zs[q.2]'h1 = q.1 := h2.symm
      rw [← hi, List.Nodup.idxOf_getElem hn]
    · rw [List.map_map]
      have : ((fun x : Str × Tr => x.1) ∘ fun p : Str × Nat => (p.1, F p.2)) = Prod.fst := rfl
      rw [this, List.zipIdx_map_fst]
      exact hz
  unfold HM.sub
  rw [e]
  rfl
theorem renIdx (t : Tr) : t.ren = t.inst fun z => .h (nthName (t.holes.idxOf z)) := by
  unfold Tr.ren renL
  exact instCongr t fun z hz => idxSub (fun i => Tr.h (nthName i)) (holeNodup t.pre List.nodup_nil) (holesMem'.mpr hz)
theorem nthInj : ∀ i j, i < 64 → j < 64 → nthName i = nthName j → i = j := by
  have : ∀ i j : Fin 64, nthName i.val = nthName j.val → i = j := by decide +kernel
  intro i j hi hj h
  exact congrArg Fin.val (this ⟨i, hi⟩ ⟨j, hj⟩ h)
mutual
theorem preInstH (s : Str → Str) : ∀ t : Tr, (t.inst fun z => .h (s z)).pre = t.pre.map (Tr.inst fun z => .h (s z))
  | .h z => rfl
  | .n f ps => by
    show (Tr.n f (insts _ ps)).pre = (Tr.n f ps :: pres ps).map _
    rw [List.map_cons, Tr.inst, ← presInstH s ps]
    rfl
theorem presInstH (s : Str → Str) : ∀ ts : List Tr, pres (insts (fun z => .h (s z)) ts) = (pres ts).map (Tr.inst fun z => .h (s z))
  | [] => rfl
  | t :: r => by rw [insts, pres_cons, pres_cons, List.map_append, preInstH s t, presInstH s r]
end
/-- put back where the other one's holes are -/
theorem likeIff {one other : Tr} (h1 : one.holes.length ≤ 64) (h2 : other.holes.length ≤ 64) : (Comes one other ∧ Comes other one) ↔ one.ren = other.ren := by
  constructor
  · rintro ⟨⟨r, hr⟩, ⟨s, hs⟩⟩
    -- other.inst r = one, one.inst s = other
    have back : ∀ z, Tr.h z ∈ one.pre → ∃ y, s z = .h y ∧ r y = .h z := fun z hz => by
      have e : one.inst (fun z => (s z).inst r) = one.inst Tr.h := by rw [← instInst, hs, hr, instId]
      have := instInj one e z hz
      cases hsz : s z with
      | h y => rw [hsz, Tr.inst] at this; exact ⟨y, rfl, this⟩
      | n f ps => rw [hsz, Tr.inst] at this; cases this
    let s' : Str → Str := fun z => match s z with
      | .h y => y
      | .n _ _ => z
    have hs' : ∀ z ∈ one.holes, s z = .h (s' z) ∧ r (s' z) = .h z := fun z hz => by
      obtain ⟨y, e1, e2⟩ := back z (holesMem'.mp hz)
      have : s' z = y := by show (match s z with | .h y => y | .n _ _ => z) = y; rw [e1]
      rw [this]; exact ⟨e1, e2⟩
    have inj : ∀ z ∈ one.holes, ∀ y ∈ one.holes, s' z = s' y → z = y := fun z hz y hy e => by
      have a := (hs' z hz).2
      have b := (hs' y hy).2
      rw [e, b] at a
      injection a with a
      exact a.symm
    have eo : other = one.inst fun z => .h (s' z) := by
      rw [← hs]
      exact instCongr one fun z hz => (hs' z (holesMem'.mpr hz)).1
    have mapIn : ∀ (l : List Tr) (zs : List Str), (∀ z, (z ∈ zs ∨ Tr.h z ∈ l) → z ∈ one.holes) → holeIn (l.map (Tr.inst fun z => .h (s' z))) (zs.map s') = (holeIn l zs).map s' := by
      intro l
      induction l with
      | nil => intro zs _; rfl
      | cons u l ih =>
        intro zs hz
        cases u with
        | h y =>
          rw [List.map_cons, Tr.inst, holeIn, holeIn]
          have hy := hz y (.inr List.mem_cons_self)
          have e : insS (zs.map s') (s' y) = (insS zs y).map s' := by
            unfold insS
            by_cases h : y ∈ zs
            · rw [if_pos (List.mem_map.mpr ⟨y, h, rfl⟩), if_pos h]
            · rw [if_neg h, if_neg, List.map_append]; rfl
              intro hm
              obtain ⟨x, hx, e⟩ := List.mem_map.mp hm
              exact h (inj x (hz x (.inl hx)) y hy e ▸ hx)
          rw [e]
          refine ih _ fun z h => hz z ?_
          rcases h with h | h
          · unfold insS at h
            split at h
            · exact .inl h
            · rcases List.mem_append.mp h with h | h
              · exact .inl h
              · rw [List.mem_singleton.mp h]; exact .inr List.mem_cons_self
          · exact .inr (List.mem_cons_of_mem _ h)
        | n f ps =>
          rw [List.map_cons, Tr.inst, holeIn, holeIn]
          exact ih _ fun z h => hz z (h.imp id (List.mem_cons_of_mem _))
    have eh : other.holes = one.holes.map s' := by
      rw [eo]
      unfold Tr.holes
      have ep : (one.inst fun z => .h (s' z)).pre = one.pre.map (Tr.inst fun z => .h (s' z)) := preInstH s' one
      rw [ep]
      exact mapIn one.pre [] fun z h => holesMem'.mpr (h.resolve_left (by simp))
    have ix : ∀ z ∈ one.holes, other.holes.idxOf (s' z) = one.holes.idxOf z := fun z hz => by
      rw [eh]
      have : ∀ (l : List Str), (∀ y ∈ l, y ∈ one.holes) → (l.map s').idxOf (s' z) = l.idxOf z := by
        intro l
        induction l with
        | nil => intro _; rfl
        | cons y l ih =>
          intro hl
          rw [List.map_cons, List.idxOf_cons, List.idxOf_cons, ih fun x hx => hl x (List.mem_cons_of_mem _ hx)]
          have : (s' y == s' z) = (y == z) := by
            by_cases e : y = z
            · subst e; simp
            · rw [beq_eq_false_iff_ne.mpr e, beq_eq_false_iff_ne.mpr fun q => e (inj y (hl y List.mem_cons_self) z hz q)]
          rw [this]
      exact this _ fun y hy => hy
    rw [renIdx, renIdx]
    have : other.inst (fun z => .h (nthName (other.holes.idxOf z))) = one.inst fun z => .h (nthName (other.holes.idxOf (s' z))) := by
      conv => lhs; rw [eo]
      rw [instInst, ← eo]
      exact instCongr one fun z _ => rfl
    rw [this]
    exact instCongr one fun z hz => by rw [ix z (holesMem'.mpr hz)]
  · intro h
    have half : ∀ {a b : Tr}, b.holes.length ≤ 64 → a.ren = b.ren → Comes b a := fun {a b} hb e => by
      rw [renIdx, renIdx] at e
      let g : Str → Tr := fun y => match b.holes.find? fun w => decide (nthName (b.holes.idxOf w) = y) with
        | some w => .h w
        | none => .h y
      refine ⟨fun z => g (nthName (a.holes.idxOf z)), ?_⟩
      have e2 := congrArg (Tr.inst g) e
      rw [instInst, instInst] at e2
      have e3 : b.inst (fun z => (Tr.h (nthName (b.holes.idxOf z))).inst g) = b.inst Tr.h := instCongr b fun z hz => by
        have hz' := holesMem'.mpr hz
        rw [Tr.inst]
        show (match b.holes.find? fun w => decide (nthName (b.holes.idxOf w) = nthName (b.holes.idxOf z)) with | some w => Tr.h w | none => Tr.h _) = .h z
        cases hf : b.holes.find? fun w => decide (nthName (b.holes.idxOf w) = nthName (b.holes.idxOf z)) with
        | none =>
          have := List.find?_eq_none.mp hf z hz'
          simp at this
        | some w =>
          have m1 := List.mem_of_find?_eq_some hf
          have m2 := List.find?_some (p := fun w => decide (nthName (b.holes.idxOf w) = nthName (b.holes.idxOf z))) hf
          have l1 := List.idxOf_lt_length_of_mem m1
          have l2 := List.idxOf_lt_length_of_mem hz'
          have ei := nthInj _ _ (by omega) (by omega) (of_decide_eq_true m2)
          have g1 := List.getElem_idxOf l1
          have g2 := List.getElem_idxOf l2
          show Tr.h w = .h z
          rw [← g1, ← g2]
          simp only [ei]
      rw [e3, instId] at e2
      exact e2
    exact ⟨half h1 h.symm, half h2 h⟩
/-! ## the trees that match tells make the form -/
theorem subOf {m : HM} (hm : Func m) (z : Str) : (HM.of m).sub z = m.sub z := by
  unfold HM.sub
  by_cases h : z ∈ m.map (·.1)
  · rw [ofGet (φ := m.get) hm z h]
  · have e1 : m.get z = none := by
      unfold HM.get
      rw [Option.map_eq_none_iff, List.find?_eq_none]
      intro p hp
      simp only [decide_eq_true_eq]
      exact fun q => h (List.mem_map.mpr ⟨p, hp, q⟩)
    have e2 : ∀ (l : List (Str × Tr)) (m0 : HM), z ∉ l.map (·.1) → (l.foldl (fun acc p => acc.put p.1 p.2) m0 : HM).get z = m0.get z := by
      intro l
      induction l with
      | nil => intro _ _; rfl
      | cons p r ih =>
        intro m0 hn
        rw [List.map_cons] at hn
        rw [List.foldl_cons, ih _ fun q => hn (List.mem_cons_of_mem _ q), getPut, if_neg fun q => hn (by rw [q]; exact List.mem_cons_self)]
    have e3 : (HM.of m).get z = none := e2 m [] h
    rw [e1, e3]
theorem matchSome : ∀ (j : Nat) (ws : List (Tr × Tr)) (m0 m : HM), matchGo j ws m0 = some m → Func m0 → (∀ p ∈ m0, p ∈ m) ∧ Func m ∧ ∀ p ∈ ws, p.1.inst m.sub = p.2
  | 0, _, _, _, h, _ => by cases h
  | _ + 1, [], m0, m, h, hf => by
    rw [matchGo] at h
    cases h
    exact ⟨fun _ h => h, hf, fun p hp => by cases hp⟩
  | j + 1, (.h z, t) :: ws, m0, m, h, hf => by
    rw [matchGo] at h
    cases hg : m0.get z with
    | none =>
      rw [hg] at h
      obtain ⟨h1, h2, h3⟩ := matchSome j ws _ m h (getApp hg hf)
      refine ⟨fun p hp => h1 p (List.mem_append_left _ hp), h2, fun p hp => ?_⟩
      rcases List.mem_cons.mp hp with rfl | hp
      · have := h2 _ (h1 (z, t) (List.mem_append_right _ (List.mem_singleton.mpr rfl)))
        show m.sub z = t
        unfold HM.sub
        rw [this]; rfl
      · exact h3 p hp
    | some u =>
      rw [hg] at h
      dsimp only at h
      cases he : PyData.eqv u.data t.data with
      | false => rw [he] at h; cases h
      | true =>
        rw [he, if_pos rfl] at h
        obtain rfl := eqvTr _ _ he
        obtain ⟨h1, h2, h3⟩ := matchSome j ws m0 m h hf
        refine ⟨h1, h2, fun p hp => ?_⟩
        rcases List.mem_cons.mp hp with rfl | hp
        · have := h2 _ (h1 _ (getMem hg))
          show m.sub z = u
          unfold HM.sub
          rw [this]; rfl
        · exact h3 p hp
  | _ + 1, (.n f ps, .h b) :: ws, m0, m, h, hf => by rw [matchGo] at h; cases h
  | j + 1, (.n f ps, .n g qs) :: ws, m0, m, h, hf => by
    rw [matchGo] at h
    by_cases hfg : f = g ∧ ps.length = qs.length
    · rw [if_pos hfg] at h
      obtain ⟨h1, h2, h3⟩ := matchSome j _ m0 m h hf
      refine ⟨h1, h2, fun p hp => ?_⟩
      rcases List.mem_cons.mp hp with rfl | hp
      · show Tr.n f (insts m.sub ps) = _
        rw [hfg.1, (instsZip m.sub hfg.2).mpr fun p hp => h3 p (List.mem_append_left _ hp)]
      · exact h3 p (List.mem_append_right _ hp)
    · rw [if_neg hfg] at h; cases h
end Ah
namespace Ah
open PySem PySem.Spec PyProof.Rows L2
local macro_rules | `(tactic| walk_at "side") => `(tactic| first | omega | decide | (dsimp only; omega) | (unfold CDivN; omega) | (unfold CMul; omega) | (unfold CPow; omega) | (unfold CPow; decide) | (unfold CMulW; decide) | exact szLe rfl | rfl)
local macro_rules | `(tactic| walk_at "here") => `(tactic| first | assumption | exact upd_same)
local macro_rules | `(tactic| walk_at "go") => `(tactic| repeat (first
  | (refine ⟨_, rfl, ?_⟩)
  | (refine ⟨_, _, rfl, rfl, ?_⟩)
  | (refine ⟨_, _, _, _, rfl, rfl, SqL.of (by walk_at "here"), rfl, ?_⟩)
  | (refine ⟨_, _, _, _, rfl, rfl, (by walk_at "here"), rfl, ?_⟩)
  | (refine ⟨_, _, rfl, ?_⟩)
  | (refine And.intro (by walk_at "side") ?_)))
local macro_rules | `(tactic| walk_at "ab") => `(tactic| (try dsimp only [noxK]); repeat (first
  | with_reducible exact ab_var | with_reducible exact ab_int | with_reducible exact ab_str | with_reducible exact ab_bl | with_reducible exact ab_non | with_reducible exact ab_ty | with_reducible exact ab_nil | with_reducible exact ab_noPart | with_reducible exact ab_yes | with_reducible exact ab_dnew | with_reducible exact ab_xnew
  | with_reducible exact as_next | with_reducible exact as_retN | with_reducible exact as_break | with_reducible exact as_cont | with_reducible exact ab_gname | with_reducible exact ab_gnil
  | with_reducible exact oa_I0 | with_reducible exact oa_I | with_reducible exact oa_eq | with_reducible exact oa_ne | with_reducible exact oa_addQ | with_reducible exact oa_ixQ | with_reducible exact oa_eqD | with_reducible exact oa_neD | with_reducible exact oa_isTyB | with_reducible exact oa_notTyB | with_reducible exact oa_NT | with_reducible exact cb_sortD | with_reducible exact oa_isN | with_reducible exact oa_notN | with_reducible exact oa_mulQ | with_reducible exact oa_mulS | with_reducible exact oa_repT | with_reducible exact oa_inS | with_reducible exact oa_notInS | with_reducible exact oa_cat | with_reducible exact oa_catU
  | with_reducible exact cb_len | with_reducible exact cb_type | with_reducible exact cb_isi | with_reducible exact cb_repr | with_reducible exact cb_listOf | with_reducible exact cb_tupOf | with_reducible exact cb_max2 | with_reducible exact cb_minL | with_reducible exact cb_intB | with_reducible exact cb_all | with_reducible exact cb_any | with_reducible exact cb_listZip | with_reducible exact cb_listZipL | with_reducible exact cb_dictP | with_reducible exact oa_isB | with_reducible exact oa_notB | with_reducible exact cb_tupD | with_reducible exact cb_divmod | with_reducible exact oa_inD | with_reducible exact oa_notInD
  | with_reducible exact ma_join | with_reducible exact ma_find | with_reducible exact ma_count | with_reducible exact ma_split
  | with_reducible apply as_appTaken (by decide) | with_reducible apply as_ifSetd | with_reducible apply as_appPop | with_reducible apply as_update | with_reducible apply as_par3F | with_reducible apply as_asgT3 | with_reducible apply as_asgT2 | with_reducible apply as_frz | with_reducible apply as_setF | with_reducible apply as_parF | with_reducible apply as_seq | with_reducible apply as_if | with_reducible apply as_ret | with_reducible apply as_append | with_reducible apply as_extend | with_reducible apply as_pop | with_reducible apply as_popAt | with_reducible apply as_drop | with_reducible apply as_set | with_reducible apply as_par | with_reducible apply as_asg | with_reducible apply as_for | with_reducible apply as_while
  | with_reducible apply ab_gtup2 | with_reducible apply ab_gtup3 | with_reducible apply ab_gtup4 | with_reducible apply ab_gcons
  | with_reducible apply ab_cons | with_reducible apply ab_op | with_reducible apply ab_test | with_reducible apply ab_tB | with_reducible apply ab_and | with_reducible apply ab_or | with_reducible apply ab_not | with_reducible apply ab_andV | with_reducible apply ab_orV | with_reducible apply ab_notV | with_reducible apply ab_if
  | with_reducible apply ab_un | with_reducible apply ab_tup | with_reducible apply ab_lst | with_reducible apply ab_call | with_reducible apply ab_callK | with_reducible apply ab_cb | with_reducible apply ab_sl | with_reducible apply ab_part | with_reducible apply ab_backT | with_reducible apply ab_back0
  | with_reducible apply ab_lc | with_reducible apply ab_lenSetT | with_reducible apply ab_tupItems | with_reducible apply ab_stepT | with_reducible apply ab_sortItems | with_reducible apply ab_dc | with_reducible apply ab_listRg | with_reducible apply ab_star | with_reducible apply ab_starL | with_reducible apply ab_index | with_reducible apply ab_revL | with_reducible apply ab_callW | with_reducible apply ab_disp1 | with_reducible apply ab_dget1 | with_reducible apply ab_dget2 | with_reducible apply as_dput | with_reducible apply ab_chain | with_reducible apply ab_dget | with_reducible apply ab_din | with_reducible apply ab_dnotin | with_reducible apply ab_xin | with_reducible apply ab_xnotin | with_reducible apply ab_xget | with_reducible apply ab_xget1 | with_reducible apply as_xput
  | with_reducible apply ab_iany | with_reducible apply ab_ilist | with_reducible apply ab_itup | with_reducible apply ab_irng1 | with_reducible apply ab_irng2 | with_reducible apply ab_istr | with_reducible apply ab_ienum | with_reducible apply ab_ienumT
  | with_reducible apply ab_m1 | with_reducible apply ab_callLm | with_reducible apply ab_irev
  | with_reducible apply ab_tru
  | exact ab_keysAdd
  | (refine (show List.length _ = List.length _ from ?_); assumption)
  | rfl | (simp only [Tg.slots, tslots]; rfl)))
local macro_rules | `(tactic| walk_at "ago") => `(tactic| repeat (first
  | refine seqI ?_
  | refine ⟨_, rfl, szLe rfl, ?_⟩
  | refine ⟨_, rfl, ?_⟩
  | refine ⟨trivial, ?_⟩
  | refine ⟨_, _, rfl, rfl, ?_⟩
  | refine ⟨_, _, _, rfl, rfl, rfl, ?_⟩
  | refine ⟨_, _, _, rfl, (by decide), rfl, ?_⟩
  | refine ⟨_, _, _, _, rfl, rfl, rfl, rfl, rfl, ?_⟩
  | refine ⟨_, _, _, rfl, rfl, (by walk_at "side"), rfl, ?_⟩
  | refine ⟨_, _, rfl, rfl, (by walk_at "side"), ?_⟩
  | refine ⟨⟨_, rfl⟩, ?_⟩
  | refine ⟨rfl, ?_⟩))
local macro_rules | `(tactic| walk_at "agos") => `(tactic| repeat (first
  | refine ⟨_, rfl, szLe rfl, ?_⟩
  | refine ⟨_, rfl, ?_⟩
  | refine ⟨trivial, ?_⟩
  | refine ⟨_, _, rfl, rfl, ?_⟩
  | refine ⟨_, _, _, rfl, rfl, rfl, ?_⟩
  | refine ⟨_, _, _, rfl, (by decide), rfl, ?_⟩
  | refine ⟨_, _, _, _, rfl, rfl, rfl, rfl, rfl, ?_⟩
  | refine ⟨_, _, _, rfl, rfl, (by walk_at "side"), rfl, ?_⟩
  | refine ⟨_, _, rfl, rfl, (by walk_at "side"), ?_⟩
  | refine ⟨⟨_, rfl⟩, ?_⟩
  | refine ⟨rfl, ?_⟩))

abbrev s__law_unheard : Stmt := topS 29
abbrev N__law_unheard : List Str := ["tree", "letters", "at", "hole"]
theorem sc__law_unheard : FnScope N__law_unheard ["tree"] (defScope s__law_unheard) :=
  ⟨rfl, rfl, rfl, by decide +kernel, rfl, by decide +kernel, by decide +kernel⟩
theorem po__law_unheard : Posi "_law_unheard" s__law_unheard ["tree"] := fun _ _ _ _ _ _ us hl => match us, hl with | [_], _ => rfl

/-- drawn names and holes stand in it -/
structure Gd (t : Tr) : Prop where
  hole : ∀ z, Tr.h z ∈ t.pre → Nm z
  name : ∀ f ps, Tr.n f ps ∈ t.pre → Full f
def fHolesX (D : Nat) : FS := fun as n q => ∃ t : Tr, as = [.d t.data] ∧ t.deep ≤ D ∧ t.size ≤ 5000 ∧ Gd t ∧ q (.ol (t.holes.map PyData.str)) n
theorem holeApp : ∀ (l : List Tr) (u : Tr) (zs : List Str), holeIn (l ++ [u]) zs = holeIn [u] (holeIn l zs)
  | [], _, _ => rfl
  | .h _ :: b, u, _ => holeApp b u _
  | .n _ _ :: b, u, _ => holeApp b u _
theorem holeSub {t : Tr} {zs : List Str} (h : ∀ z, Tr.h z ∈ t.pre → z ∈ zs) : t.holes.length ≤ zs.length := by
  have key : ∀ (l zs : List Str), l.Nodup → (∀ z ∈ l, z ∈ zs) → l.length ≤ zs.length := by
    intro l
    induction l with
    | nil => intro _ _ _; exact Nat.zero_le _
    | cons a r ih =>
      intro zs hn hs
      have hn' := List.nodup_cons.mp hn
      have ha := hs a List.mem_cons_self
      have := ih (zs.erase a) hn'.2 fun z hz => (List.mem_erase_of_ne (fun e => hn'.1 (by rw [← e]; exact hz))).mpr (hs z (List.mem_cons_of_mem _ hz))
      rw [List.length_erase_of_mem ha] at this
      have := List.length_pos_of_mem ha
      rw [List.length_cons]; omega
  exact key _ _ (holeNodup t.pre List.nodup_nil) fun z hz => h z (holesMem'.mp hz)
def unW (i : Nat) : Str := Str.ofString "unheard." ++ ⟨#[97 + i]⟩
def unT (t : Tr) : Tr := t.inst (HM.of (t.holes.zipIdx.map fun p => (p.1, Tr.n (unW p.2) []))).sub
theorem unIdx (t : Tr) : unT t = t.inst fun z => .n (unW (t.holes.idxOf z)) [] :=
  instCongr t fun z hz => idxSub (fun i => Tr.n (unW i) []) (holeNodup t.pre List.nodup_nil) (holesMem'.mpr hz)
theorem unInj {i j : Nat} (h : unW i = unW j) : i = j := by
  have e := congrArg (fun s : Str => s.cps.toList) h
  have ap : ∀ a b : Str, (a ++ b).cps.toList = a.cps.toList ++ b.cps.toList := fun a b => Array.toList_append
  simp only [unW, ap] at e
  have e2 := List.append_cancel_left e
  injection e2 with e2
  omega
theorem unLen (i : Nat) : (unW i).length = 9 := by unfold unW; rw [strLen]; rfl
theorem unSm {i : Nat} (h : i < 26) : Sm (unW i) ∧ (unW i).length ≤ 17 := by
  have : ∀ j : Fin 26, ∀ c ∈ (unW j.val).cps.toList, c < 1000 := by decide +kernel
  refine ⟨⟨by rw [unLen]; decide, this ⟨i, h⟩⟩, by rw [unLen]; decide⟩
def fUnheard (D : Nat) : FS := fun as n q => ∃ t : Tr, as = [.d t.data] ∧ t.deep ≤ D ∧ t.size ≤ 5000 ∧ Gd t ∧ t.holes.length ≤ 26 ∧ q (.d (unT t).data) n
section
variable {P : Program} {w : World} {K : PySem.W.Frag} {mg : Str → Option Value} {base : Heap} {tb : TBs}
theorem a_holesX (D : Nat) (T : At K mg "_law_holes" s__law_holes) (d__law_symbols : Has P w K mg base (D + 1) "_law_symbols" s__law_symbols ["tree"] (spA (lw K tb) (fSyms D))) :
    Has P w K mg base (D + 2) "_law_holes" s__law_holes ["tree"] (spA (lw K tb) (fHolesX D)) := by
  refine T.hasA sc__law_holes po__law_holes (fun as n q h => by obtain ⟨t, rfl, _⟩ := h; rfl) (fun f cdv Ar outer s H E hr => ?_)
  have nd := sc__law_holes.nd
  refine' bodyA (fun as n q h => by obtain ⟨t, rfl, _⟩ := h; show 1 ≤ 3; decide) (pss_cons (ps_set (i := 1) nd rfl (Or.inl rfl) (pe_lst pa_nil))
      (pss_cons (ps_for PassesOwn.never rfl (pi_any (pe_callD d__law_symbols (by omega) hr (pa_cons (pv 0) pa_nil))) (pg_name (i := 2) nd rfl (.inl rfl)) (pss_one (ps_if (PW.pt (pw_and (pt_cmpR op_notIn_sign pe_str (pv 2) rfl) (pw_and1 (pt_cmpR (notInQ K (u65 hr)) (pv 2) (pv 1) rfl)))) (pss_one (ps_expr (pe_bm PySem.F.plainAttrs_list PySem.F.slot_list_append PySem.F.type_list_append mt_append (pv 1) (pa_cons (pv 2) pa_nil)))) pss_nil)))
      (pss_one (ps_ret (pv 1))))) ?ab ?go
  case ab => walk_at "ab"
  case go =>
    rintro as n q ⟨t, rfl, h1, h2, h3, hq⟩
    walk_at "ago"
    refine .inl ?_
    walk_at "ago"
    refine ⟨h1, h2, ?_⟩
    walk_at "ago"
    refine hold (aLoop_ind (fun rem e k => k = n ∧ ∃ (dn rm : List Tr) (x2 : Option A), t.pre = dn ++ rm ∧ rem = (rm.map symOf).map PyData.str ∧ e = [some (.d t.data), some (.ol ((holeIn dn []).map PyData.str)), x2])
      (fun e k hG => ?_) (fun x r e k hG ih => ?_) _ _ _ ⟨rfl, [], t.pre, none, rfl, rfl, rfl⟩)
    · obtain ⟨rfl, dn, rm, x2, e1, e2, rfl⟩ := hG
      obtain rfl : rm = [] := List.map_eq_nil_iff.mp (List.map_eq_nil_iff.mp e2.symm)
      rw [List.append_nil] at e1
      walk_at "ago"
      unfold Tr.holes at hq
      rw [e1] at hq
      exact hq
    · obtain ⟨rfl, dn, rm, x2, e1, e2, rfl⟩ := hG
      obtain ⟨u, rm, rfl⟩ : ∃ u rm', rm = u :: rm' := by
        cases rm with
        | nil => cases e2
        | cons z rm => exact ⟨z, rm, rfl⟩
      cases e2
      rw [aLoop]
      walk_at "ago"
      have uin : u ∈ t.pre := by rw [e1]; exact List.mem_append_right _ List.mem_cons_self
      have e3 : t.pre = (dn ++ [u]) ++ rm := by rw [e1, List.append_assoc]; rfl
      have ld : dn.length + 1 ≤ t.size := by
        have : t.pre.length = t.size := rfl
        rw [← this, e1, List.length_append, List.length_cons]; omega
      have lh := holeLen dn []
      rw [List.length_nil, Nat.zero_add] at lh
      have inn : ∀ z ∈ holeIn dn [], Tr.h z ∈ t.pre := fun z hz => by
        rw [e1]
        exact List.mem_append_left _ (((holeMem dn).mp hz).resolve_left (by simp))
      have cz : (UInt8.ofNat '.'.val.toNat).toNat = 46 := by decide
      rw [cz]
      cases u with
      | h z =>
        have nz := h3.hole z uin
        have nd' : (46 : Nat) ∉ z.cps.toList := fun hm => by have := (nz.2.2 46 hm).1; omega
        refine iff_b (fun _ => ?_) (fun hb => ?_)
        · walk_at "ago"
          have sp := strsPure (zs := holeIn dn []) fun y hy => (h3.hole y (inn y hy)).sm
          refine ⟨(Fine.str nz.sm 0).shaped (by decide), sp.1, by simp [PyData.hasDict], sp.2, ?_⟩
          refine ⟨_, rfl, ?_⟩
          have ea : ((holeIn dn []).map PyData.str).any (fun y => PyData.eqv y (.str z)) = decide (z ∈ holeIn dn []) := by
            rw [List.any_map]
            induction holeIn dn [] with
            | nil => rfl
            | cons y r ih =>
              rw [List.any_cons, ih]
              show (PyData.eqv (.str y) (.str z) || _) = _
              simp only [PyData.eqv]
              by_cases e : y = z
              · subst e; simp
              · have e' : ¬ z = y := fun q => e q.symm
                simp [e, e']
          refine iff_b (fun hb => ?_) (fun hb => ?_)
          · walk_at "ago"
            have hz : z ∉ holeIn dn [] := fun q => by
              rw [show symOf (Tr.h z) = z from rfl, ea, decide_eq_true q] at hb
              cases hb
            refine ⟨by rw [List.length_map, sizeLine_eq]; omega, ?_⟩
            have eq1 : (holeIn dn []).map PyData.str ++ [.str z] = (holeIn (dn ++ [.h z]) []).map PyData.str := by
              rw [holeApp, holeIn, holeIn, insS, if_neg hz, List.map_append]; rfl
            have := ih [some (.d t.data), some (.ol ((holeIn (dn ++ [.h z]) []).map PyData.str)), some (.d (.str z))] k ⟨rfl, dn ++ [.h z], rm, _, e3, rfl, rfl⟩
            rw [← eq1] at this
            exact this
          · have hz : z ∈ holeIn dn [] := Classical.byContradiction fun q => by
              rw [show symOf (Tr.h z) = z from rfl, ea, decide_eq_false q] at hb
              cases hb
            have := ih [some (.d t.data), some (.ol ((holeIn (dn ++ [.h z]) []).map PyData.str)), some (.d (.str z))] k ⟨rfl, dn ++ [.h z], rm, _, e3, rfl, rfl⟩
            rw [holeApp, holeIn, holeIn, insS, if_pos hz] at this
            exact this
        · rw [show symOf (Tr.h z) = z from rfl, decide_eq_false nd'] at hb
          cases hb
      | n f ps =>
        have hd := (h3.name f ps uin).dot
        refine iff_b (fun hb => ?_) (fun _ => ?_)
        · rw [show symOf (Tr.n f ps) = f from rfl, decide_eq_true hd] at hb
          cases hb
        · refine ih [some (.d t.data), some (.ol ((holeIn dn []).map PyData.str)), some (.d (.str f))] k ⟨rfl, dn ++ [.n f ps], rm, some (.d (.str f)), e3, rfl, ?_⟩
          rw [holeApp]
          rfl
theorem a_unheard (D : Nat) (T : At K mg "_law_unheard" s__law_unheard) (d__law_put : Has P w K mg base (D + 1) "_law_put" s__law_put ["tree", "by"] (spA (lw K tb) (fPut D)))
    (d__law_holes : Has P w K mg base (D + 2) "_law_holes" s__law_holes ["tree"] (spA (lw K tb) (fHolesX D))) (mb_dict : mg "dict" = none) (mb_enumerate : mg "enumerate" = none) :
    Has P w K mg base (D + 3) "_law_unheard" s__law_unheard ["tree"] (spA (lw K tb) (fUnheard D)) := by
  refine T.hasA sc__law_unheard po__law_unheard (fun as n q h => by obtain ⟨t, rfl, _⟩ := h; rfl) (fun f cdv Ar outer s H E hr => ?_)
  have nd := sc__law_unheard.nd
  refine' bodyA (fun as n q h => by obtain ⟨t, rfl, _⟩ := h; show 1 ≤ 4; decide) (pss_cons (ps_setF (i := 1) nd rfl (Or.inr rfl) pe_str)
      (pss_one (ps_ret (pe_callD d__law_put (by omega) hr (pa_cons (pv 0) (pa_cons (pe_callTy (call_dictQ rfl K) (by rfl) mb_dict (by decide +kernel) (pa_cons (pe_lc (own := [("at", 2), ("hole", 3)]) (by rfl) nd (pi_enum (by rfl) mb_enumerate (pa_cons (pe_callD d__law_holes (by omega) hr (pa_cons (pv 0) pa_nil)) pa_nil)) (blkOk_by (own := [("at", 2), ("hole", 3)]) (N := N__law_unheard) (sc := defScope s__law_unheard) (by decide +kernel)) (fun _ _ _ _ _ => (pgTup K 2 rfl (pgs_cons (pg_name (i := 2) nd rfl (.inl rfl)) (pgs_cons (pg_name (i := 3) nd rfl (.inl rfl)) pgs_nil)))) (fun _ _ _ _ _ => pts_nil) (fun _ _ _ _ _ => (pe_tup (pa_cons (pv 3) (pa_cons (pe_tup (pa_cons (pe_op (addQ K) pe_str (pe_ix (ixQ K) (pv 1) (pv 2) (fun _ _ => rfl))) pa_nil)) pa_nil))))) pa_nil)) pa_nil)))))) ?ab ?go
  case ab => walk_at "ab"
  case go =>
    rintro as n q ⟨t, rfl, h1, h2, h3, h4, hq⟩
    walk_at "ago"
    refine ⟨h1, h2, h3, ?_⟩
    walk_at "ago"
    have ez : ((t.holes.map PyData.str).zipIdx.map fun p : PyData × Nat => PyData.tuple [.int ((p.2 : Nat) : Int), p.1]) = t.holes.zipIdx.map fun p => PyData.tuple [.int ((p.2 : Nat) : Int), .str p.1] := by
      rw [List.zipIdx_map, List.map_map]
      rfl
    rw [ez]
    have lz : t.holes.zipIdx.length = t.holes.length := List.length_zipIdx
    have hz : ∀ p ∈ t.holes.zipIdx, p.2 < 26 := fun p hp => by
      have := List.snd_lt_of_mem_zipIdx hp
      omega
    have hq' : q (.d (t.inst (HM.of (t.holes.zipIdx.map fun p => (p.1, Tr.n (unW p.2) []))).sub).data) n := hq
    generalize t.holes.zipIdx = L0 at lz hz hq'
    refine hold (aGoY_ind (fun rem acc k => k = n ∧ ∃ dn rm : List (Str × Nat), L0 = dn ++ rm ∧ rem = rm.map (fun p => PyData.tuple [.int ((p.2 : Nat) : Int), .str p.1]) ∧ acc = itemsD (HM.data (dn.map fun p => (p.1, Tr.n (unW p.2) [])))) (fun acc k hG => ?_) (fun x r acc k hG ih => ?_) _ _ _ ⟨rfl, [], L0, rfl, rfl, rfl⟩)
    · obtain ⟨rfl, dn, rm, e1, e2, rfl⟩ := hG
      obtain rfl : rm = [] := List.map_eq_nil_iff.mp e2.symm
      rw [List.append_nil] at e1
      subst e1
      walk_at "ago"
      rw [mergeNil]
      exact ⟨t, _, rfl, h1, h2, trivial, hq'⟩
    · obtain ⟨rfl, dn, rm, e1, e2, rfl⟩ := hG
      obtain ⟨p, rm, rfl⟩ : ∃ p rm', rm = p :: rm' := by
        cases rm with
        | nil => cases e2
        | cons p rm => exact ⟨p, rm, rfl⟩
      rw [List.map_cons] at e2
      injection e2 with e2 e3
      subst e2 e3
      have ld : dn.length + 1 ≤ L0.length := by rw [e1, List.length_append, List.length_cons]; omega
      have hp := hz p (by rw [e1]; simp)
      refine ⟨_, rfl, rfl, ?_⟩
      simp only [putTs, putT]
      walk_at "ago"
      refine ⟨by decide +kernel, 97 + p.2, atI_nat (alphaAt hp), ?_⟩
      walk_at "ago"
      refine ⟨by rw [show (Str.ofString "unheard." : Str).length + (⟨#[97 + p.2]⟩ : Str).length = 9 from rfl, sizeLine_eq]; decide, ?_⟩
      walk_at "ago"
      have il : (itemsD (HM.data (dn.map fun p => (p.1, Tr.n (unW p.2) [])))).length = dn.length := by rw [itemsOf, List.length_map, List.length_map]
      refine ⟨by rw [il, sizeLine_eq]; omega, ih _ _ ⟨rfl, dn ++ [p], rm, by rw [e1, List.append_assoc]; rfl, rfl, ?_⟩⟩
      rw [itemsOf, itemsOf, List.map_append, List.map_append]
      show _ = _ ++ [PyData.tuple [.str p.1, (Tr.n (unW p.2) []).data]]
      rw [Tr.data, datas]
      rfl
end
end Ah
namespace Ah
open PySem PySem.Spec PyProof.Rows L2
local macro_rules | `(tactic| walk_at "side") => `(tactic| first | omega | decide | (dsimp only; omega) | (unfold CDivN; omega) | (unfold CMul; omega) | (unfold CPow; omega) | (unfold CPow; decide) | (unfold CMulW; decide) | exact szLe rfl | rfl)
local macro_rules | `(tactic| walk_at "here") => `(tactic| first | assumption | exact upd_same)
local macro_rules | `(tactic| walk_at "go") => `(tactic| repeat (first
  | (refine ⟨_, rfl, ?_⟩)
  | (refine ⟨_, _, rfl, rfl, ?_⟩)
  | (refine ⟨_, _, _, _, rfl, rfl, SqL.of (by walk_at "here"), rfl, ?_⟩)
  | (refine ⟨_, _, _, _, rfl, rfl, (by walk_at "here"), rfl, ?_⟩)
  | (refine ⟨_, _, rfl, ?_⟩)
  | (refine And.intro (by walk_at "side") ?_)))
local macro_rules | `(tactic| walk_at "ab") => `(tactic| (try dsimp only [noxK]); repeat (first
  | with_reducible exact ab_var | with_reducible exact ab_int | with_reducible exact ab_str | with_reducible exact ab_bl | with_reducible exact ab_non | with_reducible exact ab_ty | with_reducible exact ab_nil | with_reducible exact ab_noPart | with_reducible exact ab_yes | with_reducible exact ab_dnew | with_reducible exact ab_xnew
  | with_reducible exact as_next | with_reducible exact as_retN | with_reducible exact as_break | with_reducible exact as_cont | with_reducible exact ab_gname | with_reducible exact ab_gnil
  | with_reducible exact oa_I0 | with_reducible exact oa_I | with_reducible exact oa_eq | with_reducible exact oa_ne | with_reducible exact oa_addQ | with_reducible exact oa_ixQ | with_reducible exact oa_eqD | with_reducible exact oa_neD | with_reducible exact oa_isTyB | with_reducible exact oa_notTyB | with_reducible exact oa_NT | with_reducible exact cb_sortD | with_reducible exact oa_isN | with_reducible exact oa_notN | with_reducible exact oa_mulQ | with_reducible exact oa_mulS | with_reducible exact oa_repT | with_reducible exact oa_inS | with_reducible exact oa_notInS | with_reducible exact oa_cat | with_reducible exact oa_catU
  | with_reducible exact cb_len | with_reducible exact cb_type | with_reducible exact cb_isi | with_reducible exact cb_repr | with_reducible exact cb_listOf | with_reducible exact cb_tupOf | with_reducible exact cb_max2 | with_reducible exact cb_minL | with_reducible exact cb_intB | with_reducible exact cb_all | with_reducible exact cb_any | with_reducible exact cb_listZip | with_reducible exact cb_listZipL | with_reducible exact cb_dictP | with_reducible exact oa_isB | with_reducible exact oa_notB | with_reducible exact cb_tupD | with_reducible exact cb_divmod | with_reducible exact oa_inD | with_reducible exact oa_notInD
  | with_reducible exact ma_join | with_reducible exact ma_find | with_reducible exact ma_count | with_reducible exact ma_split
  | with_reducible apply as_appTaken (by decide) | with_reducible apply as_ifSetd | with_reducible apply as_appPop | with_reducible apply as_update | with_reducible apply as_par3F | with_reducible apply as_asgT3 | with_reducible apply as_asgT2 | with_reducible apply as_frz | with_reducible apply as_setF | with_reducible apply as_parF | with_reducible apply as_seq | with_reducible apply as_if | with_reducible apply as_ret | with_reducible apply as_append | with_reducible apply as_extend | with_reducible apply as_pop | with_reducible apply as_popAt | with_reducible apply as_drop | with_reducible apply as_set | with_reducible apply as_par | with_reducible apply as_asg | with_reducible apply as_for | with_reducible apply as_while
  | with_reducible apply ab_gtup2 | with_reducible apply ab_gtup3 | with_reducible apply ab_gtup4 | with_reducible apply ab_gcons
  | with_reducible apply ab_cons | with_reducible apply ab_op | with_reducible apply ab_test | with_reducible apply ab_tB | with_reducible apply ab_and | with_reducible apply ab_or | with_reducible apply ab_not | with_reducible apply ab_andV | with_reducible apply ab_orV | with_reducible apply ab_notV | with_reducible apply ab_if
  | with_reducible apply ab_un | with_reducible apply ab_tup | with_reducible apply ab_lst | with_reducible apply ab_call | with_reducible apply ab_callK | with_reducible apply ab_cb | with_reducible apply ab_sl | with_reducible apply ab_part | with_reducible apply ab_backT | with_reducible apply ab_back0
  | with_reducible apply ab_lc | with_reducible apply ab_lenSetT | with_reducible apply ab_tupItems | with_reducible apply ab_stepT | with_reducible apply ab_sortItems | with_reducible apply ab_dc | with_reducible apply ab_listRg | with_reducible apply ab_star | with_reducible apply ab_starL | with_reducible apply ab_index | with_reducible apply ab_revL | with_reducible apply ab_callW | with_reducible apply ab_disp1 | with_reducible apply ab_dget1 | with_reducible apply ab_dget2 | with_reducible apply as_dput | with_reducible apply ab_chain | with_reducible apply ab_dget | with_reducible apply ab_din | with_reducible apply ab_dnotin | with_reducible apply ab_xin | with_reducible apply ab_xnotin | with_reducible apply ab_xget | with_reducible apply ab_xget1 | with_reducible apply as_xput
  | with_reducible apply ab_iany | with_reducible apply ab_ilist | with_reducible apply ab_itup | with_reducible apply ab_irng1 | with_reducible apply ab_irng2 | with_reducible apply ab_istr | with_reducible apply ab_ienum | with_reducible apply ab_ienumT
  | with_reducible apply ab_m1 | with_reducible apply ab_callLm | with_reducible apply ab_irev
  | with_reducible apply ab_tru
  | exact ab_keysAdd
  | (refine (show List.length _ = List.length _ from ?_); assumption)
  | rfl | (simp only [Tg.slots, tslots]; rfl)))
local macro_rules | `(tactic| walk_at "ago") => `(tactic| repeat (first
  | refine seqI ?_
  | refine ⟨_, rfl, szLe rfl, ?_⟩
  | refine ⟨_, rfl, ?_⟩
  | refine ⟨trivial, ?_⟩
  | refine ⟨_, _, rfl, rfl, ?_⟩
  | refine ⟨_, _, _, rfl, rfl, rfl, ?_⟩
  | refine ⟨_, _, _, rfl, (by decide), rfl, ?_⟩
  | refine ⟨_, _, _, _, rfl, rfl, rfl, rfl, rfl, ?_⟩
  | refine ⟨_, _, _, rfl, rfl, (by walk_at "side"), rfl, ?_⟩
  | refine ⟨_, _, rfl, rfl, (by walk_at "side"), ?_⟩
  | refine ⟨⟨_, rfl⟩, ?_⟩
  | refine ⟨rfl, ?_⟩))
local macro_rules | `(tactic| walk_at "agos") => `(tactic| repeat (first
  | refine ⟨_, rfl, szLe rfl, ?_⟩
  | refine ⟨_, rfl, ?_⟩
  | refine ⟨trivial, ?_⟩
  | refine ⟨_, _, rfl, rfl, ?_⟩
  | refine ⟨_, _, _, rfl, rfl, rfl, ?_⟩
  | refine ⟨_, _, _, rfl, (by decide), rfl, ?_⟩
  | refine ⟨_, _, _, _, rfl, rfl, rfl, rfl, rfl, ?_⟩
  | refine ⟨_, _, _, rfl, rfl, (by walk_at "side"), rfl, ?_⟩
  | refine ⟨_, _, rfl, rfl, (by walk_at "side"), ?_⟩
  | refine ⟨⟨_, rfl⟩, ?_⟩
  | refine ⟨rfl, ?_⟩))

abbrev s__law_form : Stmt := topS 30
abbrev N__law_form : List Str := ["hand", "names", "head", "holes", "deep", "hole"]
theorem sc__law_form : FnScope N__law_form ["hand", "names", "head"] (defScope s__law_form) :=
  ⟨rfl, rfl, rfl, by decide +kernel, rfl, by decide +kernel, by decide +kernel⟩
theorem po__law_form : Posi "_law_form" s__law_form ["hand", "names", "head"] := fun _ _ _ _ _ _ us hl => match us, hl with | [_, _, _], _ => rfl

def fForm : FS := fun as n q => ∃ (ns : List (Str × Int)) (t : Tr), as = [.hd, .d (.list (ns.map nameP)), .d t.data] ∧ NamesOk ns ∧ G 52 5 t ∧ Gd t ∧ t.holes.length ≤ 4 ∧ n + 40 < 900000 ∧
  ∀ (m : HM) (n' : Nat), (∀ p ∈ m, G 4 2 p.2) → n ≤ n' → n' ≤ n + 40 → q (.d (t.inst m.sub).data) n'
section
variable {P : Program} {w : World} {K : PySem.W.Frag} {mg : Str → Option Value} {base : Heap} {tb : TBs}
theorem a_form (T : At K mg "_law_form" s__law_form)
    (d__law_take : Has P w K mg base 1 "_law_take" s__law_take ["hand", "many"] (spA (lw K tb) fTake))
    (d__law_tree : Has P w K mg base 6 "_law_tree" s__law_tree ["hand", "names", "holes", "deep"] (spA (lw K tb) (fun as n q => ∃ d, d ≤ 1 ∧ fTree d as n q)))
    (d__law_symbols : Has P w K mg base 6 "_law_symbols" s__law_symbols ["tree"] (spA (lw K tb) (fSyms 5)))
    (d__law_put : Has P w K mg base 6 "_law_put" s__law_put ["tree", "by"] (spA (lw K tb) (fPut 5)))
    (d__law_holes : Has P w K mg base 7 "_law_holes" s__law_holes ["tree"] (spA (lw K tb) (fHolesX 5)))
    (mb_dict : mg "dict" = none) (mb_int : mg "int" = none) (mb_len : mg "len" = none) :
    Has P w K mg base 8 "_law_form" s__law_form ["hand", "names", "head"] (spA (lw K tb) fForm) := by
  refine T.hasA sc__law_form po__law_form (fun as n q h => by obtain ⟨ns, t, rfl, _⟩ := h; rfl) (fun f cdv Ar outer s H E hr => ?_)
  have nd := sc__law_form.nd
  refine' bodyA (fun as n q h => by obtain ⟨ns, t, rfl, _⟩ := h; show 3 ≤ 6; decide) (pss_cons (ps_setF (i := 3) nd rfl (Or.inl rfl) (pe_callD d__law_holes (by omega) hr (pa_cons (pv 2) pa_nil)))
      (pss_cons (ps_setF (i := 4) nd rfl (Or.inr rfl) (pe_op mulQ (pe_callD d__law_take (by omega) hr (pa_cons (pv 0) (pa_cons pe_int pa_nil))) (pe_callTy call_int1 (by rfl) mb_int (by decide +kernel) (pa_cons (pe_cmpR op_lt (pe_callB (lenQ K) (by rfl) mb_len (by decide +kernel) (pa_cons (pe_callD d__law_symbols (by omega) hr (pa_cons (pv 2) pa_nil)) pa_nil)) pe_int (nomark _)) pa_nil))))
      (pss_one (ps_ret (pe_callD d__law_put (by omega) hr (pa_cons (pv 2) (pa_cons (pe_callTy (call_dictQ rfl K) (by rfl) mb_dict (by decide +kernel) (pa_cons (pe_lc (own := [("hole", 5)]) (by rfl) nd (pi_any (pv 3)) (blkOk_by (own := [("hole", 5)]) (N := N__law_form) (sc := defScope s__law_form) (by decide +kernel)) (fun _ _ _ _ _ => (pg_name (i := 5) nd rfl (.inl rfl))) (fun _ _ _ _ _ => pts_nil) (fun _ _ _ _ _ => (pe_tup (pa_cons (pv 5) (pa_cons (pe_callD d__law_tree (by omega) hr (pa_cons (pv 0) (pa_cons (pv 1) (pa_cons (pe_lst pa_nil) (pa_cons (pv 4) pa_nil))))) pa_nil))))) pa_nil)) pa_nil))))))) ?ab ?go
  case ab => walk_at "ab"
  case go =>
    rintro as n q ⟨ns, t, rfl, hN, g, gd, h4, hn, hq⟩
    have g1 := g.size
    refine seqI ?_
    walk_at "agos"
    refine ⟨g.deep, by omega, gd, ?_⟩
    walk_at "agos"
    refine envTo (e' := [some .hd, some (.d (.list (ns.map nameP))), some (.d t.data), some (.d (strsD t.holes)), none, none]) rfl ?_
    refine seqI ?_
    walk_at "agos"
    refine drawN (by omega) (by decide) (by decide) fun d d0 d2 => ?_
    walk_at "agos"
    refine ⟨g.deep, by omega, ?_⟩
    walk_at "agos"
    refine ⟨fun z h => (by cases h), ?_⟩
    walk_at "agos"
    obtain ⟨dp, hdp, ed⟩ : ∃ dp : Nat, dp ≤ 1 ∧ d * (if decide (((symsD t).length : Int) < 14) = true then 1 else 0) = (dp : Int) := by
      split
      · exact ⟨d.toNat, by omega, by omega⟩
      · exact ⟨0, by omega, by omega⟩
    refine ⟨by unfold CMul; split <;> omega, ?_⟩
    rw [ed]
    walk_at "agos"
    refine .inl ?_
    walk_at "agos"
    have ck : costT dp ≤ 8 ∧ mostT dp ≤ 4 := by
      rcases (show dp = 0 ∨ dp = 1 by omega) with rfl | rfl <;> decide
    refine hold (aGoY_ind (fun rem acc m => ∃ (dn rm : List Str) (l : List (Str × Tr)), t.holes = dn ++ rm ∧ rem = rm.map PyData.str ∧ acc = itemsD (HM.data l) ∧ l.length = dn.length ∧ (∀ p ∈ l, G 4 2 p.2) ∧ n ≤ m ∧ m ≤ n + 1 + 8 * dn.length)
      (fun acc m hG => ?_) (fun y r' acc m hG ih2 => ?_) _ _ _ ⟨[], t.holes, [], rfl, rfl, rfl, rfl, by simp, by omega, by omega⟩)
    · obtain ⟨dn, rm, l, e1, e2, rfl, g1', g2, g3, g4⟩ := hG
      obtain rfl : rm = [] := List.map_eq_nil_iff.mp e2.symm
      rw [List.append_nil] at e1
      walk_at "agos"
      rw [mergeNil]
      have := congrArg List.length e1
      refine ⟨t, _, rfl, g.deep, by omega, trivial, hq _ _ (ofP (P := G 4 2) g2) g3 (by omega)⟩
    · obtain ⟨dn, rm, l, e1, e2, rfl, g1', g2, g3, g4⟩ := hG
      obtain ⟨z, rm, rfl⟩ : ∃ z rm', rm = z :: rm' := by
        cases rm with
        | nil => cases e2
        | cons z rm => exact ⟨z, rm, rfl⟩
      cases e2
      have ld : dn.length + 1 ≤ 4 := by have := congrArg List.length e1; rw [List.length_append, List.length_cons] at this; omega
      walk_at "ago"
      refine ⟨dp, hdp, ns, [], rfl, hN, by decide, fun _ h => (by cases h), by omega, fun u m4 u1 u2 u3 u4 u5 => ?_⟩
      walk_at "ago"
      have il : (itemsD (HM.data l)).length = dn.length := by rw [itemsOf, List.length_map, g1']
      refine ⟨by rw [il, sizeLine_eq]; omega, ih2 _ _ ⟨dn ++ [z], rm, l ++ [(z, u)], by rw [e1, List.append_assoc]; rfl, rfl, ?_, by rw [List.length_append, List.length_append, g1']; rfl, fun p hp => ?_, by omega, by rw [List.length_append, List.length_singleton]; omega⟩⟩
      · rw [itemsOf, itemsOf, List.map_append]; rfl
      · rcases List.mem_append.mp hp with hp | hp
        · exact g2 p hp
        · rw [List.mem_singleton.mp hp]
          exact ⟨by show u.size ≤ 4; omega, by show u.deep ≤ 2; omega, ofSyms hN (fun _ h => (by cases h)) u u1⟩
end
end Ah
namespace Ah
open PySem PySem.Spec PyProof.Rows L2
local macro_rules | `(tactic| walk_at "side") => `(tactic| first | omega | decide | (dsimp only; omega) | (unfold CDivN; omega) | (unfold CMul; omega) | (unfold CPow; omega) | (unfold CPow; decide) | (unfold CMulW; decide) | exact szLe rfl | rfl)
local macro_rules | `(tactic| walk_at "here") => `(tactic| first | assumption | exact upd_same)
local macro_rules | `(tactic| walk_at "go") => `(tactic| repeat (first
  | (refine ⟨_, rfl, ?_⟩)
  | (refine ⟨_, _, rfl, rfl, ?_⟩)
  | (refine ⟨_, _, _, _, rfl, rfl, SqL.of (by walk_at "here"), rfl, ?_⟩)
  | (refine ⟨_, _, _, _, rfl, rfl, (by walk_at "here"), rfl, ?_⟩)
  | (refine ⟨_, _, rfl, ?_⟩)
  | (refine And.intro (by walk_at "side") ?_)))
local macro_rules | `(tactic| walk_at "ab") => `(tactic| (try dsimp only [noxK]); repeat (first
  | with_reducible exact ab_var | with_reducible exact ab_int | with_reducible exact ab_str | with_reducible exact ab_bl | with_reducible exact ab_non | with_reducible exact ab_ty | with_reducible exact ab_nil | with_reducible exact ab_noPart | with_reducible exact ab_yes | with_reducible exact ab_dnew | with_reducible exact ab_xnew
  | with_reducible exact as_next | with_reducible exact as_retN | with_reducible exact as_break | with_reducible exact as_cont | with_reducible exact ab_gname | with_reducible exact ab_gnil
  | with_reducible exact oa_I0 | with_reducible exact oa_I | with_reducible exact oa_eq | with_reducible exact oa_ne | with_reducible exact oa_addQ | with_reducible exact oa_ixQ | with_reducible exact oa_eqD | with_reducible exact oa_neD | with_reducible exact oa_isTyB | with_reducible exact oa_notTyB | with_reducible exact oa_NT | with_reducible exact cb_sortD | with_reducible exact oa_isN | with_reducible exact oa_notN | with_reducible exact oa_mulQ | with_reducible exact oa_mulS | with_reducible exact oa_repT | with_reducible exact oa_inS | with_reducible exact oa_notInS | with_reducible exact oa_cat | with_reducible exact oa_catU
  | with_reducible exact cb_len | with_reducible exact cb_type | with_reducible exact cb_isi | with_reducible exact cb_repr | with_reducible exact cb_listOf | with_reducible exact cb_tupOf | with_reducible exact cb_max2 | with_reducible exact cb_minL | with_reducible exact cb_intB | with_reducible exact cb_all | with_reducible exact cb_any | with_reducible exact cb_listZip | with_reducible exact cb_listZipL | with_reducible exact cb_dictP | with_reducible exact oa_isB | with_reducible exact oa_notB | with_reducible exact cb_tupD | with_reducible exact cb_divmod | with_reducible exact oa_inD | with_reducible exact oa_notInD
  | with_reducible exact ma_join | with_reducible exact ma_find | with_reducible exact ma_count | with_reducible exact ma_split
  | with_reducible apply as_appTaken (by decide) | with_reducible apply as_ifSetd | with_reducible apply as_appPop | with_reducible apply as_update | with_reducible apply as_par3F | with_reducible apply as_asgT3 | with_reducible apply as_asgT2 | with_reducible apply as_frz | with_reducible apply as_setF | with_reducible apply as_parF | with_reducible apply as_seq | with_reducible apply as_if | with_reducible apply as_ret | with_reducible apply as_append | with_reducible apply as_extend | with_reducible apply as_pop | with_reducible apply as_popAt | with_reducible apply as_drop | with_reducible apply as_set | with_reducible apply as_par | with_reducible apply as_asg | with_reducible apply as_for | with_reducible apply as_while
  | with_reducible apply ab_gtup2 | with_reducible apply ab_gtup3 | with_reducible apply ab_gtup4 | with_reducible apply ab_gcons
  | with_reducible apply ab_cons | with_reducible apply ab_op | with_reducible apply ab_test | with_reducible apply ab_tB | with_reducible apply ab_and | with_reducible apply ab_or | with_reducible apply ab_not | with_reducible apply ab_andV | with_reducible apply ab_orV | with_reducible apply ab_notV | with_reducible apply ab_if
  | with_reducible apply ab_un | with_reducible apply ab_tup | with_reducible apply ab_lst | with_reducible apply ab_call | with_reducible apply ab_callK | with_reducible apply ab_cb | with_reducible apply ab_sl | with_reducible apply ab_part | with_reducible apply ab_backT | with_reducible apply ab_back0
  | with_reducible apply ab_lc | with_reducible apply ab_lenSetT | with_reducible apply ab_tupItems | with_reducible apply ab_stepT | with_reducible apply ab_sortItems | with_reducible apply ab_dc | with_reducible apply ab_listRg | with_reducible apply ab_star | with_reducible apply ab_starL | with_reducible apply ab_index | with_reducible apply ab_revL | with_reducible apply ab_callW | with_reducible apply ab_disp1 | with_reducible apply ab_dget1 | with_reducible apply ab_dget2 | with_reducible apply as_dput | with_reducible apply ab_chain | with_reducible apply ab_dget | with_reducible apply ab_din | with_reducible apply ab_dnotin | with_reducible apply ab_xin | with_reducible apply ab_xnotin | with_reducible apply ab_xget | with_reducible apply ab_xget1 | with_reducible apply as_xput
  | with_reducible apply ab_iany | with_reducible apply ab_ilist | with_reducible apply ab_itup | with_reducible apply ab_irng1 | with_reducible apply ab_irng2 | with_reducible apply ab_istr | with_reducible apply ab_ienum | with_reducible apply ab_ienumT
  | with_reducible apply ab_m1 | with_reducible apply ab_callLm | with_reducible apply ab_irev
  | with_reducible apply ab_tru
  | exact ab_keysAdd
  | (refine (show List.length _ = List.length _ from ?_); assumption)
  | rfl | (simp only [Tg.slots, tslots]; rfl)))
local macro_rules | `(tactic| walk_at "ago") => `(tactic| repeat (first
  | refine seqI ?_
  | refine ⟨_, rfl, szLe rfl, ?_⟩
  | refine ⟨_, rfl, ?_⟩
  | refine ⟨trivial, ?_⟩
  | refine ⟨_, _, rfl, rfl, ?_⟩
  | refine ⟨_, _, _, rfl, rfl, rfl, ?_⟩
  | refine ⟨_, _, _, rfl, (by decide), rfl, ?_⟩
  | refine ⟨_, _, _, _, rfl, rfl, rfl, rfl, rfl, ?_⟩
  | refine ⟨_, _, _, rfl, rfl, (by walk_at "side"), rfl, ?_⟩
  | refine ⟨_, _, rfl, rfl, (by walk_at "side"), ?_⟩
  | refine ⟨⟨_, rfl⟩, ?_⟩
  | refine ⟨rfl, ?_⟩))
local macro_rules | `(tactic| walk_at "agos") => `(tactic| repeat (first
  | refine ⟨_, rfl, szLe rfl, ?_⟩
  | refine ⟨_, rfl, ?_⟩
  | refine ⟨trivial, ?_⟩
  | refine ⟨_, _, rfl, rfl, ?_⟩
  | refine ⟨_, _, _, rfl, rfl, rfl, ?_⟩
  | refine ⟨_, _, _, rfl, (by decide), rfl, ?_⟩
  | refine ⟨_, _, _, _, rfl, rfl, rfl, rfl, rfl, ?_⟩
  | refine ⟨_, _, _, rfl, rfl, (by walk_at "side"), rfl, ?_⟩
  | refine ⟨_, _, rfl, rfl, (by walk_at "side"), ?_⟩
  | refine ⟨⟨_, rfl⟩, ?_⟩
  | refine ⟨rfl, ?_⟩))

abbrev s__law_pair_right : Stmt := topS 31
abbrev N__law_pair_right : List Str := ["hand", "names", "one", "other", "comes", "form", "turn", "found"]
theorem sc__law_pair_right : FnScope N__law_pair_right ["hand", "names", "one", "other"] (defScope s__law_pair_right) :=
  ⟨rfl, rfl, rfl, by decide +kernel, rfl, by decide +kernel, by decide +kernel⟩
theorem po__law_pair_right : Posi "_law_pair_right" s__law_pair_right ["hand", "names", "one", "other"] := fun _ _ _ _ _ _ us hl => match us, hl with | [_, _, _, _], _ => rfl

/-- a head as the law draws them -/
structure HdOk (t : Tr) : Prop where
  g : G 52 5 t
  gd : Gd t
  few : t.holes.length ≤ 4
  heard : ∀ f ps, Tr.n f ps ∈ t.pre → NoUn f
theorem HdOk.fit {t : Tr} (h : HdOk t) : FitT t := h.g.fit (by decide)
theorem matchLen : ∀ (j : Nat) (ws : List (Tr × Tr)) (m0 m : HM), matchGo j ws m0 = some m → m.length ≤ m0.length + j
  | 0, _, _, _, h => by cases h
  | _ + 1, [], m0, m, h => by
    rw [matchGo] at h
    cases h
    omega
  | j + 1, (.h z, t) :: ws, m0, m, h => by
    rw [matchGo] at h
    cases hg : m0.get z with
    | none =>
      rw [hg] at h
      have := matchLen j ws _ m h
      rw [List.length_append, List.length_singleton] at this
      omega
    | some u =>
      rw [hg] at h
      dsimp only at h
      split at h
      · have := matchLen j ws _ m h; omega
      · cases h
  | _ + 1, (.n f ps, .h b) :: ws, m0, m, h => by rw [matchGo] at h; cases h
  | j + 1, (.n f ps, .n g qs) :: ws, m0, m, h => by
    rw [matchGo] at h
    split at h
    · have := matchLen j _ _ m h; omega
    · cases h
theorem matchPut {b a : Tr} {m : HM} (h : matchGo (b.size + 1) [(b, a)] [] = some m) : b.inst (HM.of m).sub = a ∧ m.length ≤ b.size + 1 := by
  obtain ⟨_, h2, h3⟩ := matchSome _ _ _ _ h (fun p hp => by cases hp)
  refine ⟨?_, by have := matchLen _ _ _ _ h; simpa using this⟩
  rw [show (HM.of m).sub = m.sub from funext fun z => subOf h2 z]
  exact h3 (b, a) List.mem_cons_self
theorem nthSm {i : Nat} (h : i < 64) : Sm (nthName i) ∧ (nthName i).length ≤ 17 := by
  have : ∀ j : Fin 64, (nthName j.val).length ≤ 17 ∧ ∀ c ∈ (nthName j.val).cps.toList, c < 1000 := by decide +kernel
  obtain ⟨h1, h2⟩ := this ⟨i, h⟩
  exact ⟨⟨Nat.le_trans h1 (by decide), h2⟩, h1⟩
theorem HdOk.ren {t : Tr} (h : HdOk t) : FitT t.ren := by
  have : G 52 5 t.ren := G.inst (S' := 1) (D' := 0) h.g (ofP (P := G 1 0) fun p hp => by
    obtain ⟨r, hr, rfl⟩ := List.mem_map.mp hp
    have := List.snd_lt_of_mem_zipIdx hr
    have := h.few
    exact G.hole (nthSm (by omega))) (by decide)
  exact this.fit (by decide)
theorem HdOk.un {t : Tr} (h : HdOk t) : G 52 6 (unT t) :=
  G.inst (S' := 1) (D' := 1) h.g (ofP (P := G 1 1) fun p hp => by
    obtain ⟨r, hr, rfl⟩ := List.mem_map.mp hp
    have := List.snd_lt_of_mem_zipIdx hr
    have := h.few
    refine ⟨by rw [size_n]; exact Nat.le_refl _, Nat.le_refl _, fun y hy => ?_⟩
    rw [syms_n] at hy
    rw [List.mem_singleton.mp hy]
    exact unSm (by omega)) (by decide)
theorem unComes {one other : Tr} (h1 : HdOk one) (h2 : HdOk other) : Comes (unT one) other ↔ Comes one other := by
  rw [unIdx]
  refine unheardComes (F := fun z => unW (one.holes.idxOf z)) (fun f ps hm z _ e => h1.heard f ps hm _ e.symm) (fun f ps hm z _ e => h2.heard f ps hm _ e.symm) (fun z hz y hy e => ?_)
  have i1 := List.idxOf_lt_length_of_mem hz
  have i2 := List.idxOf_lt_length_of_mem hy
  have ei := unInj e
  have g1 := List.getElem_idxOf i1
  have g2 := List.getElem_idxOf i2
  rw [← g1, ← g2]
  simp only [ei]
def fPair : FS := fun as n q => ∃ (ns : List (Str × Int)) (one other : Tr), as = [.hd, .d (.list (ns.map nameP)), .d one.data, .d other.data] ∧ NamesOk ns ∧ HdOk one ∧ HdOk other ∧ n + 100 < 900000 ∧
  ∀ n', n ≤ n' → n' ≤ n + 100 → q (.d (.bool true)) n'
section
variable {P : Program} {w : World} {K : PySem.W.Frag} {mg : Str → Option Value} {base : Heap} {tb : TBs}
theorem a_pair (T : At K mg "_law_pair_right" s__law_pair_right)
    (d_match : Has P w K mg base 2 "match" s_match ["head", "form"] (spA (lw K tb) fMatch))
    (d_is_instance : Has P w K mg base 3 "is_instance" s_is_instance ["one", "other"] (spA (lw K tb) fInst))
    (d_put_for : Has P w K mg base 6 "put_for" s_put_for ["tree", "by"] (spA (lw K tb) fPutFor))
    (d_renamed : Has P w K mg base 7 "renamed" s_renamed ["tree"] (spA (lw K tb) fRen))
    (d__law_unheard : Has P w K mg base 8 "_law_unheard" s__law_unheard ["tree"] (spA (lw K tb) (fUnheard 5)))
    (d__law_form : Has P w K mg base 8 "_law_form" s__law_form ["hand", "names", "head"] (spA (lw K tb) fForm))
    (mb_range : mg "range" = none) :
    Has P w K mg base 9 "_law_pair_right" s__law_pair_right ["hand", "names", "one", "other"] (spA (lw K tb) fPair) := by
  refine T.hasA sc__law_pair_right po__law_pair_right (fun as n q h => by obtain ⟨ns, t, u, rfl, _⟩ := h; rfl) (fun f cdv Ar outer s H E hr => ?_)
  have nd := sc__law_pair_right.nd
  refine' bodyA (fun as n q h => by obtain ⟨ns, t, u, rfl, _⟩ := h; show 4 ≤ 8; decide) (pss_cons (show PS _ _ (tParF true true 4 5 _) from (ps_par (i := 4) (j := 5) (by rfl) nd rfl rfl (by decide) rfl rfl (pa_cons (pe_callD d_is_instance (by omega) hr (pa_cons (pv 2) (pa_cons (pv 3) pa_nil))) (pa_cons (pe_callD d__law_unheard (by omega) hr (pa_cons (pv 2) pa_nil)) pa_nil)) (by rfl)))
      (pss_cons (ps_if (PW.pt (pw_or (pt_cmpR op_ne (pe_cmpR op_notN (pe_callD d_match (by omega) hr (pa_cons (pv 3) (pa_cons (pv 5) pa_nil))) pe_non (nomark _)) (pv 4) (nomark _)) (pw_or1 (pt_cmpR op_ne (pe_callD d_is_instance (by omega) hr (pa_cons (pv 5) (pa_cons (pv 3) pa_nil))) (pv 4) (nomark _))))) (pss_one (ps_ret pe_bl)) pss_nil)
      (pss_cons (ps_if (pt_cmpR op_ne (pe_and (pv 4) (pe_one (pe_callD d_is_instance (by omega) hr (pa_cons (pv 3) (pa_cons (pv 2) pa_nil))))) (pe_cmpR (op_eqD hr.units) (pe_callD d_renamed (by omega) hr (pa_cons (pv 2) pa_nil)) (pe_callD d_renamed (by omega) hr (pa_cons (pv 3) pa_nil)) (nomark _)) (nomark _)) (pss_one (ps_ret pe_bl)) pss_nil)
      (pss_cons (ps_for PassesOwn.never rfl (pi_range1 (by rfl) mb_range (pa_cons pe_int pa_nil)) (pg_name (i := 6) nd rfl (.inl rfl)) (pss_cons (ps_setF (i := 5) nd rfl (Or.inl rfl) (pe_callD d__law_form (by omega) hr (pa_cons (pv 0) (pa_cons (pv 1) (pa_cons (pv 2) pa_nil)))))
      (pss_cons (ps_setF (i := 7) nd rfl (Or.inl rfl) (pe_callD d_match (by omega) hr (pa_cons (pv 3) (pa_cons (pv 5) pa_nil))))
      (pss_cons (ps_if (PW.pt (pw_or (pt_cmpR op_isN (pe_callD d_match (by omega) hr (pa_cons (pv 2) (pa_cons (pv 5) pa_nil))) pe_non (nomark _)) (pw_or (PW.pt (pw_and (pt_truth (pv 4) (by intro _; rfl)) (pw_and1 (pt_cmpR op_isN (pv 7) pe_non (nomark _))))) (pw_or1 (pt_cmpR op_ne (pe_callD d_is_instance (by omega) hr (pa_cons (pv 5) (pa_cons (pv 3) pa_nil))) (pe_cmpR op_notN (pv 7) pe_non (nomark _)) (nomark _)))))) (pss_one (ps_ret pe_bl)) pss_nil)
      (pss_one (ps_if (PW.pt (pw_and (pt_cmpR op_notN (pv 7) pe_non (nomark _)) (pw_and1 (pt_cmpR (op_neD hr.units) (pe_callD d_put_for (by omega) hr (pa_cons (pv 3) (pa_cons (pv 7) pa_nil))) (pv 5) (nomark _))))) (pss_one (ps_ret pe_bl)) pss_nil))))))
      (pss_one (ps_ret pe_bl)))))) ?ab ?go
  case ab => walk_at "ab"
  case go =>
    classical
    rintro as n q ⟨ns, one, other, rfl, hN, h1, h2, hn, hq⟩
    have s1 := h1.g.size
    have s2 := h2.g.size
    refine seqI ?_
    walk_at "agos"
    refine ⟨one, other, rfl, by omega, by omega, h1.fit, ?_⟩
    have ec : (matchGo (other.size + 1) [(other, one)] []).isSome = decide (Comes one other) := by
      rw [Bool.eq_iff_iff, matchComes, decide_eq_true_iff]
    rw [ec]
    walk_at "agos"
    refine ⟨h1.g.deep, by omega, h1.gd, by have := h1.few; omega, ?_⟩
    walk_at "agos"
    have hu := h1.un
    have su := hu.size
    have fu := hu.fit (by decide)
    have eu : (matchGo (other.size + 1) [(other, unT one)] []).isSome = decide (Comes one other) := by
      rw [Bool.eq_iff_iff, matchComes, decide_eq_true_iff, unComes h1 h2]
    generalize unT one = form at hu su fu eu
    refine envTo (e' := [some .hd, some (.d (.list (ns.map nameP))), some (.d one.data), some (.d other.data), some (.d (.bool (decide (Comes one other)))), some (.d form.data), none, none]) rfl ?_
    refine seqI ?_
    walk_at "agos"
    refine ⟨other, form, rfl, by omega, by omega, fu, ?_⟩
    walk_at "agos"
    have mk : ∀ o : Option HM, decide (kindD (matchD o) = "NoneType") = !o.isSome := fun o => by
      cases o with
      | none => exact decide_eq_true rfl
      | some m => exact decide_eq_false (by show ("tuple" : String) ≠ "NoneType"; decide)
    have eb : ∀ b c : Bool, decide (V.bl b = V.bl c) = (b == c) := fun b c => by cases b <;> cases c <;> rfl
    refine ifF (by rw [mk, eu, eb]; simp) ?_
    walk_at "agos"
    refine ⟨form, other, rfl, by omega, by omega, fu, ?_⟩
    rw [eu]
    walk_at "agos"
    refine ifF (by rw [eb]; simp) ?_
    walk_at "agos"
    have el : (matchGo (one.size + 1) [(one, other)] []).isSome = decide (Comes other one) := by
      rw [Bool.eq_iff_iff, matchComes, decide_eq_true_iff]
    have er : decide (one.ren = other.ren) = (decide (Comes one other) && decide (Comes other one)) := by
      rw [Bool.eq_iff_iff, Bool.and_eq_true, decide_eq_true_iff, decide_eq_true_iff, decide_eq_true_iff, likeIff (by have := h1.few; omega) (by have := h2.few; omega)]
    have ev : ∀ u v : Tr, PyData.eqv u.data v.data = decide (u = v) := fun u v => by
      by_cases h : u = v
      · rw [h, eqvSelf, decide_eq_true rfl]
      · rw [decide_eq_false h]
        cases q : PyData.eqv u.data v.data with
        | false => rfl
        | true => exact (h (eqvTr _ _ q)).elim
    refine seqAt (fun n1 => n1 = n) (fun rest => ?_) (fun n1 hn1 => ?_)
    · walk_at "agos"
      by_cases hc : Comes one other
      · rw [decide_eq_true hc] at rest ⊢
        refine (if_pos rfl).mpr ?_
        walk_at "agos"
        refine ⟨other, one, rfl, by omega, by omega, h2.fit, ?_⟩
        rw [el]
        walk_at "agos"
        refine ⟨by omega, ?_⟩
        walk_at "agos"
        refine ⟨by omega, ?_⟩
        walk_at "agos"
        refine ⟨h1.ren.shaped, h2.ren.shaped, h1.ren.nod, h2.ren.nod, ?_⟩
        rw [ev, er, decide_eq_true hc, Bool.true_and]
        walk_at "agos"
        refine ifF (by rw [eb]; simp) ?_
        exact rest n rfl
      · rw [decide_eq_false hc] at rest ⊢
        refine (if_neg Bool.false_ne_true).mpr ?_
        walk_at "agos"
        refine ⟨by omega, ?_⟩
        walk_at "agos"
        refine ⟨by omega, ?_⟩
        walk_at "agos"
        refine ⟨h1.ren.shaped, h2.ren.shaped, h1.ren.nod, h2.ren.nod, ?_⟩
        rw [ev, er, decide_eq_false hc, Bool.false_and]
        walk_at "agos"
        refine ifF (by rw [eb]; simp) ?_
        exact rest n rfl
    · subst hn1
      refine seqI ?_
      walk_at "agos"
      refine ⟨by decide, by decide, ?_⟩
      refine hold (aLoop_ind (fun rem e k => ∃ (x5 x6 x7 : Option A), k + 41 * rem.length ≤ n1 + 82 ∧ n1 ≤ k ∧ e = [some .hd, some (.d (.list (ns.map nameP))), some (.d one.data), some (.d other.data), some (.d (.bool (decide (Comes one other)))), x5, x6, x7])
        (fun e k hG => ?_) (fun x r e k hG ih => ?_) _ _ _ ⟨_, _, _, by simp [rngD], Nat.le_refl _, rfl⟩)
      · obtain ⟨x5, x6, x7, g1, g2, rfl⟩ := hG
        walk_at "agos"
        exact hq k g2 (by omega)
      · obtain ⟨x5, x6, x7, g1, g2, rfl⟩ := hG
        rw [List.length_cons] at g1
        clear hu su fu eu
        rw [aLoop]
        walk_at "agos"
        refine seqI ?_
        walk_at "agos"
        refine ⟨ns, one, rfl, hN, h1.g, h1.gd, h1.few, by omega, fun m k1 m1 m2 m3 => ?_⟩
        have gf : G 208 7 (one.inst m.sub) := G.inst (S' := 4) (D' := 2) h1.g m1 (by decide)
        have cf : Comes (one.inst m.sub) one := Comes.inst one _
        generalize one.inst m.sub = form at gf cf
        have sf := gf.size
        have ff := gf.fit (by decide)
        walk_at "agos"
        refine envTo (e' := [some .hd, some (.d (.list (ns.map nameP))), some (.d one.data), some (.d other.data), some (.d (.bool (decide (Comes one other)))), some (.d form.data), some (.d x), x7]) rfl ?_
        refine seqI ?_
        walk_at "agos"
        refine ⟨other, form, rfl, by omega, by omega, ff, ?_⟩
        walk_at "agos"
        have eo : (matchGo (other.size + 1) [(other, form)] []).isSome = decide (Comes form other) := by
          rw [Bool.eq_iff_iff, matchComes, decide_eq_true_iff]
        have eo2 : ∀ m, matchGo (other.size + 1) [(other, form)] [] = some m → other.inst (HM.of m).sub = form ∧ m.length ≤ other.size + 1 := fun m => matchPut
        have eone : (matchGo (one.size + 1) [(one, form)] []).isSome = true := (matchComes _ _).mpr cf
        obtain ⟨o, ho⟩ : ∃ o, o = matchGo (other.size + 1) [(other, form)] [] := ⟨_, rfl⟩
        rw [← ho] at eo eo2 ⊢
        refine envTo (e' := [some .hd, some (.d (.list (ns.map nameP))), some (.d one.data), some (.d other.data), some (.d (.bool (decide (Comes one other)))), some (.d form.data), some (.d x), some (.d (matchD o))]) rfl ?_
        have cont := ih [some .hd, some (.d (.list (ns.map nameP))), some (.d one.data), some (.d other.data), some (.d (.bool (decide (Comes one other)))), some (.d form.data), some (.d x), some (.d (matchD o))] k1 ⟨_, _, _, by omega, by omega, rfl⟩
        refine seqAt (fun n1 => n1 = k1) (fun rest => ?_) (fun n1 hn1 => ?_)
        · walk_at "agos"
          refine ⟨one, form, rfl, by omega, by omega, ff, ?_⟩
          walk_at "agos"
          refine ifF (by rw [mk, eone]; rfl) ?_
          walk_at "agos"
          by_cases hc : Comes one other
          · have co : Comes form other := cf.trans hc
            refine ifT (decide_eq_true hc) ?_
            walk_at "agos"
            refine ifF (by rw [mk, eo, decide_eq_true co]; rfl) ?_
            walk_at "agos"
            refine ⟨form, other, rfl, by omega, by omega, ff, ?_⟩
            rw [← ho]
            walk_at "agos"
            refine ifF (by rw [eb, mk]; simp) ?_
            exact rest k1 rfl
          · refine ifF (decide_eq_false hc) ?_
            refine ifF rfl ?_
            walk_at "agos"
            refine ⟨form, other, rfl, by omega, by omega, ff, ?_⟩
            rw [← ho]
            walk_at "agos"
            refine ifF (by rw [eb, mk]; simp) ?_
            exact rest k1 rfl
        · subst hn1
          walk_at "agos"
          cases o with
          | none =>
            refine ifF rfl ?_
            exact cont
          | some m' =>
            obtain ⟨em, lm⟩ := eo2 m' rfl
            refine ifT rfl ?_
            walk_at "agos"
            refine ⟨other, m', .inl (by show _ = [A.d other.data, A.d (.tuple (itemsD (HM.data m')))]; rw [← putsEq]; rfl), by omega, by omega, ?_⟩
            rw [em]
            walk_at "agos"
            refine ⟨ff.shaped, ff.shaped, ff.nod, ff.nod, ?_⟩
            rw [eqvSelf]
            walk_at "agos"
            refine ifF rfl ?_
            exact cont
end
end Ah
namespace Ah
open PySem PySem.Spec PyProof.Rows L2
local macro_rules | `(tactic| walk_at "side") => `(tactic| first | omega | decide | (dsimp only; omega) | (unfold CDivN; omega) | (unfold CMul; omega) | (unfold CPow; omega) | (unfold CPow; decide) | (unfold CMulW; decide) | exact szLe rfl | rfl)
local macro_rules | `(tactic| walk_at "here") => `(tactic| first | assumption | exact upd_same)
local macro_rules | `(tactic| walk_at "go") => `(tactic| repeat (first
  | (refine ⟨_, rfl, ?_⟩)
  | (refine ⟨_, _, rfl, rfl, ?_⟩)
  | (refine ⟨_, _, _, _, rfl, rfl, SqL.of (by walk_at "here"), rfl, ?_⟩)
  | (refine ⟨_, _, _, _, rfl, rfl, (by walk_at "here"), rfl, ?_⟩)
  | (refine ⟨_, _, rfl, ?_⟩)
  | (refine And.intro (by walk_at "side") ?_)))
local macro_rules | `(tactic| walk_at "ab") => `(tactic| (try dsimp only [noxK]); repeat (first
  | with_reducible exact ab_var | with_reducible exact ab_int | with_reducible exact ab_str | with_reducible exact ab_bl | with_reducible exact ab_non | with_reducible exact ab_ty | with_reducible exact ab_nil | with_reducible exact ab_noPart | with_reducible exact ab_yes | with_reducible exact ab_dnew | with_reducible exact ab_xnew
  | with_reducible exact as_next | with_reducible exact as_retN | with_reducible exact as_break | with_reducible exact as_cont | with_reducible exact ab_gname | with_reducible exact ab_gnil
  | with_reducible exact oa_I0 | with_reducible exact oa_I | with_reducible exact oa_eq | with_reducible exact oa_ne | with_reducible exact oa_addQ | with_reducible exact oa_ixQ | with_reducible exact oa_eqD | with_reducible exact oa_neD | with_reducible exact oa_isTyB | with_reducible exact oa_notTyB | with_reducible exact oa_NT | with_reducible exact cb_sortD | with_reducible exact oa_isN | with_reducible exact oa_notN | with_reducible exact oa_mulQ | with_reducible exact oa_mulS | with_reducible exact oa_repT | with_reducible exact oa_inS | with_reducible exact oa_notInS | with_reducible exact oa_cat | with_reducible exact oa_catU
  | with_reducible exact cb_len | with_reducible exact cb_type | with_reducible exact cb_isi | with_reducible exact cb_repr | with_reducible exact cb_listOf | with_reducible exact cb_tupOf | with_reducible exact cb_max2 | with_reducible exact cb_minL | with_reducible exact cb_intB | with_reducible exact cb_all | with_reducible exact cb_any | with_reducible exact cb_listZip | with_reducible exact cb_listZipL | with_reducible exact cb_dictP | with_reducible exact oa_isB | with_reducible exact oa_notB | with_reducible exact cb_tupD | with_reducible exact cb_divmod | with_reducible exact oa_inD | with_reducible exact oa_notInD
  | with_reducible exact ma_join | with_reducible exact ma_find | with_reducible exact ma_count | with_reducible exact ma_split
  | with_reducible apply as_appTaken (by decide) | with_reducible apply as_ifSetd | with_reducible apply as_appPop | with_reducible apply as_update | with_reducible apply as_par3F | with_reducible apply as_asgT3 | with_reducible apply as_asgT2 | with_reducible apply as_frz | with_reducible apply as_setF | with_reducible apply as_parF | with_reducible apply as_seq | with_reducible apply as_if | with_reducible apply as_ret | with_reducible apply as_append | with_reducible apply as_extend | with_reducible apply as_pop | with_reducible apply as_popAt | with_reducible apply as_drop | with_reducible apply as_set | with_reducible apply as_par | with_reducible apply as_asg | with_reducible apply as_for | with_reducible apply as_while
  | with_reducible apply ab_gtup2 | with_reducible apply ab_gtup3 | with_reducible apply ab_gtup4 | with_reducible apply ab_gcons
  | with_reducible apply ab_cons | with_reducible apply ab_op | with_reducible apply ab_test | with_reducible apply ab_tB | with_reducible apply ab_and | with_reducible apply ab_or | with_reducible apply ab_not | with_reducible apply ab_andV | with_reducible apply ab_orV | with_reducible apply ab_notV | with_reducible apply ab_if
  | with_reducible apply ab_un | with_reducible apply ab_tup | with_reducible apply ab_lst | with_reducible apply ab_call | with_reducible apply ab_callK | with_reducible apply ab_cb | with_reducible apply ab_sl | with_reducible apply ab_part | with_reducible apply ab_backT | with_reducible apply ab_back0
  | with_reducible apply ab_lc | with_reducible apply ab_lenSetT | with_reducible apply ab_tupItems | with_reducible apply ab_stepT | with_reducible apply ab_sortItems | with_reducible apply ab_dc | with_reducible apply ab_listRg | with_reducible apply ab_star | with_reducible apply ab_starL | with_reducible apply ab_index | with_reducible apply ab_revL | with_reducible apply ab_callW | with_reducible apply ab_disp1 | with_reducible apply ab_dget1 | with_reducible apply ab_dget2 | with_reducible apply as_dput | with_reducible apply ab_chain | with_reducible apply ab_dget | with_reducible apply ab_din | with_reducible apply ab_dnotin | with_reducible apply ab_xin | with_reducible apply ab_xnotin | with_reducible apply ab_xget | with_reducible apply ab_xget1 | with_reducible apply as_xput
  | with_reducible apply ab_iany | with_reducible apply ab_ilist | with_reducible apply ab_itup | with_reducible apply ab_irng1 | with_reducible apply ab_irng2 | with_reducible apply ab_istr | with_reducible apply ab_ienum | with_reducible apply ab_ienumT
  | with_reducible apply ab_m1 | with_reducible apply ab_callLm | with_reducible apply ab_irev
  | with_reducible apply ab_tru
  | exact ab_keysAdd
  | (refine (show List.length _ = List.length _ from ?_); assumption)
  | rfl | (simp only [Tg.slots, tslots]; rfl)))
local macro_rules | `(tactic| walk_at "ago") => `(tactic| repeat (first
  | refine seqI ?_
  | refine ⟨_, rfl, szLe rfl, ?_⟩
  | refine ⟨_, rfl, ?_⟩
  | refine ⟨trivial, ?_⟩
  | refine ⟨_, _, rfl, rfl, ?_⟩
  | refine ⟨_, _, _, rfl, rfl, rfl, ?_⟩
  | refine ⟨_, _, _, rfl, (by decide), rfl, ?_⟩
  | refine ⟨_, _, _, _, rfl, rfl, rfl, rfl, rfl, ?_⟩
  | refine ⟨_, _, _, rfl, rfl, (by walk_at "side"), rfl, ?_⟩
  | refine ⟨_, _, rfl, rfl, (by walk_at "side"), ?_⟩
  | refine ⟨⟨_, rfl⟩, ?_⟩
  | refine ⟨rfl, ?_⟩))
local macro_rules | `(tactic| walk_at "agos") => `(tactic| repeat (first
  | refine ⟨_, rfl, szLe rfl, ?_⟩
  | refine ⟨_, rfl, ?_⟩
  | refine ⟨trivial, ?_⟩
  | refine ⟨_, _, rfl, rfl, ?_⟩
  | refine ⟨_, _, _, rfl, rfl, rfl, ?_⟩
  | refine ⟨_, _, _, rfl, (by decide), rfl, ?_⟩
  | refine ⟨_, _, _, _, rfl, rfl, rfl, rfl, rfl, ?_⟩
  | refine ⟨_, _, _, rfl, rfl, (by walk_at "side"), rfl, ?_⟩
  | refine ⟨_, _, rfl, rfl, (by walk_at "side"), ?_⟩
  | refine ⟨⟨_, rfl⟩, ?_⟩
  | refine ⟨rfl, ?_⟩))

abbrev s__law_right : Stmt := topS 32
abbrev N__law_right : List Str := ["hand", "names", "heads", "turn", "holes", "others", "by", "hole", "one", "other"]
theorem sc__law_right : FnScope N__law_right ["hand"] (defScope s__law_right) :=
  ⟨rfl, rfl, rfl, by decide +kernel, rfl, by decide +kernel, by decide +kernel⟩
theorem po__law_right : Posi "_law_right" s__law_right ["hand"] := fun _ _ _ _ _ _ us hl => match us, hl with | [_], _ => rfl

mutual
theorem ofHole {ns : List (Str × Int)} {zs : List Str} : ∀ t : Tr, t.of ns zs → ∀ z, Tr.h z ∈ t.pre → z ∈ zs
  | .h s, h, z, hm => by
    have e := List.mem_singleton.mp hm
    injection e with e
    rw [e]; exact h
  | .n f ps, h, z, hm => by
    rcases List.mem_cons.mp hm with e | hm
    · cases e
    · exact ofHoles ps h.2 z hm
theorem ofHoles {ns : List (Str × Int)} {zs : List Str} : ∀ ts : List Tr, ofs ns zs ts → ∀ z, Tr.h z ∈ pres ts → z ∈ zs
  | [], _, z, hm => by cases hm
  | t :: r, h, z, hm => by
    rw [pres_cons] at hm
    rcases List.mem_append.mp hm with hm | hm
    · exact ofHole t h.1 z hm
    · exact ofHoles r h.2 z hm
end
mutual
theorem ofName {ns : List (Str × Int)} {zs : List Str} : ∀ t : Tr, t.of ns zs → ∀ f ps, Tr.n f ps ∈ t.pre → (f, (ps.length : Int)) ∈ ns
  | .h s, h, f, ps, hm => by cases List.mem_singleton.mp hm
  | .n g qs, h, f, ps, hm => by
    rcases List.mem_cons.mp hm with e | hm
    · injection e with e1 e2
      rw [e1, e2]; exact h.1
    · exact ofNames qs h.2 f ps hm
theorem ofNames {ns : List (Str × Int)} {zs : List Str} : ∀ ts : List Tr, ofs ns zs ts → ∀ f ps, Tr.n f ps ∈ pres ts → (f, (ps.length : Int)) ∈ ns
  | [], _, f, ps, hm => by cases hm
  | t :: r, h, f, ps, hm => by
    rw [pres_cons] at hm
    rcases List.mem_append.mp hm with hm | hm
    · exact ofName t h.1 f ps hm
    · exact ofNames r h.2 f ps hm
end
mutual
theorem ofInst {ns : List (Str × Int)} {zs os : List Str} {s : Str → Tr} : ∀ t : Tr, t.of ns zs → (∀ z, Tr.h z ∈ t.pre → (s z).of ns os) → (t.inst s).of ns os
  | .h z, _, hs => by rw [Tr.inst]; exact hs z List.mem_cons_self
  | .n f ps, h, hs => by
    rw [Tr.inst]
    refine ⟨?_, ofInsts ps h.2 fun z hz => hs z (List.mem_cons_of_mem _ hz)⟩
    rw [instsLen]; exact h.1
theorem ofInsts {ns : List (Str × Int)} {zs os : List Str} {s : Str → Tr} : ∀ ts : List Tr, ofs ns zs ts → (∀ z, Tr.h z ∈ pres ts → (s z).of ns os) → ofs ns os (insts s ts)
  | [], _, _ => by rw [insts]; exact trivial
  | t :: r, h, hs => by
    rw [insts]
    exact ⟨ofInst t h.1 fun z hz => hs z (by rw [pres_cons]; exact List.mem_append_left _ hz), ofInsts r h.2 fun z hz => hs z (by rw [pres_cons]; exact List.mem_append_right _ hz)⟩
end
theorem hdOf {ns : List (Str × Int)} {zs : List Str} {t : Tr} (h : t.of ns zs) (hN : NamesOk ns) (hu : ∀ p ∈ ns, NoUn p.1) (hz : ∀ z ∈ zs, Nm z) (hl : zs.length ≤ 4) (g : G 52 5 t) : HdOk t :=
  ⟨g, ⟨fun z hm => hz z (ofHole t h z hm), fun f ps hm => (hN.full _ (ofName t h f ps hm)).1⟩, Nat.le_trans (holeSub fun z hm => ofHole t h z hm) hl, fun f ps hm => hu _ (ofName t h f ps hm)⟩
theorem subOfP {l : List (Str × Tr)} {P : Tr → Prop} (hl : ∀ p ∈ l, P p.2) {z : Str} (hz : z ∈ l.map (·.1)) : P ((HM.of l).sub z) := by
  have key : ∀ (l : List (Str × Tr)) (m : HM), (z ∈ l.map (·.1) ∨ (m.get z).isSome = true) → ((l.foldl (fun acc p => acc.put p.1 p.2) m : HM).get z).isSome = true := by
    intro l
    induction l with
    | nil => intro m h; exact h.resolve_left (by simp)
    | cons p r ih =>
      intro m hz
      rw [List.foldl_cons]
      refine ih _ ?_
      rw [getPut]
      by_cases e : z = p.1
      · rw [if_pos e]; exact .inr rfl
      · rw [if_neg e]
        refine hz.imp (fun h => ?_) id
        rw [List.map_cons] at h
        exact (List.mem_cons.mp h).resolve_left e
  have hs := key l [] (.inl hz)
  unfold HM.sub
  cases hg : (HM.of l).get z with
  | none => unfold HM.of at hg; rw [hg] at hs; cases hs
  | some u => exact ofP hl (z, u) (getMem hg)
theorem atN1 {α : Type} (xs : List α) (x : α) : atI (xs ++ [x]) (-1) = some x := atI_last (by simp)
theorem atN2 {α : Type} (xs : List α) (x y : α) : atI (xs ++ [x] ++ [y]) (-2) = some x := by
  have e : ixN (xs ++ [x] ++ [y]).length (-2) = some xs.length := by
    unfold ixN
    simp
    omega
  unfold L2.atI
  rw [e]
  simp
theorem atN3 {α : Type} (xs : List α) (x y z : α) : atI (xs ++ [x] ++ [y] ++ [z]) (-3) = some x := by
  have e : ixN (xs ++ [x] ++ [y] ++ [z]).length (-3) = some xs.length := by
    unfold ixN
    simp
    omega
  unfold L2.atI
  rw [e]
  simp
def fRight : FS := fun as n q => as = [.hd] ∧ n = 0 ∧ ∀ m, q (.d (.bool true)) m
section
variable {P : Program} {w : World} {K : PySem.W.Frag} {mg : Str → Option Value} {base : Heap} {tb : TBs}
theorem a_right (T : At K mg "_law_right" s__law_right)
    (d__law_take : Has P w K mg base 1 "_law_take" s__law_take ["hand", "many"] (spA (lw K tb) fTake))
    (d__law_of : Has P w K mg base 2 "_law_of" s__law_of ["hand", "some"] (spA (lw K tb) fOf))
    (d__law_words : Has P w K mg base 3 "_law_words" s__law_words ["hand"] (spA (lw K tb) fWords))
    (d__law_called : Has P w K mg base 3 "_law_called" s__law_called ["hand"] (spA (lw K tb) fCalled))
    (d__law_tree : Has P w K mg base 6 "_law_tree" s__law_tree ["hand", "names", "holes", "deep"] (spA (lw K tb) (fun as n q => ∃ d, d ≤ 1 ∧ fTree d as n q)))
    (d__law_head : Has P w K mg base 5 "_law_head" s__law_head ["hand", "names", "holes", "deep"] (spA (lw K tb) fHead))
    (d__law_put : Has P w K mg base 6 "_law_put" s__law_put ["tree", "by"] (spA (lw K tb) (fPut 5)))
    (d__law_holes : Has P w K mg base 7 "_law_holes" s__law_holes ["tree"] (spA (lw K tb) (fHolesX 5)))
    (d_is_instance : Has P w K mg base 3 "is_instance" s_is_instance ["one", "other"] (spA (lw K tb) fInst))
    (d__law_pair_right : Has P w K mg base 9 "_law_pair_right" s__law_pair_right ["hand", "names", "one", "other"] (spA (lw K tb) fPair))
    (mb_range : mg "range" = none) (mb_all : mg "all" = none) (mb_dict : mg "dict" = none) :
    HasG P w K mg base 25 "_law_right" s__law_right ["hand"] (spA (lw K tb) fRight) := by
  refine T.hasGA sc__law_right po__law_right (fun as n q h => by rw [h.1]; rfl) (fun f cdv Ar outer s H E hG hr => ?_)
  have nd := sc__law_right.nd
  refine' bodyA (fun as n q h => by rw [h.1]; decide) (pss_cons (show PS _ _ (tAsgT2 true false _ _) from (ps_asg (pe_tup (pa_cons (pe_callD d__law_words (by omega) hr (pa_cons (pv 0) pa_nil)) (pa_cons (pe_lst pa_nil) pa_nil))) (pgTup K 2 rfl (pgs_cons (pg_name (i := 1) nd rfl (.inr rfl)) (pgs_cons (pg_name (i := 2) nd rfl (.inl rfl)) pgs_nil)))))
      (pss_cons (ps_for PassesOwn.never rfl (pi_range1 (by rfl) mb_range (pa_cons pe_int pa_nil)) (pg_name (i := 3) nd rfl (.inl rfl)) (pss_cons (ps_expr (pe_bm PySem.F.plainAttrs_list PySem.F.slot_list_append PySem.F.type_list_append mt_append (pv 2) (pa_cons (pe_callD d__law_head (by omega) hr (pa_cons (pv 0) (pa_cons (pv 1) (pa_cons (pe_callD d__law_called (by omega) hr (pa_cons (pv 0) pa_nil)) (pa_cons pe_int pa_nil))))) pa_nil)))
      (pss_cons (ps_asg (pe_tup (pa_cons (pe_callD d__law_holes (by omega) hr (pa_cons (pe_ix (ixQ K) (pv 2) (pe_un un_neg pe_int) (fun _ _ => rfl)) pa_nil)) (pa_cons (pe_callD d__law_called (by omega) hr (pa_cons (pv 0) pa_nil)) pa_nil))) (pgTup K 2 rfl (pgs_cons (pg_name (i := 4) nd rfl (.inl rfl)) (pgs_cons (pg_name (i := 5) nd rfl (.inr rfl)) pgs_nil))))
      (pss_cons (ps_setF (i := 6) nd rfl (Or.inl rfl) (pe_callTy (call_dictQ rfl K) (by rfl) mb_dict (by decide +kernel) (pa_cons (pe_lc (own := [("hole", 7)]) (by rfl) nd (pi_any (pv 4)) (blkOk_by (own := [("hole", 7)]) (N := N__law_right) (sc := defScope s__law_right) (by decide +kernel)) (fun _ _ _ _ _ => (pg_name (i := 7) nd rfl (.inl rfl))) (fun _ _ _ _ _ => pts_nil) (fun _ _ _ _ _ => (pe_tup (pa_cons (pv 7) (pa_cons (pe_callD d__law_tree (by omega) hr (pa_cons (pv 0) (pa_cons (pv 1) (pa_cons (pv 5) (pa_cons (pe_callD d__law_take (by omega) hr (pa_cons (pv 0) (pa_cons pe_int pa_nil))) pa_nil))))) pa_nil))))) pa_nil)))
      (pss_cons (ps_expr (pe_bm PySem.F.plainAttrs_list PySem.F.slot_list_append PySem.F.type_list_append mt_append (pv 2) (pa_cons (pe_callD d__law_put (by omega) hr (pa_cons (pe_ix (ixQ K) (pv 2) (pe_un un_neg pe_int) (fun _ _ => rfl)) (pa_cons (pv 6) pa_nil))) pa_nil)))
      (pss_cons (ps_asg (pe_tup (pa_cons (pe_callD d__law_holes (by omega) hr (pa_cons (pe_ix (ixQ K) (pv 2) (pe_un un_neg pe_int) (fun _ _ => rfl)) pa_nil)) (pa_cons (pe_lst (pa_cons pe_str (pa_cons pe_str pa_nil))) pa_nil))) (pgTup K 2 rfl (pgs_cons (pg_name (i := 4) nd rfl (.inl rfl)) (pgs_cons (pg_name (i := 5) nd rfl (.inr rfl)) pgs_nil))))
      (pss_cons (ps_expr (pe_bm PySem.F.plainAttrs_list PySem.F.slot_list_append PySem.F.type_list_append mt_append (pv 2) (pa_cons (pe_callD d__law_put (by omega) hr (pa_cons (pe_ix (ixQ K) (pv 2) (pe_un un_neg pe_int) (fun _ _ => rfl)) (pa_cons (pe_callTy (call_dictQ rfl K) (by rfl) mb_dict (by decide +kernel) (pa_cons (pe_lc (own := [("hole", 7)]) (by rfl) nd (pi_any (pv 4)) (blkOk_by (own := [("hole", 7)]) (N := N__law_right) (sc := defScope s__law_right) (by decide +kernel)) (fun _ _ _ _ _ => (pg_name (i := 7) nd rfl (.inl rfl))) (fun _ _ _ _ _ => pts_nil) (fun _ _ _ _ _ => (pe_tup (pa_cons (pv 7) (pa_cons (pe_callD d__law_of (by omega) hr (pa_cons (pv 0) (pa_cons (pv 5) pa_nil))) pa_nil))))) pa_nil)) pa_nil))) pa_nil)))
      (pss_one (ps_if (PW.pt (pw_or (pt_not (pt_val (pe_callD d_is_instance (by omega) hr (pa_cons (pe_ix (ixQ K) (pv 2) (pe_un un_neg pe_int) (fun _ _ => rfl)) (pa_cons (pe_ix (ixQ K) (pv 2) (pe_un un_neg pe_int) (fun _ _ => rfl)) pa_nil))))) (pw_or1 (pt_not (pt_val (pe_callD d_is_instance (by omega) hr (pa_cons (pe_ix (ixQ K) (pv 2) (pe_un un_neg pe_int) (fun _ _ => rfl)) (pa_cons (pe_ix (ixQ K) (pv 2) (pe_un un_neg pe_int) (fun _ _ => rfl)) pa_nil)))))))) (pss_one (ps_ret pe_bl)) pss_nil)))))))))
      (pss_cons (ps_frz 2 (ps_for PassesOwn.never rfl (pi_any (pe_slice (slQ K) (pv 2) po_none (po_some pe_int))) (pg_name (i := 8) nd rfl (.inr rfl)) (pss_one (ps_frz 2 (ps_if (pt_not (pt_val (pe_callB (cr_all rfl) (by rfl) mb_all (by decide +kernel) (pa_cons (pe_lc (own := [("other", 9)]) (by rfl) nd (pi_any (pv 2)) (blkOk_by (own := [("other", 9)]) (N := N__law_right) (sc := defScope s__law_right) (by decide +kernel)) (fun _ _ _ _ _ => (pg_name (i := 9) nd rfl (.inl rfl))) (fun _ _ _ _ _ => pts_nil) (fun _ _ _ _ _ => (pe_callD d__law_pair_right (by omega) hr (pa_cons (pv 0) (pa_cons (pv 1) (pa_cons (pv 8) (pa_cons (pv 9) pa_nil))))))) pa_nil)))) (pss_one (ps_ret pe_bl)) pss_nil)))))
      (pss_one (ps_ret pe_bl))))) ?ab ?go
  case ab => walk_at "ab"
  case go =>
    rintro as n q ⟨rfl, rfl, hq⟩
    refine seqI ?_
    walk_at "agos"
    refine ⟨by omega, fun ns n1 hN hu m1 m2 => ?_⟩
    walk_at "agos"
    refine envTo (e' := [some .hd, some (.d (.list (ns.map nameP))), some (.ol []), none, none, none, none, none, none, none]) rfl ?_
    refine seqI ?_
    walk_at "agos"
    refine ⟨by decide, by decide, ?_⟩
    refine hold (aLoop_ind (fun rem e k => k + 80 * rem.length ≤ 180 ∧ ∃ (hs : List Tr) (x3 x4 x5 x6 x7 : Option A), hs.length + 3 * rem.length = 6 ∧ (∀ u ∈ hs, HdOk u) ∧ e = [some .hd, some (.d (.list (ns.map nameP))), some (.ol (hs.map Tr.data)), x3, x4, x5, x6, x7, none, none])
      (fun e k hG => ?_) (fun x r e k hG ih => ?_) _ _ _ ⟨by simp [rngD]; omega, [], none, none, none, none, none, rfl, by simp, rfl⟩)
    · obtain ⟨g0, hs, x3, x4, x5, x6, x7, g1, g2, rfl⟩ := hG
      rw [List.length_nil] at g0 g1
      refine seqI ?_
      walk_at "agos"
      refine .inl ?_
      walk_at "agos"
      rw [cutMap]
      have lh : hs.length = 6 := by omega
      have hc : (cutL hs none (some 4)).length = 4 := by
        unfold cutL
        rw [show (4 : Int) = ((4 : Nat) : Int) from rfl, HT.sIx_none, HT.sIx_nat, List.length_take, List.length_drop, lh]
        rfl
      have hm : ∀ u ∈ cutL hs none (some 4), HdOk u := fun u hu => g2 u (cutMem hu)
      generalize cutL hs none (some 4) = hs4 at hc hm
      refine hold (aLoop_ind (fun rem e k => ∃ (rm : List Tr) (x8 : Option A), k + 600 * rem.length ≤ 2600 ∧ rem = rm.map Tr.data ∧ (∀ u ∈ rm, HdOk u) ∧ e = [some .hd, some (.d (.list (ns.map nameP))), some (.d (.list (hs.map Tr.data))), x3, x4, x5, x6, x7, x8, none])
        (fun e k hG => ?_) (fun x r e k hG ih => ?_) _ _ _ ⟨hs4, none, by rw [List.length_map, hc]; omega, rfl, hm, rfl⟩)
      · obtain ⟨rm, x8, h1, h2, h3, rfl⟩ := hG
        walk_at "agos"
        exact hq k
      · obtain ⟨rm, x8, h1, h2, h3, rfl⟩ := hG
        obtain ⟨one, rm, rfl⟩ : ∃ z rm', rm = z :: rm' := by
          cases rm with
          | nil => cases h2
          | cons z rm => exact ⟨z, rm, rfl⟩
        cases h2
        rw [List.length_cons] at h1
        have ho := h3 one List.mem_cons_self
        rw [aLoop]
        walk_at "agos"
        refine .inl ?_
        walk_at "agos"
        refine hold (aGoY_ind (fun rem acc m => ∃ rm : List Tr, (∀ u ∈ rm, HdOk u) ∧ rem = rm.map Tr.data ∧ acc.length + rem.length = 6 ∧ m ≤ k + 100 * acc.length ∧ acc = (List.replicate acc.length true).map PyData.bool) (fun acc m hG => ?_) (fun y r' acc m hG ih3 => ?_) _ _ _ ⟨hs, g2, rfl, by rw [List.length_map, lh]; rfl, Nat.le_refl _, rfl⟩)
        · obtain ⟨rm', g5, e2, g6, g7, g8⟩ := hG
          rw [List.length_nil] at g6
          rw [g8]
          refine ⟨_, List.replicate acc.length true, rfl, rfl, ?_⟩
          have er : (List.replicate acc.length true).all id = true := by rw [List.all_eq_true]; intro b hb; exact (List.mem_replicate.mp hb).2
          refine ⟨_, rfl, ?_⟩
          refine ifF (by show (!((List.replicate acc.length true).all id)) = false; rw [er]; rfl) ?_
          refine ih _ _ ⟨rm, _, by omega, rfl, fun u hu => h3 u (List.mem_cons_of_mem _ hu), rfl⟩
        · obtain ⟨rm', g5, e2, g6, g7, g8⟩ := hG
          obtain ⟨other, rm', rfl⟩ : ∃ z rm'', rm' = z :: rm'' := by
            cases rm' with
            | nil => cases e2
            | cons z rm => exact ⟨z, rm, rfl⟩
          cases e2
          rw [List.length_cons] at g6
          walk_at "ago"
          refine ⟨ns, one, other, rfl, hN.ok, ho, g5 other List.mem_cons_self, by omega, fun m' q1 q2 => ?_⟩
          refine ⟨_, rfl, by rw [sizeLine_eq]; omega, ih3 _ _ ⟨rm', fun v hv => g5 v (List.mem_cons_of_mem _ hv), rfl, by rw [List.length_append, List.length_singleton]; omega, by rw [List.length_append, List.length_singleton]; omega, ?_⟩⟩
          rw [List.length_append, List.length_singleton, List.replicate_succ', List.map_append, ← g8]; rfl
    · obtain ⟨g0, hs, x3, x4, x5, x6, x7, g1, g2, rfl⟩ := hG
      rw [List.length_cons] at g0 g1
      rw [aLoop]
      refine seqI ?_
      walk_at "agos"
      refine ⟨by omega, fun zs hZ => ?_⟩
      have lz := hZ.2.1
      walk_at "agos"
      refine ⟨ns, zs, rfl, hN, by omega, hZ.2.2.2, by omega, fun t k1 t1 t2 t3 t4 t5 t6 => ?_⟩
      have gt : G 13 3 t := ⟨t4, t3, ofSyms hN.ok hZ.2.2.2 t t1⟩
      have ht := hdOf t1 hN.ok hu hZ.2.2.2 lz (gt.up (by omega) (by omega))
      walk_at "agos"
      refine ⟨by rw [List.length_map, sizeLine_eq]; omega, ?_⟩
      refine envTo (e' := [some .hd, some (.d (.list (ns.map nameP))), some (.ol (hs.map Tr.data ++ [t.data])), some (.d x), x4, x5, x6, x7, none, none]) rfl ?_
      refine seqI ?_
      walk_at "agos"
      refine ⟨_, atN1 _ _, ?_⟩
      walk_at "agos"
      refine ⟨by have := gt.deep; omega, by omega, ht.gd, ?_⟩
      walk_at "agos"
      refine ⟨by omega, fun os hO => ?_⟩
      have lo := hO.2.1
      walk_at "agos"
      refine envTo (e' := [some .hd, some (.d (.list (ns.map nameP))), some (.ol (hs.map Tr.data ++ [t.data])), some (.d x), some (.d (strsD t.holes)), some (.d (strsD os)), x6, x7, none, none]) rfl ?_
      refine seqI ?_
      walk_at "agos"
      refine .inl ?_
      walk_at "agos"
      refine hold (aGoY_ind (fun rem acc m => ∃ (dn rm : List Str) (l : List (Str × Tr)), t.holes = dn ++ rm ∧ rem = rm.map PyData.str ∧ acc = itemsD (HM.data l) ∧ l.map (·.1) = dn ∧ (∀ p ∈ l, p.2.of ns os ∧ G 4 2 p.2) ∧ k1 ≤ m ∧ m ≤ k1 + 1 + 9 * dn.length)
        (fun acc m hG => ?_) (fun y r' acc m hG ih2 => ?_) _ _ _ ⟨[], t.holes, [], rfl, rfl, rfl, rfl, by simp, by omega, by omega⟩)
      rotate_left
      · obtain ⟨dn, rm, l, e1, e2, rfl, g1', g2', g3, g4⟩ := hG
        obtain ⟨z, rm, rfl⟩ : ∃ z rm', rm = z :: rm' := by
          cases rm with
          | nil => cases e2
          | cons z rm => exact ⟨z, rm, rfl⟩
        cases e2
        have ld : dn.length + 1 ≤ 4 := by have := ht.few; rw [e1, List.length_append, List.length_cons] at this; omega
        walk_at "ago"
        refine drawN (by omega) (by decide) (by decide) fun d d0 d4 => ?_
        walk_at "ago"
        obtain ⟨kk, rfl⟩ : ∃ kk : Nat, d = (kk : Int) := ⟨d.toNat, by omega⟩
        have hk : kk ≤ 1 := by omega
        have ck : costT kk ≤ 8 ∧ mostT kk ≤ 4 := by
          rcases (show kk = 0 ∨ kk = 1 by omega) with rfl | rfl <;> decide
        refine ⟨kk, hk, ns, os, rfl, hN.ok, by omega, hO.2.2.2, by omega, fun u m4 u1 u2 u3 u4 u5 => ?_⟩
        walk_at "ago"
        have gl := congrArg List.length g1'
        rw [List.length_map] at gl
        have il : (itemsD (HM.data l)).length = dn.length := by rw [itemsOf, List.length_map, gl]
        refine ⟨by rw [il, sizeLine_eq]; omega, ih2 _ _ ⟨dn ++ [z], rm, l ++ [(z, u)], by rw [e1, List.append_assoc]; rfl, rfl, ?_, by rw [List.map_append, g1']; rfl, fun p hp => ?_, by omega, by rw [List.length_append, List.length_singleton]; omega⟩⟩
        · rw [itemsOf, itemsOf, List.map_append]; rfl
        · rcases List.mem_append.mp hp with hp | hp
          · exact g2' p hp
          · rw [List.mem_singleton.mp hp]
            exact ⟨u1, by show u.size ≤ 4; omega, by show u.deep ≤ 2; omega, ofSyms hN.ok hO.2.2.2 u u1⟩
      · obtain ⟨dn, rm, l, e1, e2, rfl, g1', g2', g3, g4⟩ := hG
        obtain rfl : rm = [] := List.map_eq_nil_iff.mp e2.symm
        rw [List.append_nil] at e1
        have ld : dn.length ≤ 4 := by have := ht.few; rw [e1] at this; omega
        rw [← e1] at g1'
        have o1 : (t.inst (HM.of l).sub).of ns os := ofInst t t1 fun z hz => subOfP (P := fun u => u.of ns os) (fun p hp => (g2' p hp).1) (by rw [g1']; exact holesMem'.mpr hz)
        have G1 : G 52 5 (t.inst (HM.of l).sub) := G.inst (S' := 4) (D' := 2) gt (ofP (P := G 4 2) fun p hp => (g2' p hp).2) (by decide)
        have ht1 := hdOf o1 hN.ok hu hO.2.2.2 lo G1
        have c1 : Comes (t.inst (HM.of l).sub) t := Comes.inst _ _
        walk_at "agos"
        rw [mergeNil]
        refine envTo (e' := [some .hd, some (.d (.list (ns.map nameP))), some (.ol (hs.map Tr.data ++ [t.data])), some (.d x), some (.d (strsD t.holes)), some (.d (strsD os)), some (.d (.dict (kvD (HM.of l).data))), x7, none, none]) rfl ?_
        refine seqI ?_
        walk_at "agos"
        refine ⟨_, atN1 _ _, ?_⟩
        walk_at "agos"
        refine ⟨t, HM.of l, rfl, by have := gt.deep; omega, by omega, ?_⟩
        generalize HM.of l = by_ at G1 c1 ht1 o1
        generalize t.inst by_.sub = ta at G1 c1 ht1 o1
        have sa := G1.size
        walk_at "agos"
        refine ⟨by rw [List.length_append, List.length_map, sizeLine_eq]; show _ + 1 + 1 ≤ _; omega, ?_⟩
        refine envTo (e' := [some .hd, some (.d (.list (ns.map nameP))), some (.ol (hs.map Tr.data ++ [t.data] ++ [ta.data])), some (.d x), some (.d (strsD t.holes)), some (.d (strsD os)), some (.d (.dict (kvD by_.data))), x7, none, none]) rfl ?_
        refine seqI ?_
        walk_at "agos"
        refine ⟨_, atN1 _ _, ?_⟩
        walk_at "agos"
        refine ⟨G1.deep, by omega, ht1.gd, ?_⟩
        walk_at "agos"
        simp only [putTs, putT]
        refine envTo (e' := [some .hd, some (.d (.list (ns.map nameP))), some (.ol (hs.map Tr.data ++ [t.data] ++ [ta.data])), some (.d x), some (.d (strsD ta.holes)), some (.d (strsD [Str.ofString "a", Str.ofString "x"])), some (.d (.dict (kvD by_.data))), x7, none, none]) rfl ?_
        refine seqI ?_
        walk_at "agos"
        refine ⟨_, atN1 _ _, ?_⟩
        walk_at "agos"
        refine .inl ?_
        walk_at "agos"
        have axn : ∀ z ∈ [Str.ofString "a", Str.ofString "x"], Nm z := by decide +kernel
        refine hold (aGoY_ind (fun rem acc m2 => ∃ (dn rm : List Str) (l : List (Str × Tr)), ta.holes = dn ++ rm ∧ rem = rm.map PyData.str ∧ acc = itemsD (HM.data l) ∧ l.map (·.1) = dn ∧ (∀ p ∈ l, p.2.of ns [Str.ofString "a", Str.ofString "x"] ∧ G 1 0 p.2) ∧ m ≤ m2 ∧ m2 ≤ m + dn.length)
          (fun acc m2 hG => ?_) (fun y r' acc m2 hG ih2 => ?_) _ _ _ ⟨[], ta.holes, [], rfl, rfl, rfl, rfl, by simp, by omega, by omega⟩)
        rotate_left
        · obtain ⟨dn', rm, l', f1, f2, rfl, f3, f4, f5, f6⟩ := hG
          obtain ⟨z, rm, rfl⟩ : ∃ z rm', rm = z :: rm' := by
            cases rm with
            | nil => cases f2
            | cons z rm => exact ⟨z, rm, rfl⟩
          cases f2
          have ld' : dn'.length + 1 ≤ 4 := by have := ht1.few; rw [f1, List.length_append, List.length_cons] at this; omega
          walk_at "ago"
          refine drawL (by omega) (by simp) (by decide) fun y hy => ?_
          obtain ⟨u, hu2, rfl⟩ : ∃ u ∈ [Str.ofString "a", Str.ofString "x"], y = .str u := by
            obtain ⟨u, hu2, rfl⟩ := List.mem_map.mp hy
            exact ⟨u, hu2, rfl⟩
          walk_at "ago"
          have gl := congrArg List.length f3
          rw [List.length_map] at gl
          have il : (itemsD (HM.data l')).length = dn'.length := by rw [itemsOf, List.length_map, gl]
          have nu := axn u hu2
          refine ⟨by rw [il, sizeLine_eq]; omega, ih2 _ _ ⟨dn' ++ [z], rm, l' ++ [(z, .h u)], by rw [f1, List.append_assoc]; rfl, rfl, ?_, by rw [List.map_append, f3]; rfl, fun p hp => ?_, by omega, by rw [List.length_append, List.length_singleton]; omega⟩⟩
          · rw [itemsOf, itemsOf, List.map_append]
            show _ = _ ++ [PyData.tuple [.str z, (Tr.h u).data]]
            rw [Tr.data]
          · rcases List.mem_append.mp hp with hp | hp
            · exact f4 p hp
            · rw [List.mem_singleton.mp hp]
              exact ⟨hu2, G.hole ⟨nu.sm, by have := nu.2.1; omega⟩⟩
        · obtain ⟨dn', rm, l', f1, f2, rfl, f3, f4, f5, f6⟩ := hG
          obtain rfl : rm = [] := List.map_eq_nil_iff.mp f2.symm
          rw [List.append_nil] at f1
          have ld' : dn'.length ≤ 4 := by have := ht1.few; rw [f1] at this; omega
          rw [← f1] at f3
          have o2 : (ta.inst (HM.of l').sub).of ns [Str.ofString "a", Str.ofString "x"] := ofInst ta o1 fun z hz => subOfP (P := fun u => u.of ns [Str.ofString "a", Str.ofString "x"]) (fun p hp => (f4 p hp).1) (by rw [f3]; exact holesMem'.mpr hz)
          have G2 : G 52 5 (ta.inst (HM.of l').sub) := G.inst (S' := 1) (D' := 0) G1 (ofP (P := G 1 0) fun p hp => (f4 p hp).2) (by decide)
          have ht2 := hdOf o2 hN.ok hu axn (by decide) G2
          have c2 : Comes (ta.inst (HM.of l').sub) ta := Comes.inst _ _
          walk_at "agos"
          rw [mergeNil]
          refine ⟨ta, HM.of l', rfl, G1.deep, by omega, ?_⟩
          generalize HM.of l' = by2 at G2 c2 ht2 o2
          generalize ta.inst by2.sub = tc at G2 c2 ht2 o2
          have sc := G2.size
          walk_at "agos"
          refine ⟨by rw [List.length_append, List.length_append, List.length_map, sizeLine_eq]; show _ + 1 + 1 + 1 ≤ _; omega, ?_⟩
          have M1 : (matchGo (t.size + 1) [(t, tc)] []).isSome = true := (matchComes _ _).mpr (c2.trans c1)
          have M2 : (matchGo (ta.size + 1) [(ta, tc)] []).isSome = true := (matchComes _ _).mpr c2
          walk_at "agos"
          refine ⟨_, atN1 _ _, ?_⟩
          walk_at "agos"
          refine ⟨_, atN3 _ _ _ _, ?_⟩
          walk_at "agos"
          refine ⟨tc, t, rfl, by omega, by omega, ht2.fit, ?_⟩
          rw [M1]
          walk_at "agos"
          refine ⟨_, atN1 _ _, ?_⟩
          walk_at "agos"
          refine ⟨_, atN2 _ _ _, ?_⟩
          walk_at "agos"
          refine ⟨tc, ta, rfl, by omega, by omega, ht2.fit, ?_⟩
          rw [M2]
          walk_at "agos"
          refine ih [some .hd, some (.d (.list (ns.map nameP))), some (.ol (hs.map Tr.data ++ [t.data] ++ [ta.data] ++ [tc.data])), some (.d x), some (.d (strsD ta.holes)), some (.d (strsD [Str.ofString "a", Str.ofString "x"])), some (.d (.dict (kvD by_.data))), x7, none, none] m2 ⟨by omega, hs ++ [t, ta, tc], some (.d x), some (.d (strsD ta.holes)), some (.d (strsD [Str.ofString "a", Str.ofString "x"])), some (.d (.dict (kvD by_.data))), x7, by rw [List.length_append]; show hs.length + 3 + _ = 6; omega, fun u hu => ?_, by simp⟩
          rcases List.mem_append.mp hu with hu | hu
          · exact g2 u hu
          · simp only [List.mem_cons, List.not_mem_nil, or_false] at hu
            rcases hu with rfl | rfl | rfl
            · exact ht
            · exact ht1
            · exact ht2
end
end Ah
namespace Ah
open PySem PySem.Spec PyProof.Rows L2
local macro_rules | `(tactic| walk_at "side") => `(tactic| first | omega | decide | (dsimp only; omega) | (unfold CDivN; omega) | (unfold CMul; omega) | (unfold CPow; omega) | (unfold CPow; decide) | (unfold CMulW; decide) | exact szLe rfl | rfl)
local macro_rules | `(tactic| walk_at "here") => `(tactic| first | assumption | exact upd_same)
local macro_rules | `(tactic| walk_at "go") => `(tactic| repeat (first
  | (refine ⟨_, rfl, ?_⟩)
  | (refine ⟨_, _, rfl, rfl, ?_⟩)
  | (refine ⟨_, _, _, _, rfl, rfl, SqL.of (by walk_at "here"), rfl, ?_⟩)
  | (refine ⟨_, _, _, _, rfl, rfl, (by walk_at "here"), rfl, ?_⟩)
  | (refine ⟨_, _, rfl, ?_⟩)
  | (refine And.intro (by walk_at "side") ?_)))
local macro_rules | `(tactic| walk_at "ab") => `(tactic| (try dsimp only [noxK]); repeat (first
  | with_reducible exact ab_var | with_reducible exact ab_int | with_reducible exact ab_str | with_reducible exact ab_bl | with_reducible exact ab_non | with_reducible exact ab_ty | with_reducible exact ab_nil | with_reducible exact ab_noPart | with_reducible exact ab_yes | with_reducible exact ab_dnew | with_reducible exact ab_xnew
  | with_reducible exact as_next | with_reducible exact as_retN | with_reducible exact as_break | with_reducible exact as_cont | with_reducible exact ab_gname | with_reducible exact ab_gnil
  | with_reducible exact oa_I0 | with_reducible exact oa_I | with_reducible exact oa_eq | with_reducible exact oa_ne | with_reducible exact oa_addQ | with_reducible exact oa_ixQ | with_reducible exact oa_eqD | with_reducible exact oa_neD | with_reducible exact oa_isTyB | with_reducible exact oa_notTyB | with_reducible exact oa_NT | with_reducible exact cb_sortD | with_reducible exact oa_isN | with_reducible exact oa_notN | with_reducible exact oa_mulQ | with_reducible exact oa_mulS | with_reducible exact oa_repT | with_reducible exact oa_inS | with_reducible exact oa_notInS | with_reducible exact oa_cat | with_reducible exact oa_catU
  | with_reducible exact cb_len | with_reducible exact cb_type | with_reducible exact cb_isi | with_reducible exact cb_repr | with_reducible exact cb_listOf | with_reducible exact cb_tupOf | with_reducible exact cb_max2 | with_reducible exact cb_minL | with_reducible exact cb_intB | with_reducible exact cb_all | with_reducible exact cb_any | with_reducible exact cb_listZip | with_reducible exact cb_listZipL | with_reducible exact cb_dictP | with_reducible exact oa_isB | with_reducible exact oa_notB | with_reducible exact cb_tupD | with_reducible exact cb_divmod | with_reducible exact oa_inD | with_reducible exact oa_notInD
  | with_reducible exact ma_join | with_reducible exact ma_find | with_reducible exact ma_count | with_reducible exact ma_split
  | with_reducible apply as_appTaken (by decide) | with_reducible apply as_ifSetd | with_reducible apply as_appPop | with_reducible apply as_update | with_reducible apply as_par3F | with_reducible apply as_asgT3 | with_reducible apply as_asgT2 | with_reducible apply as_frz | with_reducible apply as_setF | with_reducible apply as_parF | with_reducible apply as_seq | with_reducible apply as_if | with_reducible apply as_ret | with_reducible apply as_append | with_reducible apply as_extend | with_reducible apply as_pop | with_reducible apply as_popAt | with_reducible apply as_drop | with_reducible apply as_set | with_reducible apply as_par | with_reducible apply as_asg | with_reducible apply as_for | with_reducible apply as_while
  | with_reducible apply ab_gtup2 | with_reducible apply ab_gtup3 | with_reducible apply ab_gtup4 | with_reducible apply ab_gcons
  | with_reducible apply ab_cons | with_reducible apply ab_op | with_reducible apply ab_test | with_reducible apply ab_tB | with_reducible apply ab_and | with_reducible apply ab_or | with_reducible apply ab_not | with_reducible apply ab_andV | with_reducible apply ab_orV | with_reducible apply ab_notV | with_reducible apply ab_if
  | with_reducible apply ab_un | with_reducible apply ab_tup | with_reducible apply ab_lst | with_reducible apply ab_call | with_reducible apply ab_callK | with_reducible apply ab_cb | with_reducible apply ab_sl | with_reducible apply ab_part | with_reducible apply ab_backT | with_reducible apply ab_back0
  | with_reducible apply ab_lc | with_reducible apply ab_lenSetT | with_reducible apply ab_tupItems | with_reducible apply ab_stepT | with_reducible apply ab_sortItems | with_reducible apply ab_dc | with_reducible apply ab_listRg | with_reducible apply ab_star | with_reducible apply ab_starL | with_reducible apply ab_index | with_reducible apply ab_revL | with_reducible apply ab_callW | with_reducible apply ab_disp1 | with_reducible apply ab_dget1 | with_reducible apply ab_dget2 | with_reducible apply as_dput | with_reducible apply ab_chain | with_reducible apply ab_dget | with_reducible apply ab_din | with_reducible apply ab_dnotin | with_reducible apply ab_xin | with_reducible apply ab_xnotin | with_reducible apply ab_xget | with_reducible apply ab_xget1 | with_reducible apply as_xput
  | with_reducible apply ab_iany | with_reducible apply ab_ilist | with_reducible apply ab_itup | with_reducible apply ab_irng1 | with_reducible apply ab_irng2 | with_reducible apply ab_istr | with_reducible apply ab_ienum | with_reducible apply ab_ienumT
  | with_reducible apply ab_m1 | with_reducible apply ab_callLm | with_reducible apply ab_irev
  | with_reducible apply ab_tru
  | exact ab_keysAdd
  | (refine (show List.length _ = List.length _ from ?_); assumption)
  | rfl | (simp only [Tg.slots, tslots]; rfl)))
local macro_rules | `(tactic| walk_at "ago") => `(tactic| repeat (first
  | refine seqI ?_
  | refine ⟨_, rfl, szLe rfl, ?_⟩
  | refine ⟨_, rfl, ?_⟩
  | refine ⟨trivial, ?_⟩
  | refine ⟨_, _, rfl, rfl, ?_⟩
  | refine ⟨_, _, _, rfl, rfl, rfl, ?_⟩
  | refine ⟨_, _, _, rfl, (by decide), rfl, ?_⟩
  | refine ⟨_, _, _, _, rfl, rfl, rfl, rfl, rfl, ?_⟩
  | refine ⟨_, _, _, rfl, rfl, (by walk_at "side"), rfl, ?_⟩
  | refine ⟨_, _, rfl, rfl, (by walk_at "side"), ?_⟩
  | refine ⟨⟨_, rfl⟩, ?_⟩
  | refine ⟨rfl, ?_⟩))
local macro_rules | `(tactic| walk_at "agos") => `(tactic| repeat (first
  | refine ⟨_, rfl, szLe rfl, ?_⟩
  | refine ⟨_, rfl, ?_⟩
  | refine ⟨trivial, ?_⟩
  | refine ⟨_, _, rfl, rfl, ?_⟩
  | refine ⟨_, _, _, rfl, rfl, rfl, ?_⟩
  | refine ⟨_, _, _, rfl, (by decide), rfl, ?_⟩
  | refine ⟨_, _, _, _, rfl, rfl, rfl, rfl, rfl, ?_⟩
  | refine ⟨_, _, _, rfl, rfl, (by walk_at "side"), rfl, ?_⟩
  | refine ⟨_, _, rfl, rfl, (by walk_at "side"), ?_⟩
  | refine ⟨⟨_, rfl⟩, ?_⟩
  | refine ⟨rfl, ?_⟩))

abbrev s_law : Stmt := topS 33
abbrev N_law : List Str := ["script", "k"]
theorem sc_law : FnScope N_law ["script"] (defScope s_law) :=
  ⟨rfl, rfl, rfl, by decide +kernel, rfl, by decide +kernel, by decide +kernel⟩
theorem po_law : Posi "law" s_law ["script"] := fun _ _ _ _ _ _ us hl => match us, hl with | [_], _ => rfl

theorem sqL_kp {K : PySem.W.Frag} {ms : List Addr} {H H' : Hp} {a : Addr} {xs : List V} (k : Kp ms H H') (n : ∀ m ∈ ms, (∀ ys, H m ≠ some (.lst ys)) ∧ ∀ o u, H m ≠ some (.frz o u)) (h : SqL K H a xs) : SqL K H' a xs := by
  rcases h with (h | ⟨o, h⟩) | h
  · exact .inl (.inl (k _ _ (fun z => (n _ z).1 _ h) h))
  · exact .inl (.inr ⟨o, k _ _ (fun z => (n _ z).2 _ _ h) h⟩)
  · exact .inr h
/-- what the law asks at one hand, one table tb that tells of lambdas, too -/
def spRightL (tb : Addr) (nm : Nat → Nat → Str) : Sp := fun vs H Q _ => ∃ (a : Addr), vs = [.ref a] ∧ Hand 0 H a ∧ TabX [(tb, nm)] H tb ∧ ∀ (H' : Hp), Kp [a, tb] H H' → TabX [(tb, nm)] H' tb → Q (.bl true) H'
section
variable {P : Program} {w : World} {K : PySem.W.Frag} {mg : Str → Option Value} {base : Heap}
theorem rightL {tb : Addr} {nm : Nat → Nat → Str} {j : Nat} (D : HasG P w K mg base j "_law_right" s__law_right ["hand"] (spA (lw K { g := [tb], l := [(tb, nm)] }) fRight)) : HasG P w K mg base j "_law_right" s__law_right ["hand"] (spRightL tb nm) :=
  hasGImp D fun vs H Q E h => by
    obtain ⟨a, rfl, hh, ht, q⟩ := h
    refine ⟨{ K := K, H0 := H, S0 := fun _ => False, hand := some a, tabs := [tb], pins := [], st := true, lt := [(tb, nm)] }, [.hd], 0, fun x _ => x = .d (.bool true), ⟨rfl, rfl, rfl, rfl⟩, rfl, fun _ z => z.elim, ⟨fun h e => by cases e; exact hh, fun t z => by rw [List.mem_singleton.mp z]; exact ht⟩, rfl, rfl, .hd rfl .nil, ⟨rfl, rfl, fun _ => rfl⟩, fun v H' x m hx k O r => ?_⟩
    subst hx
    cases r
    exact q H' k (O.tabs tb (List.mem_singleton.mpr rfl))
theorem h_lawL {j : Nat} {c tb : Addr} {nm : Nat → Nat → Str} (hj : j ≤ 100) (T : At K mg "law" s_law) (d__law_hand : Has P w K mg base 1 "_law_hand" s__law_hand ["script", "k"] (spHand K))
    (d__law_right : HasG P w K mg base j "_law_right" s__law_right ["hand"] (spRightL tb nm))
    (mb_range : mg "range" = none) (mb_max : mg "max" = none) (mb_min : mg "min" = none) (mb_len : mg "len" = none) :
    HasG P w K mg base 101 "law" s_law ["script"] (spLawT K [(c, tb)]) := by
  refine T.hasG sc_law po_law (fun vs H Q E h => ?_) (fun f cdv A outer s H vs Q E hG hr h => ?_)
  · obtain ⟨a, ns, rfl, _⟩ := h; rfl
  obtain ⟨a, ns, rfl, hS, h63, ht0, q⟩ := h
  have hte := ht0 (c, tb) (List.mem_singleton.mpr rfl)
  have ht : TabX [(tb, nm)] H tb := ⟨tabEmpty hte, fun p hp e => by
    rw [List.mem_singleton.mp hp]
    exact NdefX.TabN.nil hte⟩
  have nd := sc_law.nd
  refine ⟨_, (pss_cons (ps_for PassesOwn.never rfl (pi_range1 (by rfl) mb_range (pa_cons (pe_callB (call_max2 rfl) (by rfl) mb_max (by decide +kernel) (pa_cons pe_int (pa_cons (pe_callB (call_min2 rfl) (by rfl) mb_min (by decide +kernel) (pa_cons pe_int (pa_cons (pe_callB call_len_seq (by rfl) mb_len (by decide +kernel) (pa_cons (pv 0) pa_nil)) pa_nil))) pa_nil))) pa_nil)) (pg_name (i := 1) nd rfl (.inl rfl)) (pss_one (ps_if (pt_not (pt_val (pe_callDG d__law_right hG (by omega) hr (pa_cons (pe_callD d__law_hand (by omega) hr (pa_cons (pv 0) (pa_cons (pv 1) pa_nil))) pa_nil)))) (pss_one (ps_ret pe_bl)) pss_nil)))
      (pss_one (ps_ret pe_bl))), ?_⟩
  refine ⟨_, rfl, _, _, rfl, .inl hS, 3, _, rfl, 1, _, rfl, ?_⟩
  rw [List.length_map]
  have small : ∀ n : Nat, n ≤ 63 → 1 ≤ (if (if ((n : Nat) : Int) < 3 then ((n : Nat) : Int) else 3) > 1 then (if ((n : Nat) : Int) < 3 then ((n : Nat) : Int) else 3) else 1) ∧
      (if (if ((n : Nat) : Int) < 3 then ((n : Nat) : Int) else 3) > 1 then (if ((n : Nat) : Int) < 3 then ((n : Nat) : Int) else 3) else 1) ≤ 3 := by
    intro n _
    constructor <;> (split <;> (try split) <;> omega)
  obtain ⟨s1, s3⟩ := small ns.length h63
  refine ⟨_, rfl, by omega, by omega, ?_⟩
  generalize (if (if ((ns.length : Nat) : Int) < 3 then ((ns.length : Nat) : Int) else 3) > 1 then (if ((ns.length : Nat) : Int) < 3 then ((ns.length : Nat) : Int) else 3) else 1) = n at s1 s3 ⊢
  refine for_range (lo := 0) (n := n.toNat) (fun i σ H2 => (∃ x1 : Option V, σ = [some (.ref a), x1]) ∧ SqL K H2 a (ns.map V.int) ∧ TabX [(tb, nm)] H2 tb) ?_ ?_ ?_
  · exact ⟨⟨none, rfl⟩, hS, ht⟩
  · rintro i σ H2 hi ⟨⟨x1, rfl⟩, hS2, ht2⟩
    refine ⟨_, rfl, _, rfl, a, ns, i, by simp, hS2, by omega, fun r H3 hr3 k3 hd3 => ?_⟩
    have ht3 := TabX.keep ht2 k3 (by simp) none0
    refine ⟨r, rfl, hd3, ht3, fun H4 k4 ht4 => ?_⟩
    refine ⟨_, rfl, ⟨_, rfl⟩, ?_, ht4⟩
    refine sqL_kp (ms := [r, tb]) ((k3.wide (by simp)).trans k4) (fun m hm => ?_) hS2
    rcases List.mem_cons.mp hm with rfl | hm
    · rw [hr3]; exact ⟨fun _ z => (by cases z), fun _ _ z => (by cases z)⟩
    · rw [List.mem_singleton.mp hm]
      obtain ⟨ps, e, _⟩ := ht2.1
      rw [e]; exact ⟨fun _ z => (by cases z), fun _ _ z => (by cases z)⟩
  · rintro σ H2 ⟨⟨x1, rfl⟩, _, _⟩
    exact q H2
end
end Ah
namespace Ah
open PySem PySem.Spec PyProof.Rows L2
section
variable {P : Program} {w : World} {K : PySem.W.Frag} {mg : Str → Option Value} {fa : Addr} {c_put_for tb_put_for : Addr}
theorem all_mk (hfa : mg "law" = some (.ref fa)) (T_is_just : At K mg "is_just" s_is_just) (T_is_hole : At K mg "is_hole" s_is_hole) (T_begin_alike : At K mg "begin_alike" s_begin_alike) (T_match : At K mg "match" s_match) (T_is_instance : At K mg "is_instance" s_is_instance) (T__trees_met : At K mg "_trees_met" s__trees_met) (T_trees_in : At K mg "trees_in" s_trees_in) (T_trees_from_right : At K mg "trees_from_right" s_trees_from_right) (T_taken_off : At K mg "taken_off" s_taken_off) (T_built : At K mg "built" s_built) (T_put_for : AtC K mg "put_for" s_put_for c_put_for) (T_holes_in : At K mg "holes_in" s_holes_in) (T_nth_name : At K mg "nth_name" s_nth_name) (T_renamed : At K mg "renamed" s_renamed) (T__law_hand : At K mg "_law_hand" s__law_hand) (T__law_take : At K mg "_law_take" s__law_take) (T__law_of : At K mg "_law_of" s__law_of) (T__law_words : At K mg "_law_words" s__law_words) (T__law_tree : At K mg "_law_tree" s__law_tree) (T__law_called : At K mg "_law_called" s__law_called) (T__law_head : At K mg "_law_head" s__law_head) (T__law_symbols : At K mg "_law_symbols" s__law_symbols) (T__law_holes : At K mg "_law_holes" s__law_holes) (T__law_put : At K mg "_law_put" s__law_put) (T__law_unheard : At K mg "_law_unheard" s__law_unheard) (T__law_form : At K mg "_law_form" s__law_form) (T__law_pair_right : At K mg "_law_pair_right" s__law_pair_right) (T__law_right : At K mg "_law_right" s__law_right) (T_law : At K mg "law" s_law) (mb_type : mg "type" = none) (mb_str : mg "str" = none) (mb_tuple : mg "tuple" = none) (mb_int : mg "int" = none) (mb_list : mg "list" = none) (mb_len : mg "len" = none) (mb_abs : mg "abs" = none) (mb_range : mg "range" = none) (mb_isinstance : mg "isinstance" = none) (mb_enumerate : mg "enumerate" = none) (mb_zip : mg "zip" = none) (mb_dict : mg "dict" = none) (mb_reversed : mg "reversed" = none) (mb_divmod : mg "divmod" = none) (mb_max : mg "max" = none) (mb_min : mg "min" = none) (mb_all : mg "all" = none) (mc_LETTERS : ∃ u, mg "LETTERS" = some u ∧ RelV (.str "abcdefghijklmnopqrstuvwxyz") u) :
    ∃ fd : FuncData, (∀ (s : Shared) (v : Value), BindsTo s fd ⟨[v], []⟩ [("script", v)]) ∧ ∀ base : Heap, K.In base → base.Ns mainGlobals mg → Heads base mg [(c_put_for, tb_put_for)] → FnG P w K mg base CX0 101 fa fd ["script"] (spLawT K [(c_put_for, tb_put_for)]) :=
  lawFnT hfa T_law po_law fun base hds => by
    have TB : LamX.TabB base mg c_put_for tb_put_for := hds.lx (c_put_for, tb_put_for) (List.mem_singleton.mpr rfl)
    let tb : TBs := { g := [tb_put_for], l := [(tb_put_for, qnPF)] }
    have take0 := h_take (P := P) (w := w) (base := base) T__law_take
    have of0 := h_of T__law_of take0 mb_len
    have hand := h_hand (P := P) (w := w) (base := base) T__law_hand mb_len mb_abs mb_int
    have take := a_take (tb := tb) take0
    have of_ := a_of (tb := tb) of0
    have called := a_called T__law_called of_
    have words := a_words T__law_words take of_ mb_range mb_enumerate
    have tree1 := (a_tree T__law_tree take of_ mb_range mb_tuple 1).up (k := 4) (by omega)
    have tree := hasUnionA 1 fun d hd => (a_tree T__law_tree take of_ mb_range mb_tuple d).up (k := 6) (by omega)
    have head := a_head T__law_head of_ tree1 mb_range mb_tuple
    have just := a_is_just (P := P) (w := w) (base := base) (tb := tb) T_is_just mb_type mb_tuple mb_len mb_list mb_zip
    have isHole := a_is_hole (P := P) (w := w) (base := base) (tb := tb) T_is_hole mb_type mb_str
    have isHole2 := a_is_hole' (P := P) (w := w) (base := base) (tb := tb) T_is_hole mb_type mb_str
    have alike := a_begin_alike (P := P) (w := w) (base := base) (tb := tb) T_begin_alike mb_len
    have match_ := a_match T_match isHole alike just mb_list mb_zip mb_tuple
    have inst := a_is_instance T_is_instance match_
    have met := a_trees_met T__trees_met isHole2
    have treesIn := a_trees_in T_trees_in met
    have fromRight := a_trees_from_right T_trees_from_right met
    have takenOff := h_taken_off (P := P) (w := w) (base := base) T_taken_off mb_len
    have built_ := a_built 1 T_built fromRight isHole2 takenOff mb_reversed mb_len
    have putFor := a_put_for T_put_for TB (List.mem_singleton.mpr rfl) (List.mem_singleton.mpr rfl) (fun p hp _ => by rw [List.mem_singleton.mp hp]) (fun p hp => by rw [List.mem_singleton.mp hp]; exact List.mem_singleton.mpr rfl) built_
    have holesIn := a_holes_in T_holes_in treesIn isHole2 mb_tuple
    have nth := a_nth_name (P := P) (w := w) (base := base) (tb := tb) T_nth_name mb_divmod mb_len mc_LETTERS
    have ren := a_renamed T_renamed putFor holesIn nth mb_enumerate
    have syms_ := a_syms (P := P) (w := w) (base := base) (tb := tb) T__law_symbols mb_str mb_isinstance 5
    have holes := a_holesX 5 T__law_holes syms_
    have put_ := a_put (P := P) (w := w) (base := base) (tb := tb) T__law_put mb_str mb_isinstance mb_tuple 5
    have unheard := a_unheard 5 T__law_unheard put_ holes mb_dict mb_enumerate
    have form := a_form T__law_form take tree syms_ put_ holes mb_dict mb_int mb_len
    have pair := a_pair T__law_pair_right match_ inst putFor ren unheard form mb_range
    have right := a_right T__law_right take of_ words called tree head put_ holes inst pair mb_range mb_all mb_dict
    exact h_lawL (by decide) T_law hand (rightL right) mb_range mb_max mb_min mb_len
end
def fnX : List He.DefD := [dd "is_just" s_is_just, dd "is_hole" s_is_hole, dd "begin_alike" s_begin_alike, dd "match" s_match, dd "is_instance" s_is_instance, dd "_trees_met" s__trees_met, dd "trees_in" s_trees_in, dd "trees_from_right" s_trees_from_right, dd "taken_off" s_taken_off, dd "built" s_built, dd "put_for" s_put_for, dd "holes_in" s_holes_in, dd "nth_name" s_nth_name, dd "renamed" s_renamed, dd "_law_hand" s__law_hand, dd "_law_take" s__law_take, dd "_law_of" s__law_of, dd "_law_words" s__law_words, dd "_law_tree" s__law_tree, dd "_law_called" s__law_called, dd "_law_head" s__law_head, dd "_law_symbols" s__law_symbols, dd "_law_holes" s__law_holes, dd "_law_put" s__law_put, dd "_law_unheard" s__law_unheard, dd "_law_form" s__law_form, dd "_law_pair_right" s__law_pair_right, dd "_law_right" s__law_right, dd "law" s_law]
def faX : List He.Fa := [.glo "is_just", .glo "is_hole", .glo "begin_alike", .glo "match", .glo "is_instance", .glo "_trees_met", .glo "trees_in", .glo "trees_from_right", .glo "taken_off", .glo "built", .glo "put_for", .glo "holes_in", .glo "nth_name", .glo "renamed", .glo "_law_hand", .glo "_law_take", .glo "_law_of", .glo "_law_words", .glo "_law_tree", .glo "_law_called", .glo "_law_head", .glo "_law_symbols", .glo "_law_holes", .glo "_law_put", .glo "_law_unheard", .glo "_law_form", .glo "_law_pair_right", .glo "_law_right", .glo "law", .free "type", .free "str", .free "tuple", .free "int", .free "list", .free "len", .free "abs", .free "range", .free "isinstance", .free "enumerate", .free "zip", .free "dict", .free "reversed", .free "divmod", .free "max", .free "min", .free "all", .str "LETTERS" "abcdefghijklmnopqrstuvwxyz"]
def tfX : List He.Defn := [("put_for", none)]
def nmX : List PySem.Str := (["is_just", "LETTERS", "is_hole", "begin_alike", "trees_in", "trees_from_right", "_trees_met", "holes_in", "taken_off", "built", "put_for", "nth_name", "renamed", "match", "is_instance", "_law_hand", "_law_take", "_law_of", "_law_words", "_law_tree", "_law_called", "_law_head", "_law_symbols", "_law_holes", "_law_put", "_law_unheard", "_law_form", "_law_pair_right", "_law_right"] : List PySem.Str)
abbrev RX : PySem.W.OpenRow := PySem.W.OpenLaw.row PySem.Challenge.rw_aheadofholes_k10_whole_what_comes_of_a_h
abbrev hkX : PySem.W.Hook := He.hookX 4 faX fnX [] tfX (fun _ => true)
def obX (s : PySem.W.SharedT) : He.AlX := He.obsX 4 faX fnX [] tfX (fun _ => true) (HandSHeadRun.getT s)
theorem obX_eq (s : PySem.W.SharedT) : obX s = hkX.obs s.abs := He.obsX_eq (HandSHeadRun.getT_eq s)
set_option maxHeartbeats 0 in
theorem runX (w : World) : HandSHeadRun.RunEq RX (PySem.W.view RX.prog [33]) hkX obX 1500 nmX w := by
  intro os
  kernel_rfl
end Ah
open PySem PySem.W PySem.Calls PyProof.Rows
set_option maxHeartbeats 0 in
theorem PySem.Challenge.cw_aheadofholes_k10_whole_what_comes_of_a_h_holds : PySem.Challenge.rw_aheadofholes_k10_whole_what_comes_of_a_h.Holds := by
  w_on; o_law
  refine HandSHeadRun.head_any (r := Ah.RX) (q := view Ah.RX.prog [33]) (H := Ah.hkX) (ob := Ah.obX) (M := 1500) (loose := Ah.nmX) (d := HandSHeadRun.topDef Ah.RX.prog 33) (kwd := []) Ah.obX_eq
    (by kernel_rfl) (fun s => by kernel_rfl) Ah.runX (by kernel_rfl) (by kernel_rfl) (by kernel_rfl) (by rfl) (by first | assumption | decide +kernel) (by decide +kernel) ⟨rfl, rfl, rfl, rfl, rfl, by decide +kernel⟩ ?hw ?hc
  case hw => w_witness2
  case hc =>
    refine Ah.walkT (l := PySem.Challenge.rw_aheadofholes_k10_whole_what_comes_of_a_h) (n := 63) (k := 101) (x := "script") rfl (by decide) (by kernel_rfl) ⟨rfl, by decide, by decide⟩ ?F
    intro w mg fa h Y G hmg0
    obtain ⟨K, KX, c⟩ := Y
    have hmg : mg ("law" : PySem.Str) = some (.ref fa) := by
      have e : (HandSHeadRun.topDef Ah.RX.prog 33).name = ("law" : PySem.Str) := by kernel_rfl
      rw [← e]; exact hmg0
    obtain ⟨fd, hb, hF⟩ := Ah.all_mk (P := (PySem.Challenge.rw_aheadofholes_k10_whole_what_comes_of_a_h).prog) (w := w) hmg (Ah.atX KX G c 0 0) (Ah.atX KX G c 1 1) (Ah.atX KX G c 2 2) (Ah.atX KX G c 3 3) (Ah.atX KX G c 4 4) (Ah.atX KX G c 5 5) (Ah.atX KX G c 6 6) (Ah.atX KX G c 7 7) (Ah.atX KX G c 8 8) (Ah.atX KX G c 9 9) (Ah.atC KX G c 10 10) (Ah.atX KX G c 11 11) (Ah.atX KX G c 12 12) (Ah.atX KX G c 13 13) (Ah.atX KX G c 14 14) (Ah.atX KX G c 15 15) (Ah.atX KX G c 16 16) (Ah.atX KX G c 17 17) (Ah.atX KX G c 18 18) (Ah.atX KX G c 19 19) (Ah.atX KX G c 20 20) (Ah.atX KX G c 21 21) (Ah.atX KX G c 22 22) (Ah.atX KX G c 23 23) (Ah.atX KX G c 24 24) (Ah.atX KX G c 25 25) (Ah.atX KX G c 26 26) (Ah.atX KX G c 27 27) (Ah.atX KX G c 28 28) (Ah.noX KX G c 29) (Ah.noX KX G c 30) (Ah.noX KX G c 31) (Ah.noX KX G c 32) (Ah.noX KX G c 33) (Ah.noX KX G c 34) (Ah.noX KX G c 35) (Ah.noX KX G c 36) (Ah.noX KX G c 37) (Ah.noX KX G c 38) (Ah.noX KX G c 39) (Ah.noX KX G c 40) (Ah.noX KX G c 41) (Ah.noX KX G c 42) (Ah.noX KX G c 43) (Ah.noX KX G c 44) (Ah.noX KX G c 45) (Ah.strX KX G c 46)
    exact ⟨K, fd, Ah.tabs K Ah.tfX, _, KX, Ah.freshX KX c, hb, fun H a ns hl st hS => ⟨a, ns, rfl, hS, hl, st.tabs, fun _ => rfl⟩, hF⟩
#print axioms PySem.Challenge.cw_aheadofholes_k10_whole_what_comes_of_a_h_holds

