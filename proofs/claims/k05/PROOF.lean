import PyProof.Rows.All
import Wide.All
import OpenK.AllK
import Wide.FinOn
import HandS.ForMost
import HandS.Conv
import HandS.More
import HandS.TupAny
import HandS.IsInst
import HandS.Wide
import HandS.Flow
import HandS.Style
import HandS.Zip
import HandS.Defaults
import PyProof.ReprRoads
import KE.KDictSum
import HandS.Walk
import HandS.TupMul
import HandS.Codes
import PySem.Challenge.RW_aheadofholes_k05_places_of_trees
set_option Elab.async false
set_option linter.all false
set_option maxRecDepth 100000
namespace Ah
open PySem PySem.Spec PyProof.Rows L2

/-! ## data: no dicts in what Dp reads -/
mutual
theorem dpNoDict {K : PySem.W.Frag} {H : Hp} : ∀ (d : PyData) (v : V), Dp K H v d → d.hasDict = false
  | .none, _, _ => by simp only [PyData.hasDict]
  | .bool _, _, _ => by simp only [PyData.hasDict]
  | .int _, _, _ => by simp only [PyData.hasDict]
  | .str _, _, _ => by simp only [PyData.hasDict]
  | .list ds, _, h => by
    cases h with
    | lst _ ha => simp only [PyData.hasDict]; exact dpNoDictAll ds _ ha
  | .tuple ds, _, h => by
    cases h with
    | tup _ ha => simp only [PyData.hasDict]; exact dpNoDictAll ds _ ha
  | .dict _, _, h => by cases h
theorem dpNoDictAll {K : PySem.W.Frag} {H : Hp} : ∀ (ds : List PyData) (vs : List V), DpAll K H vs ds → PyData.hasDictAll ds = false
  | [], _, _ => by simp only [PyData.hasDictAll]
  | d :: ds, _, h => by
    cases h with
    | cons a b => simp only [PyData.hasDictAll, dpNoDict d _ a, dpNoDictAll ds _ b, Bool.or_false]
end

/-! ## repr of data -/
def rRepr (K : PySem.W.Frag) : List V → Hp → VK → Prop := fun xs H Q => ∃ x d, xs = [x] ∧ Dp K H x d ∧
  d.showable = true ∧ d.depth ≤ 60 ∧ d.shown.length ≤ sizeLine ∧ Q (.str d.shown) H
theorem call_reprD {X : Cx} (hg : X.A.guards = some []) (hu : X.A.units + 64 < cLine) : CallR X (.builtin "repr") (rRepr X.K) := by
  intro pins s σ H xs us Q I r h
  obtain ⟨x, d, rfl, hd, hs, hdep, hsz, q⟩ := h
  obtain ⟨u, rfl, rx⟩ := vals1 r
  cases hd with
  | non =>
    obtain rfl : u = Value.none := rx
    refine PySem.P.repr_of_none ⟨.str _, H, I.tok _, ⟨_, rfl⟩, ?_⟩
    simpa only [PyData.shown] using q
  | bl b =>
    obtain rfl : u = Value.bool b := rx
    refine PySem.P.repr_of_bool ⟨.str _, H, I.tok _, ⟨_, rfl⟩, ?_⟩
    simpa only [PyData.shown] using q
  | int i =>
    obtain ⟨t, rfl⟩ := rx
    refine PySem.P.repr_of_int (by simpa [PyData.showable] using hs) ⟨.str _, H, I.tok _, ⟨_, rfl⟩, ?_⟩
    simpa only [PyData.shown] using q
  | str z =>
    obtain ⟨t, rfl⟩ := rx
    refine PySem.P.repr_of_str ⟨.str _, H, I.tok _, ⟨_, rfl⟩, ?_⟩ (by simpa only [PyData.shown] using hsz)
    simpa only [PyData.shown] using q
  | @lst a xs ds h1 h2 =>
    obtain rfl : u = Value.ref a := rx
    have hd : Dp X.K H (.ref a) (.list ds) := .lst h1 h2
    obtain ⟨as, rd⟩ := Dp.reads I (.list ds) (.ref a) (.ref a) hd rfl
    have nd := dpNoDict _ _ hd
    exact repr_of_reads' rd hs (fun z => by rw [nd] at z; cases z) hg (by omega) (fun _ _ e => e)
      (fun h' u tk hk => ⟨.str _, H, I.kept (t' := tk) hk, ⟨_, rfl⟩, q⟩) hsz
  | @tup a xs ds h1 h2 =>
    obtain rfl : u = Value.ref a := rx
    have hd : Dp X.K H (.ref a) (.tuple ds) := .tup h1 h2
    obtain ⟨as, rd⟩ := Dp.reads I (.tuple ds) (.ref a) (.ref a) hd rfl
    have nd := dpNoDict _ _ hd
    exact repr_of_reads' rd hs (fun z => by rw [nd] at z; cases z) hg (by omega) (fun _ _ e => e)
      (fun h' u tk hk => ⟨.str _, H, I.kept (t' := tk) hk, ⟨_, rfl⟩, q⟩) hsz

/-! ## defs that ask what runs around them (repr does): promises under "no repr is running" -/
section
variable {P : Program} {w : World} {K : PySem.W.Frag} {mg : Str → Option Value} {base : Heap} {CX : CXT} {k : Nat} {f : Addr} {fd : FuncData} {ps : List Str} {sp : Sp}
structure FnG (P : Program) (w : World) (K : PySem.W.Frag) (mg : Str → Option Value) (base : Heap) (CX : CXT) (k : Nat)
    (f : Addr) (fd : FuncData) (ps : List Str) (sp : Sp) : Prop where
  many : ∀ vs H Q E, sp vs H Q E → vs.length = ps.length
  runs : ∀ (A : Around) (outer : List Env) (s : Shared) (H : Hp) (args : Args) (us : List Value) (vs : List V) (Q : VK) (E : XK),
    A.guards = some [] → Room k A → Env0 P w K mg base A outer s H → BindsTo s fd args (ps.zip us) → Vals vs us → sp vs H Q E →
    codeAny (model P w) A (.call (.ref f) args) (CR CX outer P w H s Q E) s
theorem FnG.of (F : FnOk P w K mg base CX k f fd ps sp) : FnG P w K mg base CX k f fd ps sp :=
  ⟨F.len, fun A outer s H args us vs Q E _ => F.run A outer s H args us vs Q E⟩
theorem FnG.higher {j : Nat} (F : FnG P w K mg base CX j f fd ps sp) (h : j ≤ k) : FnG P w K mg base CX k f fd ps sp :=
  ⟨F.many, fun A outer s H args us vs Q E hg hr => F.runs A outer s H args us vs Q E hg (hr.mono h)⟩
end

section
variable {X : Cx} {CX : CXT} {k n : Nat} {f : Addr} {fd : FuncData} {ps ks : List Str} {sp : Sp} {E : XK} {x : Str} {p pos : Pos}
variable {e : Expr} {es : List Expr} {kws : List Keyword} {t tk : TA} {g : List Value → List Value → List Value} {gV : List V → List V → List V}
variable {dvs : List V} {ds : List Value}
/-- what lies behind a call, once it has run -/
theorem endOfCall {pins : List (Addr × Obj)} {σ : L2.St} {H : Hp} {s s' : Shared} {Q : VK} {r : Result} (hx : Passes CX X E) (I : Inv X pins σ H s)
    (hq : CR CX X.stack X.prog X.w H s Q E r s') :
    match r with
    | .ok (.ret u) => EP X pins σ Q u s'
    | .ok _ => False
    | .error e => X.xe e s' := by
  cases r with
  | error e => exact hx pins σ H s e s' I hq
  | ok fl => cases fl <;> first | exact I.after hq | exact False.elim hq
theorem runFnG {pins : List (Addr × Obj)} {σ : L2.St} {H : Hp} {s : Shared} {Q : VK} {us : List Value} {vs : List V} (F : FnG X.prog X.w X.K X.mg X.base CX k f fd ps sp)
    (hG : X.A.guards = some []) (hr : Room k X.A) (hb : Binds X.K fd ps ds) (hd : Vals dvs ds) (hx : Passes CX X E)
    (I : Inv X pins σ H s) (r : Vals vs us) (h : sp (vs ++ dvs) H Q E) :
    wpAny (model X.prog X.w) X.A (call (.ref f) us) (EP X pins σ Q) X.xe s := by
  have both : Vals (vs ++ dvs) (us ++ ds) := r.append hd
  have hl : (us ++ ds).length = ps.length := both.length.symm.trans (F.many _ _ _ _ h)
  refine wpAny_call (codeAny_mono
    (F.runs X.A X.stack s H ⟨us, []⟩ (us ++ ds) (vs ++ dvs) Q E hG hr I.env0 (hb s us I.kIn hl) both h) fun r s' hq => ?_)
  have z := endOfCall hx I hq
  cases r with
  | error e => exact z
  | ok fl => cases fl <;> first | exact z | exact False.elim z
theorem pe_callG (F : FnG X.prog X.w X.K X.mg X.base CX k f fd ps sp) (hG : X.A.guards = some []) (hr : Room k X.A) (hg : Gl X x) (hm : X.mg x = some (.ref f))
    (hk : PySem.W.keepIn X.K (.ref f) = true) (hb : Binds X.K fd ps ds) (hd : Vals dvs ds) (hx : Passes CX X E) (ha : PA X (e :: es) t)
    (hdb : (x == ("__debug__" : Str)) = false := by decide)
    (he : starEach (e :: es) X.env = (false, eval e X.env) :: starEach es X.env := by rfl)
    (hpl : (backTo pos (starEach es X.env)).any (·.1) = false := by rfl) :
    PE X (.Call (.Name x p) (e :: es) [] pos) (tCall sp dvs E t) := by
  constructor
  intro pins s σ H Q I h
  refine wpAny_Call_Name_kw (ld_glob I hg hm ?_ hdb)
  have inner := thn (ha.run pos pins s σ H _ I h) fun us s1 (z : AP X pins σ (fun vs H1 => sp (vs ++ dvs) H1 Q E) us s1) => z
  refine PySem.W.callWith_K (h₀ := X.base) I.ok.mod.kin hk (thn inner fun us s1 z => ?_) he hpl
  obtain ⟨vs, H1, I1, r, q⟩ := z
  exact ⟨I1.kIn, runFnG F hG hr hb hd hx I1 r q⟩
/-- f(k = v, ..): keywords alone -/
theorem pe_callKw (F : FnOk X.prog X.w X.K X.mg X.base CX k f fd ps sp) (hr : Room k X.A) (hg : Gl X x) (hm : X.mg x = some (.ref f))
    (hk : PySem.W.keepIn X.K (.ref f) = true) (hb : KBn X.K fd ps 0 ks g gV) (hx : Passes CX X E) (hkw : PK X kws tk)
    (hall : (backToKw pos (keywordEach kws X.env)).all (·.1.isSome) = true := by rfl)
    (hks : (backToKw pos (keywordEach kws X.env)).filterMap (·.1) = ks := by rfl)
    (hdb : (x == ("__debug__" : Str)) = false := by decide)
    (hpl : ((backTo pos (starEach [] X.env)).any (·.1) || (backToKw pos (keywordEach kws X.env)).any (·.1.isNone)) = false := by rfl) :
    PE X (.Call (.Name x p) [] kws pos) (tCallN 0 ks.length sp gV E tNil tk) := by
  constructor
  intro pins s σ H Q I h
  refine wpAny_Call_Name_kw (ld_glob I hg hm ?_ hdb)
  refine PySem.W.callWith_KW0 (h₀ := X.base) I.ok.mod.kin hk hall ?_ hpl
  refine thn (hkw.run pos pins s σ H _ I h) fun ws s2 z => ?_
  obtain ⟨zs, H2, I2, rz, l1, l2, q2⟩ := z
  refine ⟨I2.kIn, ?_⟩
  rw [hks]
  exact run_fnN (us := []) (vs := []) F hr hb hx I2 .nil rz l1 l2 q2
end
end Ah

namespace Ah
open PySem PySem.Spec PyProof.Rows L2

section
variable {P : Program} {w : World} {K : PySem.W.Frag} {mg : Str → Option Value} {base : Heap}
/-- a body's last flow is the call's end -/
theorem endOfBody {CX : CXT} {N : List Str} {qual : Str} {scope : Scope} {f : Addr} {cdv : Value} {A : Around} {outer : List Env} {s s' : Shared} {H : Hp} {E : XK} {Q : VK} {fl : Flow}
    (h : SP (cxOf CX P w K mg base N qual scope f cdv A outer s H E) [] { nx := fun _ H' => Q .non H', rt := Q } fl s') :
    match fl with
    | .ret u => CE outer P w H s Q u s'
    | .next => CE outer P w H s Q .none s'
    | _ => False := by
  cases fl with
  | ret u => obtain ⟨v, σ', H', J, rv, q⟩ := h; exact ⟨v, H', J.os, J.bare, J.base, J.hok, rv, q⟩
  | next => obtain ⟨σ', H', J, q⟩ := h; exact ⟨.non, H', J.os, J.bare, J.base, J.hok, rfl, q⟩
  | brk => obtain ⟨_, _, _, q⟩ := h; exact q
  | cont => obtain ⟨_, _, _, q⟩ := h; exact q
theorem Fun.okG {x qual : Str} {st : Stmt} {f : Addr} {fd : FuncData} {N ps : List Str} {k : Nat} {sp : Sp} (F : Fun K x qual st f fd) (S : FnScope N ps (defScope st))
    (len : ∀ vs H Q E, sp vs H Q E → vs.length = ps.length)
    (hbody : ∀ (cdv : Value) (A : Around) (outer : List Env) (s : Shared) (H : Hp) (vs : List V) (Q : VK) (E : XK), A.guards = some [] →
      Room k (A.deeper (envOfC qual (defScope st) s.heap.objs.size f cdv)) → sp vs H Q E →
      ∃ t, PSs (cxOf CX0 P w K mg base N qual (defScope st) f cdv A outer s H E).nox (defBody st) t ∧
        t { nx := fun _ H' => Q .non H', rt := Q } (start N vs) H) : FnG P w K mg base CX0 (k + 1) f fd ps sp := by
  obtain ⟨oc, od, kV, doc, pm, an, cdv, ct, osl, rfl, lk, hcd⟩ := F.ex
  constructor
  · exact len
  · intro A outer s H args us vs Q E hG hr e0 hb rv hsp
    have hl := len _ _ _ _ hsp
    have kept : ∀ b o, base.get? b = some o → s.heap.get? b = some o := fun b o e => (e0.bs b o e).1
    have KX : K.In s.heap := e0.mod.kin.keeps kept
    have lim := e0.mod.nolimit.keeps kept
    have kinds : ∀ y ∈ ps.zip us, (defScope st).names.lookup y.1 = some .local ∨
        ((defScope st).names.lookup y.1 = some .cell ∧ ((cellsFrom (s.heap.objs.size + 1) (defScope st).names []).lookup y.1).isSome = true) := by
      rintro ⟨n, v⟩ hy
      rcases S.par n (List.of_mem_zip hy).1 with q | q
      · left; exact q
      · right; exact ⟨q, PySem.W.cellsFrom_some _ _ _ (.inl q)⟩
    refine codeAny_call_function hr.depth (KX _ _ lk) rfl S.co S.gen rfl (PySem.W.codeRec_of KX hcd) (hb _ _ _ _ (wpAny_newFunctionEnv_cells S.kind kinds ?_))
    rintro env rfl s1 x
    refine ⟨lim.keeps x.toInCall.keep, codeAny_func ?_⟩
    obtain ⟨t, ht, hq⟩ := hbody cdv A outer s H vs Q E hG (hr.deeper _) hsp
    have I := inv_start (CX := CX0) (E := E) S hr.hd e0 hl rv x
    refine wpAny_mono (ht.nox.run [] s1 (start N vs) H _ I hq) (fun fl s' hs => ?_) (fun e s' hs => hs)
    have z := endOfBody hs
    cases fl <;> first | exact z | exact False.elim z
end

/-! ## the law's own call, nothing of repr running -/
theorem lawCallG {P : Program} {w : World} {K : PySem.W.Frag} {mg mb : Str → Option Value} {k : Nat} {fa a : Addr} {fd : FuncData} {x : Str} {sp : Sp} {s₁ : Shared} {vs : List Value} {ns : List Int}
    (KX : K.In s₁.heap) (hns : s₁.heap.Ns mainGlobals mg) (hb : s₁.heap.Ns builtinsNs mb) (hbb : ∀ x : Str, x ≠ "__name__" → mb x = bootBuiltins x)
    (hlim : s₁.heap.NoLimit) (hg : s₁.gens = #[]) (ha : s₁.heap.get? a = some { cls := .type "list", data := .seq vs.toArray })
    (hi : IntsAre vs ns) (hl : ns.length ≤ sizeLine) (hr : Room k callerA)
    (F : ∀ base : Heap, K.In base → base.Ns mainGlobals mg → FnG P w K mg base CX0 k fa fd [x] sp)
    (hbind : ∀ (s : Shared) (u : Value), BindsTo s fd ⟨[u], []⟩ [(x, u)])
    (hsp : ∀ H : Hp, Only H → SqL K H a (ns.map V.int) → sp [.ref a] H (fun v _ => v = .bl true) E0) :
    codeAny (model P w) callerA (.call (.ref fa) ⟨[.ref a], []⟩)
      (fun r s' => r = .ok (.ret (.bool true)) ∧ OldK s₁.heap s'.heap ∧ s'.os = s₁.os ∧ AllBare s'.gens) s₁ := by
  -- whatever is tracked at the entry: nothing, or the script alone, frozen
  suffices core : ∀ H : Hp, Only H → SqL K H a (ns.map V.int) → HOk P w H s₁.heap → (∀ b, H b ≠ none → b = a) → (H a ≠ none → K.lookup a = none) →
      codeAny (model P w) callerA (.call (.ref fa) ⟨[.ref a], []⟩)
        (fun r s' => r = .ok (.ret (.bool true)) ∧ OldK s₁.heap s'.heap ∧ s'.os = s₁.os ∧ AllBare s'.gens) s₁ by
    cases hk : K.lookup a with
    | some o =>
      have e := KX a o hk
      have eo : o = { cls := .type "list", data := .seq vs.toArray } := Option.some.inj (e.symm.trans ha)
      subst eo
      refine core (fun _ => none) (fun _ => .inl rfl) (.inr ⟨_, vs.toArray, _, hk, rfl, rfl, rfl, ?_, ?_⟩) (fun b u z => by cases (show (none : Option HO) = some u from z)) (fun b z => (z rfl).elim) (fun z => (z rfl).elim)
      · rw [List.size_toArray, hi.length]; exact hl
      · simpa using vals_ints hi
    | none =>
      let it : HO := .frz { cls := .type "list", data := .seq vs.toArray } (.lst (ns.map V.int))
      let H₀ : Hp := fun b => if b = a then some it else none
      have ha0 : H₀ a = some it := if_pos rfl
      have no : ∀ {b}, b ≠ a → H₀ b = none := fun h => if_neg h
      refine core H₀ (fun b => ?_) (.inl (.inr ⟨_, ha0⟩)) (fun b u z => ?_) (fun b z => ?_) (fun _ => hk)
      · exact (Decidable.em (b = a)).elim (fun e => .inr ⟨_, _, e ▸ ha0⟩) (fun e => .inl (no e))
      · refine (Decidable.em (b = a)).elim (fun e => ?_) (fun e => by rw [no e] at z; cases z)
        subst e
        rw [ha0] at z
        cases z
        exact ⟨ha, by rw [List.length_map]; exact hl, vs, _, vals_ints hi, ha⟩
      · exact (Decidable.em (b = a)).elim id (fun e => (z (no e)).elim)
  intro H hO hS hok hA hK
  have own : ∀ {b : Addr} {u : HO}, H b = some u → b = a := fun {b u} q => hA b (by rw [q]; exact Option.some_ne_none u)
  have bring : ∀ {b : Addr} {o : Obj}, s₁.heap.get? b = some o → H b = none → (hidT s₁.heap H).get? b = some o := hidT_get
  have noDict : ∀ {b : Addr} {o : Obj} {es : Array DictEntry} {ep : Nat}, s₁.heap.get? b = some o → o.data = .dict es ep → H b = none := by
    intro b o es ep e d
    cases q : H b with
    | none => rfl
    | some u =>
      obtain rfl := own q
      obtain rfl := Option.some.inj (ha.symm.trans e)
      cases d
  have ns' : ∀ {b : Addr} {m : Str → Option Value}, s₁.heap.Ns b m → (hidT s₁.heap H).Ns b m := by
    rintro b m ⟨o, es, ep, e, d, r⟩
    exact ⟨o, es, ep, bring e (noDict e d), d, r⟩
  have hKb : K.In (hidT s₁.heap H) := by
    intro b o e
    refine bring (KX b o e) ?_
    cases q : H b with
    | none => rfl
    | some u =>
      obtain rfl := own q
      rw [hK (by rw [q]; exact Option.some_ne_none u)] at e
      cases e
  obtain ⟨mc, l1, l2⟩ := hlim
  have hM : Mod K mg (hidT s₁.heap H) := ⟨hKb, ns' hns, ⟨mb, ns' hb, hbb⟩, ⟨mc, ns' l1, l2⟩⟩
  have nofr : ∀ b, b ∉ frs ([] : List Env) := fun b h => by cases h
  have e0 : Env0 P w K mg (hidT s₁.heap H) callerA [] s₁ H :=
    ⟨rfl, hM, fun b o e => of_hidT e, Nat.le_of_eq (hidT_size _ _), trivial, fun b hb => (nofr b hb).elim, hok, .of_eq hg⟩
  have run := (F _ hKb (ns' hns)).runs callerA [] s₁ H ⟨[.ref a], []⟩ [.ref a] [.ref a] _ _ rfl hr e0 (hbind s₁ (.ref a)) (.cons rfl .nil) (hsp H hO hS)
  refine codeAny_mono run fun r s' h => ?_
  match r, h with
  | .error e, h => exact False.elim h
  | .ok .next, h => exact False.elim h
  | .ok .brk, h => exact False.elim h
  | .ok .cont, h => exact False.elim h
  | .ok (.ret u), h =>
    obtain ⟨v, H', os, bare, un, hok', rv, q⟩ := h
    have q' : v = .bl true := q
    subst q'
    obtain rfl : u = Value.bool true := rv
    refine ⟨rfl, OldK.of_keep fun b o e => ?_, os, bare⟩
    cases q : H b with
    | none => exact un.keep b o e q (nofr b) (fun z => by cases z)
    | some u =>
      rcases hO b with z | ⟨ob, xs, z⟩
      · rw [q] at z; cases z
      · have old := (hok b _ z).1
        have new := (hok' b _ (un.frzs b ob _ z)).1
        have eo := Option.some.inj (e.symm.trans old)
        subst eo
        exact new

theorem walkG {l : PySem.W.OpenLaw} {n k : Nat} {q : Program} {loose : List Str} {XP : (Str → Option Value) → Heap → Prop} {YP : World → Heap → Prop} {d : DefRec} {K : Params → PySem.W.Frag} {sp : World → Sp} {x : Str}
    (hn : l.most = some n) (hn2 : n ≤ sizeLine) (hdf : d.params.defaults = []) (hr : Room k callerA)
    (hY : ∀ (w : World) (h : Heap), YP w h → (K w.params).In h)
    (F : ∀ (w : World) (mg : Str → Option Value) (fa : Addr) (h : Heap), (K w.params).In h → h.Ns mainGlobals mg → mg d.name = some (.ref fa) →
      ∃ fd : FuncData, (∀ (s : Shared) (u : Value), BindsTo s fd ⟨[u], []⟩ [(x, u)]) ∧
        ∀ base : Heap, (K w.params).In base → base.Ns mainGlobals mg → FnG l.prog w (K w.params) mg base CX0 k fa fd [x] (sp w))
    (hsp : ∀ (w : World) (H : Hp) (a : Addr) (ns : List Int), ns.length ≤ n → Only H → SqL (K w.params) H a (ns.map V.int) →
      sp w [.ref a] H (fun v _ => v = .bl true) E0) :
    PySem.W.WalkO q loose XP YP l.row.toRowW d [] (fun f vs => PySem.call f vs) := by
  apply Att.attach_call hn hdf
  intro w s₀ s₁ mg mb fa o pm cd doc a vs ns G Y ho hd hcd hmg hobj hints hlen hg
  obtain ⟨fd, hb, hF⟩ := F w mg fa _ (hY w _ Y) G.T.g hmg
  exact lawCallG (hY w _ Y) G.T.g G.T.b G.T.builtins G.T.nolimit hg hobj hints (Nat.le_trans hlen hn2) hr hF hb (fun H hO hS => hsp w H a ns hlen hO hS)
end Ah

namespace Ah
open PySem PySem.Spec PyProof.Rows L2
open Sem (wp)

/-! ## text * number -/
def rMulS : R2 := fun x y H Q => ∃ z n, x = .str z ∧ y = .int n ∧ MulOk z n ∧ Q (.str (Txt.mul z n)) H
theorem op_mulStr {X : Cx} : OpR X (binaryOp .Mult) rMulS := by
  intro pins s σ H x y v u Q I rx ry h
  obtain ⟨z, n, rfl, rfl, ok, q⟩ := h
  obtain ⟨t, rfl⟩ := rx
  obtain ⟨t', rfl⟩ := ry
  exact SB.mul ok fun t'' k => ⟨.str _, H, I.tok _, ⟨_, rfl⟩, q⟩

/-! ## tuple(a dict) -/
section
variable {prog : Program} {w : World} {A : Around} {E : Value → Shared → Prop} {s : Shared}
theorem newTupD {T : String} {r d : Addr} {n : Nat} {PP : Nat → Value → Prop} {OK : Heap → Prop} {Q₁ : Value → Shared → Prop} (KS : PySem.W.KdlSrc prog w T r d n PP OK)
    (hh : A.handled = none) (hok : OK s.heap) (hn : n ≤ sizeLine) (hT : s.TypeIs (.ref r) T)
    (hnt : (Value.type T == Value.type "tuple") = false)
    (h : ∀ (h' : Heap) (tk : Nat) (acc : Array Value), (∀ b o, s.heap.get? b = some o → h'.get? b = some o) → ItemsOf PP acc n →
      Q₁ (.ref h'.objs.size) { s with heap := h'.push { cls := .type "tuple", data := .seq acc }, toks := tk }) :
    codeAny (model prog w) A (.call (.builtin "tuple.__new__") ⟨[.type "tuple", .ref r], []⟩) (wants Q₁ E) s := by
  refine codeAny_of_tree ?_
  show wpAny _ A.in1 (do checkBuiltinCall "tuple.__new__" ⟨[.type "tuple", .ref r], []⟩; again (.builtin "tuple.__new__" ⟨[.type "tuple", .ref r], []⟩)) _ _ s
  refine wpAny_bind (wpAny_of_eq (F.newCall_tuple_1 _) (wpAny_pure ⟨plainId_quiet F.plain_tuple_new _, codeAny_builtin F.entry_tuple_new ?_⟩))
  rw [Around.under_plainId F.plain_tuple_new _]
  have q1 := sub_tuple_self
  have q2 := init_tuple_lookup
  have q3 := madeHere_tuple
  have hh1 : A.in1.handled = none := hh
  wp_walk using wpAny_typeOf hT, PySem.W.kdu_collect (A := A.in1) KS hh1 hok hn
  intro h' tk acc hk hacc
  show wpAny _ _ (Builtin.Tuple.tupleExact acc.toList.toArray >>= fun v => ret v) _ _ _
  unfold Builtin.Tuple.tupleExact
  refine wpAny_bind (wpAny_newObj_type (wpAny_pure ?_) ?_)
  · rw [Array.toArray_toList]; exact h h' tk acc hk hacc
  · show acc.toList.toArray.size ≤ sizeLine
    rw [Array.toArray_toList, hacc.1]; exact hn
theorem callTupD {T : String} {r d : Addr} {n : Nat} {PP : Nat → Value → Prop} {OK : Heap → Prop} {Q : Value → Shared → Prop} (KS : PySem.W.KdlSrc prog w T r d n PP OK)
    (hh : A.handled = none) (hok : OK s.heap) (hn : n ≤ sizeLine) (hT : s.TypeIs (.ref r) T) (hnt : (Value.type T == Value.type "tuple") = false)
    (hQ : ∀ (h' : Heap) (tk : Nat) (acc : Array Value), (∀ b o, s.heap.get? b = some o → h'.get? b = some o) → ItemsOf PP acc n →
      Q (.ref h'.objs.size) { s with heap := h'.push { cls := .type "tuple", data := .seq acc }, toks := tk }) :
    wpAny (model prog w) A (call (.type "tuple") [.ref r]) Q E s := by
  have made := newTupD (Q₁ := fun obj s₁ => s₁.TypeIs obj "tuple" ∧ Q obj s₁) (E := E) (A := A.in1) KS hh hok hn hT hnt
    fun h' tk acc hk hacc => ⟨⟨_, Heap.get?_push_size _ rfl, rfl⟩, hQ h' tk acc hk hacc⟩
  refine callType_codes F.called_tuple (F.typeCall_tuple_1 _) F.entry_object_init made fun obj s₁ h₁ => ⟨h₁.1, F.args_object_init_2 obj _, ?_⟩
  exact object_init_meets F.called_tuple.init.lookup F.called_tuple.made (by decide) prog w A.in1 _ s₁ ⟨h₁.1, rfl, h₁.2⟩
end
def rTupD : List V → Hp → VK → Prop := fun xs H Q => ∃ p kvs, xs = [.ref p] ∧ H p = some (.dK kvs) ∧
  ∀ q, H q = none → Q (.ref q) (upd H q (.tup (kvs.map fun kv => kV kv.1)))
theorem call_tupleD {X : Cx} (hc : X.calm = true) : CallR X (.type "tuple") rTupD := by
  intro pins s σ H xs us Q I r h
  obtain ⟨p, kvs, rfl, hk, q⟩ := h
  obtain ⟨u, rfl, rx⟩ := vals1 r
  obtain rfl : u = Value.ref p := rx
  obtain ⟨z, lo, vs, rk, hd⟩ := (show ObjOk X.prog X.w H s.heap p (.dK kvs) from I.hok p _ hk)
  obtain ⟨ep, hat⟩ := hd.dictAt
  have hl : kvs.length = vs.length := Paired.length rk
  refine callTupD (PySem.W.kdl_dict (knd := mixKind X.prog X.w) (kvs := vs) (ep := ep) lo) (I.ok.hd hc) hat (by rw [← hl]; exact z) hd.typeIs (by decide) fun h' tk acc hkeep hacc => ?_
  have I1 : Inv X pins σ H { s with heap := h', toks := tk } := I.kept (t' := tk) hkeep
  refine ⟨.ref h'.objs.size, upd H h'.objs.size (.tup (kvs.map fun kv => kV kv.1)), I1.laid (t' := tk) (fun b o e => Heap.get?_push_of_some _ e) (Nat.le_refl _)
    (show ObjOk X.prog X.w _ _ _ (.tup (kvs.map fun kv => kV kv.1)) from ⟨?_, acc.toList, ?_, ?_⟩), rfl, q _ (I1.hok.fresh (Nat.le_refl _))⟩
  · rw [List.length_map]; exact z
  · have el : acc.toList.length = acc.size := Array.length_toList
    refine vals_of_at (by rw [List.length_map, el, hacc.1, hl]) fun j x w h1 h2 => ?_
    obtain ⟨k, y, hky, hi⟩ := hacc.2 j w (by rw [← Array.getElem?_toList]; exact h2)
    have e1 : (kvs.map (·.1))[j]? = some k := by
      rw [KV.keys rk, List.getElem?_map, hky]; rfl
    have e3 : (kvs.map fun kv => kV kv.1) = (kvs.map (·.1)).map kV := by rw [List.map_map]; rfl
    rw [e3, List.getElem?_map, e1] at h1
    cases h1
    exact keyIs_rel hi
  · rw [Array.toArray_toList]; exact IsTup.new _ _

/-! ## list.extend(a tuple) -/
theorem ext_tup (l : Addr) (items : Array Value) (n : Nat) (b : Addr) (dd : Option Addr) (sl : Array (Option Value)) (items2 : Array Value) (n2 : Nat)
    (a0 : ¬(!items.isEmpty && Builtin.List.listTooLong (items.size + items2.size)) = true) (a1 : items.size ≤ sizeLine) (a2 : items.size + items2.size ≤ sizeLine + 1) :
    Meets (Builtin.«list.extend» ⟨[.ref l, .ref b], []⟩) (fun _ R s => s.heap.get? l = some { cls := .type "list", dict := none, data := .seq items n, slots := #[] } ∧
      s.heap.get? b = some { cls := .type "tuple", dict := dd, data := .seq items2 n2, slots := sl } ∧
      R (.ok (.ret Value.none)) { s with heap := s.heap.update l (Obj.mapSeq fun x => x ++ items2), toks := s.toks }) :=
  .of_wp fun prog w A R s h => by
    obtain ⟨hp, g, d, tk, os⟩ := s
    obtain ⟨hl, hb, h⟩ := h
    have f1 := AutoSeq1.idx_int
    have f2 := AutoSeq1.sub_tuple_tuple
    have f3 := AutoSeq1.sub_list_list
    have f4 := AutoSeq1.sub_tuple_list
    have f5 := AutoSeq1.sub_list_tuple
    have big : (items ++ items2).size ≤ sizeLine + 1 := by rw [Array.size_append]; exact a2
    wp_walk using (wpAny_updateSeq hl rfl (hz := a1) (_hz' := big)), wpAny_loadPart' hl, wpAny_loadPart' hb
    exact ⟨_, rfl, h⟩
def rExtT (K : PySem.W.Frag) : V → List V → Hp → VK → Prop := fun x vs H Q => ∃ l b xs zs, x = .ref l ∧ vs = [.ref b] ∧
  H l = some (.lst xs) ∧ SqT K H b zs ∧ xs.length + zs.length ≤ sizeLine ∧ Q .non (upd H l (.lst (xs ++ zs)))
theorem mt_extendT {X : Cx} : MtM X "list.extend" (rExtT X.K) := by
  intro pins s σ H x vs v us Q I rx rv h
  obtain ⟨l, b, xs, zs, rfl, rfl, hH, hB, hz, q⟩ := h
  cases rx
  obtain ⟨u, rfl, ru⟩ := rv.one
  cases ru
  obtain ⟨z, its, n, r, hl, e⟩ := I.lstM hH
  obtain ⟨its2, r2, ⟨⟨cl, dd, dt, sl⟩, e2, hc, n2, hd⟩, z2⟩ := I.tuple hB
  simp only at hc hd
  subst hc hd
  have l2 : zs.length = its2.length := r2.length
  have size2 : its.toArray.size + its2.toArray.size ≤ sizeLine := by rw [List.size_toArray, List.size_toArray]; omega
  have short : ¬ (!its.toArray.isEmpty && Builtin.List.listTooLong (its.toArray.size + its2.toArray.size)) = true := by
    rw [notLongL size2, Bool.and_false]; exact Bool.false_ne_true
  refine call_meets F.slot_list_extend ⟨_, e, rfl⟩ F.entry_list_extend (F.args_list_extend_2 _ _)
    (ext_tup l its.toArray n b dd sl its2.toArray n2 short (by rw [List.size_toArray]; omega) (by omega)) ⟨e, e2, ?_⟩
  refine ⟨.non, _, I.lset (its' := its ++ its2) hH e (by simp) (r.append r2) ?_, rfl, q⟩
  rw [List.length_append]
  exact hz

/-! ## t[:0:-1], t[::-1] of a tuple -/
theorem backPick (xs : Array Value) : ∀ k : Nat, k ≤ xs.size →
    ((List.range k).filterMap fun (m : Nat) => xs[(((xs.size : Int) - 1) + (m : Int) * (-1)).toNat]?) = (xs.toList.drop (xs.size - k)).reverse
  | 0, _ => by simp
  | k + 1, h => by
    have ih := backPick xs k (by omega)
    have hi : xs.size - (k + 1) < xs.toList.length := by rw [Array.length_toList]; omega
    have e1 : (((xs.size : Int) - 1) + (k : Int) * (-1)).toNat = xs.size - (k + 1) := by omega
    have e2 : xs.toList.drop (xs.size - (k + 1)) = xs.toList[xs.size - (k + 1)] :: xs.toList.drop (xs.size - k) := by
      have e3 : xs.size - (k + 1) + 1 = xs.size - k := by omega
      rw [← e3]; exact List.drop_eq_getElem_cons hi
    have e4 : xs[xs.size - (k + 1)]? = some xs.toList[xs.size - (k + 1)] := by
      rw [← Array.getElem?_toList]; exact List.getElem?_eq_getElem hi
    rw [List.range_succ, List.filterMap_append, ih, e2, List.reverse_cons]
    congr 1
    simp only [List.filterMap_cons, List.filterMap_nil, e1, e4]
section
variable {prog : Program} {w : World} {A : Around} {E : Value → Shared → Prop} {s : Shared}
theorem sliceBack {sl : Addr} {vl vu vs : Value} {lo hi st : Option Int} {n : Nat} {Q : Int × Int × Nat → Shared → Prop} (hs : s.heap.IsSliceOf sl vl vu vs)
    (pl : IsPart vl lo) (pu : IsPart vu hi) (ps : IsPart vs (some (-1))) (L : Int) (k : Nat)
    (ha : ∃ b, Builtin.Slice.sliceAdjust lo hi (-1) (n : Int) = (L, b) ∧ Builtin.Slice.slicePlaces L b (-1) = k)
    (h : Q (L, -1, k) s) : wpAny (model prog w) A (Builtin.Slice.sliceApplied (.ref sl) (pure (n : Int))) Q E s := by
  obtain ⟨os, hos, hcs, hds⟩ := id hs
  obtain ⟨b, e1, e2⟩ := ha
  unfold Builtin.Slice.sliceApplied Builtin.Slice.sliceFields
  refine wpAny_bind (wpAny_bind (wpAny_field hos hds (x := vl) rfl (wpAny_bind (wpAny_field hos hds (x := vu) rfl (wpAny_bind (wpAny_field hos hds (x := vs) rfl (wpAny_pure ?_)))))))
  refine wpAny_bind (HT.slicePart_ ps ?_)
  show wpAny _ _ (if ((-1 : Int) == 0) = true then _ else _) _ _ s
  rw [if_neg (by decide)]
  refine wpAny_bind (HT.slicePart_ pl (wpAny_bind (HT.slicePart_ pu (wpAny_bind (wpAny_pure ?_)))))
  show wpAny _ _ (match Builtin.Slice.sliceAdjust lo hi (-1) (n : Int) with | (lo, hi) => pure (lo, (-1 : Int), Builtin.Slice.slicePlaces lo hi (-1))) _ _ s
  rw [e1]
  show wpAny _ _ (pure (L, (-1 : Int), Builtin.Slice.slicePlaces L b (-1))) _ _ s
  rw [e2]
  exact wpAny_pure h
theorem itemsBack {t sl : Addr} {items : Array Value} {vl vu vs : Value} {lo hi : Option Int} {Q : Value → Shared → Prop} (ht : IsTup s.heap t items)
    (hs : s.heap.IsSliceOf sl vl vu vs) (pl : IsPart vl lo) (pu : IsPart vu hi) (ps : IsPart vs (some (-1))) (k : Nat) (hk : k ≤ items.size)
    (ha : ∃ b, Builtin.Slice.sliceAdjust lo hi (-1) (items.size : Int) = ((items.size : Int) - 1, b) ∧ Builtin.Slice.slicePlaces ((items.size : Int) - 1) b (-1) = k)
    (h : Q (.ref s.heap.objs.size) { s with heap := s.heap.push { cls := .type "tuple", data := .seq ((items.toList.drop (items.size - k)).reverse).toArray } })
    (hsz : items.size ≤ sizeLine) : wpAny (model prog w) A (getItem (.ref t) (.ref sl)) Q E s := by
  have fits : sizeOk (.seq ((items.toList.drop (items.size - k)).reverse).toArray) := by
    show ((items.toList.drop (items.size - k)).reverse).toArray.size ≤ sizeLine
    rw [List.size_toArray, List.length_reverse, List.length_drop, Array.length_toList]; omega
  obtain ⟨os, hos, hcs, hds⟩ := id hs
  have tySl : s.TypeIs (.ref sl) "slice" := ⟨os, hos, hcs⟩
  unfold getItem
  try with_reducible refine wpAny_holding ?_
  first | refine wpAny_bind (wpAny_pure ?_) | skip
  refine wpAny_bind (wpAny_sequenceKey ht.typeIs (by decide) ?_)
  refine wpAny_bind (wpAny_callSpecial?_slot (name := Str.ofString "__getitem__") ht.typeIs PyProof.Rows.slot_tuple_getitem
    (wpAny_call_entry PyProof.Rows.slot_tuple_getitem ht.typeIs entry_tuple_getitem ?_ (args_tuple_getitem _ _)))
  show wpAny _ _ (Builtin.Tuple.tupleItemsOf (.ref t) >>= _) _ _ s
  refine wpAny_bind (tupleItemsOf_ ht (wpAny_bind (wpAny_typeOf tySl ?_)))
  rw [if_pos (by decide)]
  refine wpAny_bind (sliceBack (st := some (-1)) hs pl pu ps _ k ha ?_)
  have notAll : ¬ ((((items.size : Int) - 1 == 0) && (-1 : Int) == 1 && k == items.size) = true) := by simp
  show wpAny _ _ (if (((items.size : Int) - 1 == 0) && (-1 : Int) == 1 && k == items.size) = true then _ else _) _ _ s
  rw [if_neg notAll, backPick items k hk]
  first
    | exact wpAny_bind (m := Builtin.Tuple.tupleExact _) (wpAny_newObj_type (wpAny_pure ⟨_, rfl, wpAny_pure h⟩) fits)
    | exact wpAny_bind (wpAny_bind (m := Builtin.Tuple.tupleExact _) (wpAny_newObj_type (wpAny_pure ⟨_, rfl, wpAny_pure h⟩) fits))
end
section
variable {X : Cx} {e : Expr} {te : TE} {k k0 : Nat} {p0 p1 p2 p3 pos : Pos}
/-- t[:0:-1], t a tuple that has an item: all but the first, from behind -/
def tBack0 (K : PySem.W.Frag) (te : TE) : TE := fun σ H Q => te σ H fun x H1 => ∃ a y xs, x = .ref a ∧ SqT K H1 a (y :: xs) ∧
  ∀ p, H1 p = none → Q (.ref p) (upd H1 p (.tup xs.reverse))
theorem adj0 (n : Nat) : ∃ b, Builtin.Slice.sliceAdjust none (some 0) (-1) (((n + 1 : Nat) : Int)) = (((n + 1 : Nat) : Int) - 1, b) ∧ Builtin.Slice.slicePlaces ((((n + 1 : Nat) : Int)) - 1) b (-1) = n := by
  refine ⟨0, ?_, ?_⟩
  · unfold Builtin.Slice.sliceAdjust
    simp only [show ¬ ((-1 : Int) > 0) by decide, if_false]
    simp
    omega
  · unfold Builtin.Slice.slicePlaces
    simp only [show ¬ ((-1 : Int) > 0) by decide, if_false, show -(-1 : Int) = 1 from rfl, Int.ediv_one]
    split <;> omega
theorem pe_back0 (he : PE X e te) : PE X (.Subscript e (.Slice none (some (.Constant (.int 0) k0 p0)) (some (.UnaryOp .USub (.Constant (.int 1) k p1) p2)) p3) pos) (tBack0 X.K te) := by
  constructor
  intro pins s σ H Q I h
  refine Subscript_ (thn (he.run pins s σ H _ I h) fun v s1 z => ?_)
  obtain ⟨x, H1, I1, r1, a, y, xs, ex, hx, q⟩ := z
  subst ex
  cases r1
  have hst : PO X (some (.UnaryOp .USub (.Constant (.int 1) k p1) p2)) (tPart (tUn (rU fun i => .int (-i)) (tC (.int 1)))) := po_some (pe_un un_neg pe_int)
  have h0 : PO X (some (.Constant (.int 0) k0 p0)) (tPart (tC (.int 0))) := po_some pe_int
  refine wpAny_Slice (thn (po_none.run pins s1 σ H1 (fun o H2 => o = none ∧ H2 = H1) I1 ⟨rfl, rfl⟩) ?_)
  rintro vl s2 ⟨l, H2, I2, pl, rfl, rfl⟩
  refine thn (h0.run pins s2 σ H2 (fun o H3 => o = some 0 ∧ H3 = H2) I2 ⟨0, rfl, rfl, rfl⟩) ?_
  rintro vu s3 ⟨u, H3, I3, pu, rfl, rfl⟩
  refine thn (hst.run pins s3 σ H3 (fun o H4 => o = some (-1) ∧ H4 = H3) I3 ⟨1, rfl, -1, rfl, rfl, rfl⟩) ?_
  rintro vs s4 ⟨o, H4, I4, ps, rfl, rfl⟩
  have I5 : Inv X pins σ H4 { s4 with heap := s4.heap.push { cls := .type "slice", data := .fields #[vl, vu, vs] } } :=
    I4.kept (t' := s4.toks) fun b ob z => Heap.get?_push_of_some _ z
  obtain ⟨its, r, ht, hz⟩ := I5.tuple hx
  obtain ⟨w0, ws, rfl⟩ : ∃ w0 ws, its = w0 :: ws := by cases r; exact ⟨_, _, rfl⟩
  have hlen := r.length
  simp only [List.length_cons] at hlen hz
  refine tail_any (ops := [.ref a, .ref s4.heap.objs.size]) ht.typeIs (PyProof.Rows.slot_tuple_getitem.lookup) ?_ (by with_unfolding_all rfl)
  refine itemsBack ht (Heap.IsSliceOf.new _ vl vu vs) pl pu ps ws.length (by simp) (by simpa using adj0 ws.length) ?_ (by rw [List.size_toArray, List.length_cons]; omega)
  have e1 : ((w0 :: ws).toArray.toList.drop ((w0 :: ws).toArray.size - ws.length)).reverse = ws.reverse := by simp
  rw [e1]
  refine ⟨.ref _, _, I5.laid (t' := s4.toks) (o := .tup xs.reverse) (fun b ob z => Heap.get?_push_of_some _ z) (Nat.le_refl _) ?_, rfl, q _ (I5.hok.fresh (Nat.le_refl _))⟩
  cases r with
  | cons _ rr => exact ⟨by rw [List.length_reverse]; omega, _, (show Vals xs ws from rr).reverse, IsTup.new _ _⟩
end
end Ah

namespace Ah
open PySem PySem.Spec PyProof.Rows L2

/-! ## defs of the text, by their names -/
/-- the def st stands under its name behind the top -/
def At (K : PySem.W.Frag) (mg : Str → Option Value) (x : Str) (st : Stmt) : Prop := ∃ f fd, Fun K x x st f fd ∧ mg x = some (.ref f)
section
variable (P : Program) (w : World) (K : PySem.W.Frag) (mg : Str → Option Value) (base : Heap)
/-- .. and keeps a promise -/
def Has (k : Nat) (x : Str) (st : Stmt) (ps : List Str) (sp : Sp) : Prop :=
  ∃ f fd, Fun K x x st f fd ∧ FnOk P w K mg base CX0 k f fd ps sp ∧ Binds K fd ps [] ∧ mg x = some (.ref f)
/-- .. where no repr is running -/
def HasG (k : Nat) (x : Str) (st : Stmt) (ps : List Str) (sp : Sp) : Prop :=
  ∃ f fd, Fun K x x st f fd ∧ FnG P w K mg base CX0 k f fd ps sp ∧ Binds K fd ps [] ∧ mg x = some (.ref f)
end
/-- how many positional arguments bind -/
def Posi (x : Str) (st : Stmt) (ps : List Str) : Prop := ∀ (kV doc pm : Value) (an : Option Addr) (cdv ct : Value) (us : List Value), us.length = ps.length →
  bindArgs (PySem.W.fnOf x x (defArgs st) (defBody st) (defScope st) .none kV doc pm an cdv ct) ⟨us, []⟩ = pure (ps.zip us)
/-- how keywords alone bind: g puts their values in the parameters' order -/
def Keyw (x : Str) (st : Stmt) (ps ks : List Str) (g : {α : Type} → List α → List α) : Prop := ∀ (kV doc pm : Value) (an : Option Addr) (cdv ct : Value) (ws : List Value), ws.length = ks.length →
  bindArgs (PySem.W.fnOf x x (defArgs st) (defBody st) (defScope st) .none kV doc pm an cdv ct) ⟨[], ks.zip ws⟩ = pure (ps.zip (g ws))
section
variable {P : Program} {w : World} {K : PySem.W.Frag} {mg : Str → Option Value} {base : Heap} {x : Str} {st : Stmt} {N ps : List Str} {k : Nat} {sp : Sp}
theorem At.has (T : At K mg x st) (S : FnScope N ps (defScope st)) (b : Posi x st ps) (len : ∀ vs H Q E, sp vs H Q E → vs.length = ps.length)
    (body : ∀ (f : Addr) (cdv : Value) (A : Around) (outer : List Env) (s : Shared) (H : Hp) (vs : List V) (Q : VK) (E : XK), Room k (A.deeper (envOfC x (defScope st) s.heap.objs.size f cdv)) → sp vs H Q E →
      ∃ t, PSs (cxOf CX0 P w K mg base N x (defScope st) f cdv A outer s H E).nox (defBody st) t ∧ t { nx := fun _ H' => Q .non H', rt := Q } (start N vs) H) :
    Has P w K mg base (k + 1) x st ps sp := by
  obtain ⟨f, fd, F, m⟩ := T
  exact ⟨f, fd, F, F.ok S len (body f), F.binds b, m⟩
theorem At.hasG (T : At K mg x st) (S : FnScope N ps (defScope st)) (b : Posi x st ps) (len : ∀ vs H Q E, sp vs H Q E → vs.length = ps.length)
    (body : ∀ (f : Addr) (cdv : Value) (A : Around) (outer : List Env) (s : Shared) (H : Hp) (vs : List V) (Q : VK) (E : XK), A.guards = some [] → Room k (A.deeper (envOfC x (defScope st) s.heap.objs.size f cdv)) → sp vs H Q E →
      ∃ t, PSs (cxOf CX0 P w K mg base N x (defScope st) f cdv A outer s H E).nox (defBody st) t ∧ t { nx := fun _ H' => Q .non H', rt := Q } (start N vs) H) :
    HasG P w K mg base (k + 1) x st ps sp := by
  obtain ⟨f, fd, F, m⟩ := T
  exact ⟨f, fd, F, Fun.okG F S len (body f), F.binds b, m⟩
theorem Has.up {j : Nat} (D : Has P w K mg base j x st ps sp) (h : j ≤ k) : Has P w K mg base k x st ps sp := by
  obtain ⟨f, fd, F, G, b, m⟩ := D
  exact ⟨f, fd, F, G.mono h, b, m⟩
theorem Has.none (T : At K mg x st) (b : Posi x st ps) (no : ∀ vs H Q E, ¬ sp vs H Q E) : Has P w K mg base k x st ps sp := by
  obtain ⟨f, fd, F, m⟩ := T
  exact ⟨f, fd, F, ⟨fun vs H Q E h => (no vs H Q E h).elim, fun A outer s H args us vs Q E _ _ _ _ h => (no vs H Q E h).elim⟩, F.binds b, m⟩
theorem Has.imp {sp' : Sp} (D : Has P w K mg base k x st ps sp) (h : ∀ vs H Q E, sp' vs H Q E → sp vs H Q E) : Has P w K mg base k x st ps sp' := by
  obtain ⟨f, fd, F, G, b, m⟩ := D
  exact ⟨f, fd, F, G.imp h, b, m⟩
end
section
variable {X : Cx} {j k : Nat} {x : Str} {st : Stmt} {ps ks : List Str} {sp : Sp} {p pos : Pos} {e : Expr} {es : List Expr} {kws : List Keyword} {t tk : TA}
theorem pe_callD (D : Has X.prog X.w X.K X.mg X.base j x st ps sp) (hj : j ≤ k) (hr : Room k X.A) (ha : PA X (e :: es) t) (hg : Gl X x := by rfl)
    (hdb : (x == ("__debug__" : Str)) = false := by decide)
    (he : starEach (e :: es) X.env = (false, eval e X.env) :: starEach es X.env := by rfl) (hpl : (backTo pos (starEach es X.env)).any (·.1) = false := by rfl) :
    PE X (.Call (.Name x p) (e :: es) [] pos) (tCall sp [] E0 t) := by
  obtain ⟨f, fd, F, G, b, m⟩ := D
  exact pe_call G (hr.mono hj) hg m F.kp b .nil pass0 ha hdb he hpl
theorem pe_callDG (D : HasG X.prog X.w X.K X.mg X.base j x st ps sp) (hG : X.A.guards = some []) (hj : j ≤ k) (hr : Room k X.A) (ha : PA X (e :: es) t) (hg : Gl X x := by rfl)
    (hdb : (x == ("__debug__" : Str)) = false := by decide)
    (he : starEach (e :: es) X.env = (false, eval e X.env) :: starEach es X.env := by rfl) (hpl : (backTo pos (starEach es X.env)).any (·.1) = false := by rfl) :
    PE X (.Call (.Name x p) (e :: es) [] pos) (tCall sp [] E0 t) := by
  obtain ⟨f, fd, F, G, b, m⟩ := D
  exact pe_callG G hG (hr.mono hj) hg m F.kp b .nil pass0 ha hdb he hpl
theorem zipNil {α β : Type} : ∀ (l : List α), l.zip ([] : List β) = []
  | [] => rfl
  | _ :: _ => rfl
/-- f(k = v, ..) of a def of the text -/
theorem pe_callD0 (g : {α : Type} → List α → List α) (D : Has X.prog X.w X.K X.mg X.base j x st ps sp) (kb : Keyw x st ps ks g)
    (rel : ∀ (zs : List V) (ws : List Value), Vals zs ws → Vals (g zs) (g ws)) (hj : j ≤ k) (hr : Room k X.A) (hkw : PK X kws tk) (hg : Gl X x := by rfl)
    (hall : (backToKw pos (keywordEach kws X.env)).all (·.1.isSome) = true := by rfl)
    (hks : (backToKw pos (keywordEach kws X.env)).filterMap (·.1) = ks := by rfl)
    (hdb : (x == ("__debug__" : Str)) = false := by decide)
    (hpl : ((backTo pos (starEach [] X.env)).any (·.1) || (backToKw pos (keywordEach kws X.env)).any (·.1.isNone)) = false := by rfl) :
    PE X (.Call (.Name x p) [] kws pos) (tCallN 0 ks.length sp (fun _ zs => g zs) E0 tNil tk) := by
  obtain ⟨f, fd, F, G, b, m⟩ := D
  have kb' : KBn X.K fd ps 0 ks (fun _ ws => g ws) (fun _ zs => g zs) := by
    constructor
    · intro s us ws _ l1 l2
      obtain rfl : us = [] := List.length_eq_zero_iff.mp l1
      obtain ⟨oc, od, kV, doc, pm, an, cdv, ct, osl, rfl, lk, hcd⟩ := F.ex
      exact .of_eq (kb kV doc pm an cdv ct ws l2)
    · intro vs us zs ws _ rz
      exact rel zs ws rz
  exact pe_callKw G (hr.mono hj) hg m F.kp kb' pass0 hkw hall hks hdb hpl
end
theorem rel1 (zs : List V) (ws : List Value) (r : Vals zs ws) : Vals (id zs) (id ws) := r

/-! ## built-in classes as values -/
section
variable {X : Cx} {pos : Pos}
theorem pe_ty_str (m : X.mg "str" = none) (hg : Gl X "str" := by rfl) : PE X (.Name "str" pos) (tC (.ty "str")) := pe_bltn hg m (by decide +kernel) rfl
theorem pe_ty_int (m : X.mg "int" = none) (hg : Gl X "int" := by rfl) : PE X (.Name "int" pos) (tC (.ty "int")) := pe_bltn hg m (by decide +kernel) rfl
theorem pe_ty_tuple (m : X.mg "tuple" = none) (hg : Gl X "tuple" := by rfl) : PE X (.Name "tuple" pos) (tC (.ty "tuple")) := pe_bltn hg m (by decide +kernel) rfl
theorem pe_ty_list (m : X.mg "list" = none) (hg : Gl X "list" := by rfl) : PE X (.Name "list" pos) (tC (.ty "list")) := pe_bltn hg m (by decide +kernel) rfl
theorem pe_ty_bool (m : X.mg "bool" = none) (hg : Gl X "bool" := by rfl) : PE X (.Name "bool" pos) (tC (.ty "bool")) := pe_bltn hg m (by decide +kernel) rfl
end

/-! ## heaps: what is kept -/
/-- all that was tracked, but at ms, is as it was -/
def Kp (ms : List Addr) (H H' : Hp) : Prop := ∀ b o, b ∉ ms → H b = some o → H' b = some o
theorem Kp.refl (ms : List Addr) (H : Hp) : Kp ms H H := fun _ _ _ h => h
theorem Kp.trans {ms : List Addr} {H H1 H2 : Hp} (a : Kp ms H H1) (b : Kp ms H1 H2) : Kp ms H H2 := fun c o n h => b c o n (a c o n h)
theorem Kp.wide {ms ns : List Addr} {H H' : Hp} (a : Kp ms H H') (h : ∀ b, b ∈ ms → b ∈ ns) : Kp ns H H' := fun c o n q => a c o (fun z => n (h c z)) q
theorem Kp.of_same {ms : List Addr} {H H' : Hp} (a : Same H H') : Kp ms H H' := fun c o _ q => a c o q
theorem Kp.same {H H' : Hp} (a : Kp [] H H') : Same H H' := fun c o q => a c o (fun z => by cases z) q
theorem Kp.new {ms : List Addr} {H : Hp} {p : Addr} {o : HO} (h : H p = none) : Kp ms H (upd H p o) := fun b u _ q => by rw [upd_ne (ne_of_none q h)]; exact q
theorem Kp.put {ms : List Addr} {H : Hp} {p : Addr} {o : HO} (h : p ∈ ms) : Kp ms H (upd H p o) := fun b u n q => by
  have hne : b ≠ p := fun e => n (e ▸ h)
  rw [upd_ne hne]; exact q
/-- a write to what was not there in H₀ -/
theorem Kp.put0 {ms : List Addr} {H₀ H : Hp} {p : Addr} {o : HO} (k : Kp ms H₀ H) (h : H₀ p = none) : Kp ms H₀ (upd H p o) := fun b u n q => by
  rw [upd_ne (ne_of_none q h)]; exact k b u n q
theorem Kp.free {ms : List Addr} {H H' : Hp} (k : Kp ms H H') {p : Addr} (hp : H' p = none) (hm : p ∉ ms) : H p = none := by
  cases q : H p with
  | none => rfl
  | some u => rw [k p u hm q] at hp; cases hp
theorem Kp.tup {ms : List Addr} {H H' : Hp} (k : Kp ms H H') (hm : ∀ m ∈ ms, ∀ ys, H m ≠ some (.tup ys)) {b : Addr} {xs : List V} (q : H b = some (.tup xs)) : H' b = some (.tup xs) :=
  k b _ (fun z => hm b z xs q) q

/-! ## the hand: a list of three numbers, of which draws are taken -/
def Hand (n : Nat) (H : Hp) (a : Addr) : Prop := ∃ g d c : Int, H a = some (.lst [.int g, .int d, .int c]) ∧ 0 ≤ g ∧ g < 10 ^ 180 ∧ 0 ≤ d ∧ d < 2147483647 ∧ 0 ≤ c ∧ c ≤ (n : Int)
theorem Hand.more {n m : Nat} {H : Hp} {a : Addr} (h : Hand n H a) (l : n ≤ m) : Hand m H a := by
  obtain ⟨g, d, c, h0, h1, h2, h3, h4, h5, h6⟩ := h
  exact ⟨g, d, c, h0, h1, h2, h3, h4, h5, by omega⟩
theorem Hand.keep {n : Nat} {ms : List Addr} {H H' : Hp} {a : Addr} (h : Hand n H a) (k : Kp ms H H') (hn : a ∉ ms) : Hand n H' a := by
  obtain ⟨g, d, c, h0, h1⟩ := h
  exact ⟨g, d, c, k _ _ hn h0, h1⟩
theorem Hand.new {n : Nat} {H : Hp} {a p : Addr} {o : HO} (h : Hand n H a) (hp : H p = none) : Hand n (upd H p o) a := h.keep (ms := []) (Kp.new hp) (fun z => by cases z)
theorem Hand.there {n : Nat} {H : Hp} {a : Addr} (h : Hand n H a) : ∃ xs, H a = some (.lst xs) := by
  obtain ⟨g, d, c, h0, _⟩ := h
  exact ⟨_, h0⟩
theorem Hand.ne {n : Nat} {H : Hp} {a p : Addr} (h : Hand n H a) (hp : H p = none) : a ≠ p := by
  obtain ⟨xs, q⟩ := h.there
  exact ne_of_none q hp
end Ah

namespace Ah
open PySem PySem.Spec PyProof.Rows L2
/-! ## // and % by positive numbers -/
theorem fm0 {g m : Int} (h : 1 ≤ m) : 0 ≤ g.fmod m := by rw [Int.fmod_eq_emod_of_nonneg g (by omega)]; exact Int.emod_nonneg _ (by omega)
theorem fm1 {g m : Int} (h : 1 ≤ m) : g.fmod m < m := by rw [Int.fmod_eq_emod_of_nonneg g (by omega)]; exact Int.emod_lt_of_pos _ (by omega)
theorem fd0 {g m : Int} (hg : 0 ≤ g) (h : 1 ≤ m) : 0 ≤ g.fdiv m := by rw [Int.fdiv_eq_ediv_of_nonneg _ (by omega)]; exact Int.ediv_nonneg hg (by omega)
theorem fd1 {g m : Int} (hg : 0 ≤ g) (h : 1 ≤ m) : g.fdiv m ≤ g := by rw [Int.fdiv_eq_ediv_of_nonneg _ (by omega)]; exact Int.ediv_le_self _ hg
theorem fd2 {g m k : Int} (h : 1 ≤ m) (hg : g < m * k) : g.fdiv m < k := by
  rw [Int.fdiv_eq_ediv_of_nonneg _ (by omega)]
  exact Int.ediv_lt_of_lt_mul (by omega) (by rw [Int.mul_comm]; exact hg)
theorem five {c : Int} : c.fmod 5 = 0 ∨ c.fmod 5 = 1 ∨ c.fmod 5 = 2 ∨ c.fmod 5 = 3 ∨ c.fmod 5 = 4 := by
  have h0 : 0 ≤ c.fmod 5 := fm0 (by decide)
  have h1 : c.fmod 5 < 5 := fm1 (by decide)
  omega
/-! ## an item of a list at a number within it -/
theorem atI_in {α : Type} {xs : List α} {k : Int} (h0 : 0 ≤ k) (h1 : k < (xs.length : Int)) : ∃ x, atI xs k = some x ∧ x ∈ xs ∧ xs[k.toNat]? = some x := by
  have hk : k.toNat < xs.length := by omega
  have ek : k = ((k.toNat : Nat) : Int) := by omega
  refine ⟨xs[k.toNat], ?_, List.getElem_mem _, List.getElem?_eq_getElem hk⟩
  have q : atI xs ((k.toNat : Nat) : Int) = some xs[k.toNat] := atI_nat (List.getElem?_eq_getElem hk)
  rw [← ek] at q
  exact q
theorem szLe {n : Nat} (h : Nat.ble n 1000 = true) : n ≤ sizeLine := Nat.le_of_lt (small1000 (Nat.le_of_ble_eq_true h))
theorem seqW {c : TT} {tb b : TS} {D : Ends} {σ : L2.St} {H : Hp} (h : tWhile c tb { D with nx := b D } σ H) : tSeq (tWhile c tb) b D σ H := h
theorem atI0 {α : Type} {x : α} {xs : List α} : atI (x :: xs) 0 = some x := atI_nat (j := 0) rfl
end Ah

namespace Ah
open PySem PySem.Spec PyProof.Rows L2

/-! ## names -/
def Nm (z : Str) : Prop := 1 ≤ z.length ∧ z.length ≤ 8 ∧ ∀ c ∈ z.cps.toList, 97 ≤ c ∧ c ≤ 122
def Full (f : Str) : Prop := ∃ l o : Str, Nm l ∧ Nm o ∧ f = l ++ ("." : Str) ++ o
theorem Full.length {f : Str} (h : Full f) : f.length ≤ 17 := by
  obtain ⟨l, o, hl, ho, rfl⟩ := h
  have e : (l ++ ("." : Str) ++ o).length = l.length + 1 + o.length := by
    show ((l.cps ++ _) ++ o.cps).size = l.cps.size + 1 + o.cps.size
    rw [Array.size_append, Array.size_append]; rfl
  have := hl.2.1
  have := ho.2.1
  omega
theorem Nm.append {a b : Str} (ha : ∀ c ∈ a.cps.toList, 97 ≤ c ∧ c ≤ 122) (hb : ∀ c ∈ b.cps.toList, 97 ≤ c ∧ c ≤ 122) : ∀ c ∈ (a ++ b).cps.toList, 97 ≤ c ∧ c ≤ 122 := by
  intro c hc
  have e : (a ++ b).cps.toList = a.cps.toList ++ b.cps.toList := Array.toList_append
  rw [e] at hc
  rcases List.mem_append.mp hc with h | h
  · exact ha c h
  · exact hb c h
def AB : Str := "abcdefghijklmnopqrstuvwxyz"
theorem ab_in : ∀ c ∈ AB.cps.toList, 97 ≤ c ∧ c ≤ 122 := by decide +kernel
theorem ab_len : AB.length = 26 := by decide +kernel
/-- a letter so many times -/
def times : List Int := [1, 1, 2, 8]
theorem mulOk1 {c : Nat} {n : Int} (h : n ∈ times) : MulOk ⟨#[c]⟩ n := by
  simp only [times, List.mem_cons, List.not_mem_nil, or_false] at h
  rcases h with rfl | rfl | rfl | rfl <;> refine ⟨by decide, fun _ _ => ?_, fun _ _ => ?_⟩ <;> first | (show ¬ ((1 : Int) > _); decide) | rfl
theorem mulNm {c : Nat} {n : Int} (h : n ∈ times) (h0 : 97 ≤ c) (h1 : c ≤ 122) : Nm (Txt.mul ⟨#[c]⟩ n) := by
  simp only [times, List.mem_cons, List.not_mem_nil, or_false] at h
  rcases h with rfl | rfl | rfl | rfl
  · exact ⟨by show 1 ≤ 1; decide, by show 1 ≤ 8; decide, fun d hd => by have : d ∈ [c] := hd; simp at this; omega⟩
  · exact ⟨by show 1 ≤ 1; decide, by show 1 ≤ 8; decide, fun d hd => by have : d ∈ [c] := hd; simp at this; omega⟩
  · exact ⟨by show 1 ≤ 2; decide, by show 2 ≤ 8; decide, fun d hd => by have : d ∈ [c, c] := hd; simp at this; omega⟩
  · exact ⟨by show 1 ≤ 8; decide, by show 8 ≤ 8; decide, fun d hd => by have : d ∈ [c, c, c, c, c, c, c, c] := hd; simp at this; omega⟩
theorem timesV {i : Nat} {x : V} (h : ([V.int 1, .int 1, .int 2, .int 8] : List V)[i]? = some x) : ∃ n, x = .int n ∧ n ∈ times := by
  have m := List.mem_of_getElem? h
  simp only [List.mem_cons, List.not_mem_nil, or_false] at m
  rcases m with rfl | rfl | rfl | rfl <;> exact ⟨_, rfl, by decide⟩

theorem strLen (a b : Str) : (a ++ b).length = a.length + b.length := Array.size_append
theorem getSnoc {α : Type} {xs : List α} {y z : α} {j : Nat} (h : (xs ++ [y])[j]? = some z) : (j < xs.length ∧ xs[j]? = some z) ∨ (j = xs.length ∧ z = y) := by
  by_cases hj : j < xs.length
  · left; rw [List.getElem?_append_left hj] at h; exact ⟨hj, h⟩
  · right
    rw [List.getElem?_append_right (by omega)] at h
    have : j - xs.length = 0 := by
      have := (List.getElem?_eq_some_iff.mp h).1
      simp at this; omega
    rw [this] at h
    cases h
    exact ⟨by omega, rfl⟩
/-! ## the drawn names, with how many parts each has -/
def NameAt (H : Hp) (t : Addr) (f : Str) (m : Int) : Prop := H t = some (.tup [.str f, .int m]) ∧ Full f ∧ 0 ≤ m ∧ m ≤ 3
def Names (H : Hp) (r : Addr) : Prop := ∃ ts : List Addr, H r = some (.lst (ts.map V.ref)) ∧ ts.length ≤ 5 ∧ (∃ t ∈ ts, ∃ f, NameAt H t f 0) ∧ ∀ t ∈ ts, ∃ f m, NameAt H t f m
theorem NameAt.keep {ms : List Addr} {H H' : Hp} {t : Addr} {f : Str} {m : Int} (h : NameAt H t f m) (k : Kp ms H H') (n : ∀ x ∈ ms, ∀ xs, H x ≠ some (.tup xs)) : NameAt H' t f m :=
  ⟨k.tup n h.1, h.2⟩
theorem Names.keep {ms : List Addr} {H H' : Hp} {r : Addr} (h : Names H r) (k : Kp ms H H') (hr : r ∉ ms) (n : ∀ x ∈ ms, ∀ xs, H x ≠ some (.tup xs)) : Names H' r := by
  obtain ⟨ts, h0, h1, ⟨t, ht, f, h2⟩, h3⟩ := h
  refine ⟨ts, k _ _ hr h0, h1, ⟨t, ht, f, h2.keep k n⟩, fun t ht => ?_⟩
  obtain ⟨f, m, h⟩ := h3 t ht
  exact ⟨f, m, h.keep k n⟩
theorem lstNo {H : Hp} {a : Addr} {xs : List V} (h : H a = some (.lst xs)) : ∀ ys, H a ≠ some (.tup ys) := fun ys q => by rw [h] at q; cases q
theorem Hand.noTup {n : Nat} {H : Hp} {a : Addr} (h : Hand n H a) : ∀ ys, H a ≠ some (.tup ys) := by
  obtain ⟨xs, q⟩ := h.there
  exact lstNo q
theorem Hand.put {n : Nat} {H : Hp} {a p : Addr} {o : HO} (h : Hand n H a) (hp : p ≠ a) : Hand n (upd H p o) a := h.keep (ms := [p]) (Kp.put (by simp)) (by simpa using fun e => hp e.symm)
theorem strNo {α : Type} {f : α → Str} (xs : List α) (g d c : Int) : (xs.map fun x => V.str (f x)) ≠ [V.int g, .int d, .int c] := by
  intro h
  cases xs with
  | nil => cases h
  | cons x r => cases h
theorem refNo (xs : List Addr) (g d c : Int) : (xs.map V.ref) ≠ [V.int g, .int d, .int c] := by
  intro h
  cases xs with
  | nil => cases h
  | cons x r => cases h
/-- the hand is none of the lists that hold other things -/
theorem Hand.neL {n : Nat} {H : Hp} {a b : Addr} {xs : List V} (h : Hand n H a) (hb : H b = some (.lst xs)) (hx : ∀ g d c : Int, xs ≠ [V.int g, .int d, .int c]) : b ≠ a := by
  rintro rfl
  obtain ⟨g, d, c, h0, _⟩ := h
  rw [h0] at hb
  cases hb
  exact hx g d c rfl
end Ah

namespace Ah
open PySem PySem.Spec PyProof.Rows L2

/-! ## trees -/
inductive Tr where
  | h (s : Str)
  | n (f : Str) (ps : List Tr)
mutual
def Tr.data : Tr → PyData
  | .h s => .str s
  | .n f ps => .tuple (.str f :: datas ps)
def datas : List Tr → List PyData
  | [] => []
  | t :: r => t.data :: datas r
end
mutual
/-- the trees that stand in it, itself first, as they come -/
def Tr.pre : Tr → List Tr
  | .h s => [.h s]
  | .n f ps => .n f ps :: pres ps
def pres : List Tr → List Tr
  | [] => []
  | t :: r => t.pre ++ pres r
end
mutual
def Tr.deep : Tr → Nat
  | .h _ => 0
  | .n _ ps => deeps ps + 1
def deeps : List Tr → Nat
  | [] => 0
  | t :: r => max t.deep (deeps r)
end
mutual
def Tr.ok (zs : List Str) : Tr → Prop
  | .h s => s ∈ zs
  | .n f ps => Full f ∧ ps.length ≤ 3 ∧ oks zs ps
def oks (zs : List Str) : List Tr → Prop
  | [] => True
  | t :: r => t.ok zs ∧ oks zs r
end
theorem datas_map : ∀ ps : List Tr, datas ps = ps.map Tr.data
  | [] => rfl
  | t :: r => by rw [datas, datas_map r]; rfl
theorem datas_append (a b : List Tr) : datas (a ++ b) = datas a ++ datas b := by rw [datas_map, datas_map, datas_map, List.map_append]
theorem pres_append : ∀ a b : List Tr, pres (a ++ b) = pres a ++ pres b
  | [], b => rfl
  | t :: r, b => by
    show t.pre ++ pres (r ++ b) = (t.pre ++ pres r) ++ pres b
    rw [pres_append r b, List.append_assoc]
theorem oks_mem {zs : List Str} : ∀ {ps : List Tr}, oks zs ps → ∀ t ∈ ps, t.ok zs
  | t :: r, h, u, hu => by
    cases hu with
    | head => exact h.1
    | tail _ hm => exact oks_mem h.2 u hm
theorem oks_append {zs : List Str} : ∀ {a b : List Tr}, oks zs a → oks zs b → oks zs (a ++ b)
  | [], _, _, h => h
  | _ :: _, _, h, h' => ⟨h.1, oks_append h.2 h'⟩
theorem deeps_append : ∀ (a b : List Tr), deeps (a ++ b) = max (deeps a) (deeps b)
  | [], b => by rw [List.nil_append, deeps, Nat.zero_max]
  | t :: r, b => by
    show max t.deep (deeps (r ++ b)) = max (max t.deep (deeps r)) (deeps b)
    rw [deeps_append r b, Nat.max_assoc]
/-- how many trees stand in one -/
def Tr.size (t : Tr) : Nat := t.pre.length
def sizes (ps : List Tr) : Nat := (pres ps).length
theorem size_h (s : Str) : (Tr.h s).size = 1 := rfl
theorem size_n (f : Str) (ps : List Tr) : (Tr.n f ps).size = sizes ps + 1 := rfl
theorem sizes_nil : sizes [] = 0 := rfl
theorem sizes_cons (t : Tr) (r : List Tr) : sizes (t :: r) = t.size + sizes r := by
  show (t.pre ++ pres r).length = _
  rw [List.length_append]; rfl
theorem sizes_append (a b : List Tr) : sizes (a ++ b) = sizes a + sizes b := by
  unfold sizes; rw [pres_append, List.length_append]

theorem sizes_ge : ∀ ps : List Tr, ps.length ≤ sizes ps
  | [] => Nat.le_refl _
  | t :: r => by
    rw [sizes_cons, List.length_cons]
    have pos : 1 ≤ t.size := by cases t <;> (first | (rw [size_h]) | (rw [size_n])) <;> omega
    have := sizes_ge r
    omega
theorem datas_rev (ps : List Tr) : datas ps.reverse = (datas ps).reverse := by rw [datas_map, datas_map, List.map_reverse]

theorem size_le {t : Tr} : ∀ {ps : List Tr}, t ∈ ps → t.size ≤ sizes ps
  | u :: r, h => by
    rw [sizes_cons]
    cases h with
    | head => omega
    | tail _ hm => have := size_le hm; omega
theorem deep_le {t : Tr} : ∀ {ps : List Tr}, t ∈ ps → t.deep ≤ deeps ps
  | u :: r, h => by
    show _ ≤ max u.deep (deeps r)
    cases h with
    | head => omega
    | tail _ hm => have := deep_le hm; omega
theorem sizes_take : ∀ (ps : List Tr) (i : Nat), sizes (ps.take i) ≤ sizes ps
  | [], i => by simp
  | t :: r, 0 => by simp [sizes_nil]
  | t :: r, i + 1 => by
    rw [List.take_succ_cons, sizes_cons, sizes_cons]
    have := sizes_take r i
    omega

/-! ## what stands at a value: data that lies in tuples alone stays for ever -/
theorem DpAll.length {K : PySem.W.Frag} {H : Hp} : ∀ {vs : List V} {ds : List PyData}, DpAll K H vs ds → vs.length = ds.length
  | _, _, .nil => rfl
  | _, _, .cons _ r => by rw [List.length_cons, List.length_cons, DpAll.length r]
theorem DpAll.append {K : PySem.W.Frag} {H : Hp} : ∀ {vs us : List V} {ds es : List PyData}, DpAll K H vs ds → DpAll K H us es → DpAll K H (vs ++ us) (ds ++ es)
  | _, _, _, _, .nil, s => s
  | _, _, _, _, .cons a r, s => .cons a (DpAll.append r s)
theorem DpAll.one {K : PySem.W.Frag} {H : Hp} {v : V} {d : PyData} (h : Dp K H v d) : DpAll K H [v] [d] := .cons h .nil
theorem DpAll.snoc {K : PySem.W.Frag} {H : Hp} : ∀ {vs : List V} {ds : List PyData} {d : PyData}, DpAll K H vs (ds ++ [d]) → ∃ us v, vs = us ++ [v] ∧ DpAll K H us ds ∧ Dp K H v d
  | vs, [], d, h => by
    cases h with
    | cons a r => cases r; exact ⟨[], _, rfl, .nil, a⟩
  | vs, e :: ds, d, h => by
    cases h with
    | cons a r =>
      obtain ⟨us, v, rfl, h1, h2⟩ := DpAll.snoc r
      exact ⟨_ :: us, v, rfl, .cons a h1, h2⟩
theorem DpAll.reverse {K : PySem.W.Frag} {H : Hp} : ∀ {vs : List V} {ds : List PyData}, DpAll K H vs ds → DpAll K H vs.reverse ds.reverse
  | _, _, .nil => .nil
  | _, _, .cons a r => by
    rw [List.reverse_cons, List.reverse_cons]
    exact DpAll.append (DpAll.reverse r) (DpAll.one a)
theorem DpAll.get {K : PySem.W.Frag} {H : Hp} : ∀ {vs : List V} {ds : List PyData} {i : Nat} {v : V}, DpAll K H vs ds → vs[i]? = some v → ∃ d, ds[i]? = some d ∧ Dp K H v d
  | _, _, 0, _, .cons a r, e => by cases e; exact ⟨_, rfl, a⟩
  | _, _, i + 1, _, .cons a r, e => DpAll.get (i := i) r e
/-- what may be changed: neither a tuple nor frozen -/
def Loose (H : Hp) (m : Addr) : Prop := (∀ xs, H m ≠ some (.tup xs)) ∧ ∀ o u, H m ≠ some (.frz o u)
theorem Loose.lst {H : Hp} {m : Addr} {l : List V} (h : H m = some (.lst l)) : Loose H m := ⟨fun xs e => (by rw [h] at e; cases e), fun o u e => (by rw [h] at e; cases e)⟩
theorem Loose.dK {H : Hp} {m : Addr} {l : List (Key × V)} (h : H m = some (.dK l)) : Loose H m := ⟨fun xs e => (by rw [h] at e; cases e), fun o u e => (by rw [h] at e; cases e)⟩
theorem Hand.loose {n : Nat} {H : Hp} {a : Addr} (h : Hand n H a) : Loose H a := by
  obtain ⟨l, e⟩ := h.there
  exact .lst e
/-- all lists that were there, but ms, and all tuples, are as they were: enough for data without the lists ms -/
theorem SqT.kp {K : PySem.W.Frag} {ms : List Addr} {H H' : Hp} {a : Addr} {xs : List V} (k : Kp ms H H') (n : ∀ m ∈ ms, Loose H m) (h : SqT K H a xs) : SqT K H' a xs := by
  rcases h with (h | ⟨o, h⟩) | h
  · refine .inl (.inl (k _ _ (fun z => ?_) h))
    exact (n _ z).1 _ h
  · refine .inl (.inr ⟨o, k _ _ (fun z => ?_) h⟩)
    exact (n _ z).2 _ _ h
  · exact .inr h
mutual
theorem Tr.kp {K : PySem.W.Frag} {ms : List Addr} {H H' : Hp} (k : Kp ms H H') (n : ∀ m ∈ ms, Loose H m) : ∀ (t : Tr) {v : V}, Dp K H v t.data → Dp K H' v t.data
  | .h s, v, h => by
    rw [Tr.data] at h ⊢
    cases h
    exact .str s
  | .n f ps, v, h => by
    rw [Tr.data] at h ⊢
    cases h with
    | tup a b =>
      refine .tup (SqT.kp k n a) ?_
      cases b with
      | cons b1 b2 =>
        refine .cons ?_ (trsKp k n ps b2)
        cases b1
        exact .str f
theorem trsKp {K : PySem.W.Frag} {ms : List Addr} {H H' : Hp} (k : Kp ms H H') (n : ∀ m ∈ ms, Loose H m) : ∀ (ts : List Tr) {vs : List V}, DpAll K H vs (datas ts) → DpAll K H' vs (datas ts)
  | [], vs, h => by
    rw [datas] at h ⊢
    cases h
    exact .nil
  | t :: r, vs, h => by
    rw [datas] at h ⊢
    cases h with
    | cons a b => exact .cons (Tr.kp k n t a) (trsKp k n r b)
end
theorem Tr.new {K : PySem.W.Frag} {H : Hp} {p : Addr} {o : HO} {t : Tr} {v : V} (h : Dp K H v t.data) (hp : H p = none) : Dp K (upd H p o) v t.data :=
  t.kp (ms := []) (Kp.new hp) (fun _ z => by cases z) h
theorem trsNew {K : PySem.W.Frag} {H : Hp} {p : Addr} {o : HO} {ts : List Tr} {vs : List V} (h : DpAll K H vs (datas ts)) (hp : H p = none) : DpAll K (upd H p o) vs (datas ts) :=
  trsKp (ms := []) (Kp.new hp) (fun _ z => by cases z) ts h
theorem Tr.put {K : PySem.W.Frag} {H : Hp} {p : Addr} {o : HO} {l : List V} {t : Tr} {v : V} (h : Dp K H v t.data) (hp : H p = some (.lst l)) : Dp K (upd H p o) v t.data :=
  t.kp (ms := [p]) (Kp.put (by simp)) (fun m z => by rw [List.mem_singleton.mp z]; exact .lst hp) h
theorem trsPut {K : PySem.W.Frag} {H : Hp} {p : Addr} {o : HO} {l : List V} {ts : List Tr} {vs : List V} (h : DpAll K H vs (datas ts)) (hp : H p = some (.lst l)) : DpAll K (upd H p o) vs (datas ts) :=
  trsKp (ms := [p]) (Kp.put (by simp)) (fun m z => by rw [List.mem_singleton.mp z]; exact .lst hp) ts h

/-! ## rules that read the written part, said with it (for comprehensions' blocks) -/
section
variable {X : Cx} (K : PySem.W.Frag)
theorem ixL (h : X.K = K := by rfl) : IxR X (rIxL K) := h ▸ ix_list
theorem ixT (h : X.K = K := by rfl) : IxR X (rIxT K) := h ▸ ix_tup
theorem ixQ (h : X.K = K := by rfl) : IxR X (rIx K) := h ▸ ix_seq
end
/-! ## holes' names, as drawn -/
def Holes (zs : List Str) : Prop := zs ≠ [] ∧ zs.length ≤ 4 ∧ zs.Nodup ∧ ∀ z ∈ zs, Nm z
end Ah

namespace Ah
open PySem PySem.Spec PyProof.Rows L2

/-! ## small data: what repr and == ask -/
/-- a small text -/
def Sm (z : Str) : Prop := z.length ≤ 1000 ∧ ∀ c ∈ z.cps.toList, c < 1000
structure Fine (k b : Nat) (d : PyData) : Prop where
  dep : d.depth ≤ k
  sho : d.showable = true
  lay : d.canLay0 = true
  lea : d.leavesShort 13 = true
  blk : d.bulk ≤ b
structure Fines (k b : Nat) (ds : List PyData) : Prop where
  dep : PyData.depthAll ds ≤ k
  sho : PyData.showableAll ds = true
  lay : PyData.canLayAll0 ds = true
  lea : PyData.leavesShortAll 13 ds = true
  blk : PyData.bulkAll ds ≤ b
theorem Nm.sm {z : Str} (h : Nm z) : Sm z := ⟨by have := h.2.1; omega, fun c hc => by have := (h.2.2 c hc).2; omega⟩
theorem Full.sm {f : Str} (h : Full f) : Sm f := by
  refine ⟨by have := h.length; omega, ?_⟩
  obtain ⟨l, o, hl, ho, rfl⟩ := h
  intro c hc
  have e : (l ++ ("." : Str) ++ o).cps.toList = l.cps.toList ++ [46] ++ o.cps.toList := by
    show ((l.cps ++ _) ++ o.cps).toList = _
    rw [Array.toList_append, Array.toList_append]; rfl
  rw [e] at hc
  simp only [List.mem_append, List.mem_singleton] at hc
  rcases hc with (h | h) | h
  · have := (hl.2.2 c h).2; omega
  · omega
  · have := (ho.2.2 c h).2; omega
theorem Fine.str {z : Str} (h : Sm z) (k : Nat) : Fine k z.length (.str z) := by
  refine ⟨by simp [PyData.depth], by simp [PyData.showable], ?_, ?_, by simp [PyData.bulk, Str.length]⟩
  · simp only [PyData.canLay0]
    unfold PyData.strOk
    rw [Array.all_eq_true]
    intro i hi
    have := h.2 z.cps[i] (by simp)
    exact decide_eq_true (by omega)
  · simp only [PyData.leavesShort, List.all_eq_true]
    intro c hc
    have := h.2 c hc
    exact decide_eq_true (by omega)
theorem Fine.int {i : Int} (h : i.natAbs < 10 ^ 12) (k : Nat) : Fine k 0 (.int i) := by
  refine ⟨by simp [PyData.depth], ?_, by simp [PyData.canLay0], ?_, by simp [PyData.bulk]⟩
  · simp only [PyData.showable]
    exact decide_eq_true (log2_small (Nat.lt_of_lt_of_le h (Nat.le_trans (by decide : 10 ^ 12 ≤ 2 ^ 64) (Nat.pow_le_pow_right (by decide) (by decide)))))
  · simp only [PyData.leavesShort]
    exact decide_eq_true (PyData.shown_int_le h)
theorem Fine.bool (b : Bool) (k : Nat) : Fine k 0 (.bool b) := ⟨by simp [PyData.depth], by simp [PyData.showable], by simp [PyData.canLay0], by simp [PyData.leavesShort], by simp [PyData.bulk]⟩
theorem Fine.none (k : Nat) : Fine k 0 .none := ⟨by simp [PyData.depth], by simp [PyData.showable], by simp [PyData.canLay0], by simp [PyData.leavesShort], by simp [PyData.bulk]⟩
theorem Fines.nil (k b : Nat) : Fines k b [] := ⟨by simp [PyData.depthAll], by simp [PyData.showableAll], by simp [PyData.canLayAll0], by simp [PyData.leavesShortAll], by simp [PyData.bulkAll]⟩
theorem Fines.cons {k b c : Nat} {d : PyData} {ds : List PyData} (h : Fine k b d) (r : Fines k c ds) : Fines k (b + 1 + c) (d :: ds) := by
  refine ⟨?_, ?_, ?_, ?_, ?_⟩
  · simp only [PyData.depthAll]; have := h.dep; have := r.dep; omega
  · simp only [PyData.showableAll, h.sho, r.sho]; rfl
  · simp only [PyData.canLayAll0, h.lay, r.lay]; rfl
  · simp only [PyData.leavesShortAll, h.lea, r.lea]; rfl
  · simp only [PyData.bulkAll]; have := h.blk; have := r.blk; omega
theorem Fines.list {k b : Nat} {ds : List PyData} (r : Fines k b ds) : Fine (k + 1) b (.list ds) := by
  refine ⟨?_, ?_, ?_, ?_, ?_⟩
  · simp only [PyData.depth]; have := r.dep; omega
  · simp only [PyData.showable, r.sho]
  · simp only [PyData.canLay0, r.lay]
  · simp only [PyData.leavesShort, r.lea]
  · simp only [PyData.bulk]; exact r.blk
theorem Fines.tuple {k b : Nat} {ds : List PyData} (r : Fines k b ds) : Fine (k + 1) b (.tuple ds) := by
  refine ⟨?_, ?_, ?_, ?_, ?_⟩
  · simp only [PyData.depth]; have := r.dep; omega
  · simp only [PyData.showable, r.sho]
  · simp only [PyData.canLay0, r.lay]
  · simp only [PyData.leavesShort, r.lea]
  · simp only [PyData.bulk]; exact r.blk
theorem Fine.up {k b k' b' : Nat} {d : PyData} (h : Fine k b d) (hk : k ≤ k') (hb : b ≤ b') : Fine k' b' d :=
  ⟨Nat.le_trans h.dep hk, h.sho, h.lay, h.lea, Nat.le_trans h.blk hb⟩
theorem Fines.up {k b k' b' : Nat} {d : List PyData} (h : Fines k b d) (hk : k ≤ k') (hb : b ≤ b') : Fines k' b' d :=
  ⟨Nat.le_trans h.dep hk, h.sho, h.lay, h.lea, Nat.le_trans h.blk hb⟩
theorem Fine.fits {k b : Nat} {d : PyData} (h : Fine k b d) (hb : b ≤ 1000000) : d.shown.length ≤ sizeLine := by
  have := PyData.shown_le_bulk 13 (by decide) d h.lea
  have := h.blk
  rw [sizeLine_eq]
  omega
theorem Fine.shaped {k b : Nat} {d : PyData} (h : Fine k b d) (hk : k ≤ 64) : SeqAt.shaped d = true := by
  unfold SeqAt.shaped
  rw [h.lay, decide_eq_true (Nat.le_trans h.dep hk)]; rfl
theorem finesStrs {zs : List Str} {m : Nat} (h : ∀ z ∈ zs, Sm z ∧ z.length ≤ m) (k : Nat) : Fines k ((m + 1) * zs.length) (zs.map PyData.str) := by
  induction zs with
  | nil => exact Fines.nil _ _
  | cons z r ih =>
    have a := Fine.str (h z (by simp)).1 k
    have b := ih fun y hy => h y (by simp [hy])
    refine (Fines.cons a b).up (Nat.le_refl _) ?_
    have := (h z (by simp)).2
    rw [List.length_cons, Nat.mul_add, Nat.mul_one]
    omega
mutual
theorem Tr.fine {zs : List Str} (hz : ∀ z ∈ zs, Nm z) : ∀ t : Tr, t.ok zs → Fine t.deep (18 + 19 * (t.size - 1)) t.data
  | .h s, h => by
    rw [Tr.data]
    have n := hz s h
    exact (Fine.str n.sm _).up (Nat.le_refl _) (by have := n.2.1; omega)
  | .n f ps, h => by
    rw [Tr.data]
    have r := trsFine hz ps h.2.2
    have a := Fine.str h.1.sm (deeps ps)
    refine (Fines.cons a r).tuple.up (Nat.le_refl _) ?_
    have := h.1.length
    rw [size_n]
    omega
theorem trsFine {zs : List Str} (hz : ∀ z ∈ zs, Nm z) : ∀ ps : List Tr, oks zs ps → Fines (deeps ps) (19 * sizes ps) (datas ps)
  | [], _ => by rw [datas]; exact Fines.nil _ _
  | t :: r, h => by
    rw [datas]
    have a := Tr.fine hz t h.1
    have b := trsFine hz r h.2
    have pos : 1 ≤ t.size := by cases t <;> (first | (rw [size_h]) | (rw [size_n])) <;> omega
    refine (Fines.cons (a.up (Nat.le_max_left _ _) (Nat.le_refl _)) (b.up (Nat.le_max_right t.deep _) (Nat.le_refl _))).up (Nat.le_refl _) ?_
    rw [sizes_cons]
    omega
end
/-- a list of texts as data -/
theorem dpStrs {K : PySem.W.Frag} {H : Hp} : ∀ zs : List Str, DpAll K H (zs.map V.str) (zs.map PyData.str)
  | [] => .nil
  | z :: r => .cons (.str z) (dpStrs r)
end Ah

namespace Ah
open PySem PySem.Spec PyProof.Rows L2
/-! ## holes and names of trees -/
def holeOf : Tr → Option Str
  | .h s => some s
  | .n _ _ => none
def nameOf : Tr → Option Str
  | .h _ => none
  | .n f _ => some f
def addNew {α : Type} [DecidableEq α] (acc : List α) (z : α) : List α := if z ∈ acc then acc else acc ++ [z]
/-- each once, as they first come -/
def uniq {α : Type} [DecidableEq α] (l : List α) : List α := l.foldl addNew []
theorem addNew_mem {α : Type} [DecidableEq α] {acc : List α} {z x : α} : x ∈ addNew acc z ↔ x ∈ acc ∨ x = z := by
  unfold addNew
  split
  · constructor
    · exact .inl
    · rintro (h | rfl) <;> assumption
  · simp
theorem foldl_mem {α : Type} [DecidableEq α] : ∀ (l acc : List α) (x : α), x ∈ l.foldl addNew acc ↔ x ∈ acc ∨ x ∈ l
  | [], acc, x => by simp
  | z :: r, acc, x => by
    rw [List.foldl_cons, foldl_mem r, addNew_mem, List.mem_cons, or_assoc]
theorem uniq_mem {α : Type} [DecidableEq α] {l : List α} {x : α} : x ∈ uniq l ↔ x ∈ l := by
  unfold uniq; rw [foldl_mem]; simp
theorem addNew_nodup {α : Type} [DecidableEq α] {acc : List α} {z : α} (h : acc.Nodup) : (addNew acc z).Nodup := by
  unfold addNew
  split
  · exact h
  · rename_i hz
    rw [List.nodup_append]
    exact ⟨h, by simp, fun a ha b hb => by rw [List.mem_singleton.mp hb]; rintro rfl; exact hz ha⟩
theorem foldl_nodup {α : Type} [DecidableEq α] : ∀ (l acc : List α), acc.Nodup → (l.foldl addNew acc).Nodup
  | [], acc, h => h
  | z :: r, acc, h => foldl_nodup r _ (addNew_nodup h)
theorem uniq_nodup {α : Type} [DecidableEq α] (l : List α) : (uniq l).Nodup := foldl_nodup l [] List.nodup_nil
theorem uniq_snoc {α : Type} [DecidableEq α] (l : List α) (z : α) : uniq (l ++ [z]) = addNew (uniq l) z := by
  unfold uniq; rw [List.foldl_append]; rfl
theorem addNew_len {α : Type} [DecidableEq α] (acc : List α) (z : α) : (addNew acc z).length ≤ acc.length + 1 := by
  unfold addNew; split
  · omega
  · rw [List.length_append]; simp
theorem uniq_len {α : Type} [DecidableEq α] : ∀ (l acc : List α), (l.foldl addNew acc).length ≤ acc.length + l.length
  | [], acc => by simp
  | z :: r, acc => by
    rw [List.foldl_cons, List.length_cons]
    have := uniq_len r (addNew acc z)
    have := addNew_len acc z
    omega
/-- keys of a dict that is filled with True -/
def seen (zs : List Str) : List (Key × V) := zs.map fun z => (Sum.inr z, V.bl true)
theorem seen_put (zs : List Str) (z : Str) : putK (seen zs) (Sum.inr z) (V.bl true) = seen (addNew zs z) := by
  unfold putK seen addNew
  have e : ((zs.map fun z => ((Sum.inr z : Key), V.bl true)).any fun kv => decide (kv.1 = Sum.inr z)) = decide (z ∈ zs) := by
    rw [List.any_map]
    induction zs with
    | nil => rfl
    | cons y r ih =>
      rw [List.any_cons, ih]
      by_cases h : y = z
      · subst h; simp
      · have h1 : ¬ (Sum.inr y : Key) = Sum.inr z := fun q => h (Sum.inr.inj q)
        have h2 : ¬ z = y := fun q => h q.symm
        simp [h1, h2]
  rw [e]
  by_cases h : z ∈ zs
  · rw [if_pos (decide_eq_true h), if_pos h, List.map_map]
    apply List.map_congr_left
    intro y _
    show (if (Sum.inr y : Key) = Sum.inr z then ((Sum.inr y : Key), V.bl true) else (Sum.inr y, V.bl true)) = _
    split <;> rfl
  · rw [decide_eq_false h, if_neg Bool.false_ne_true, if_neg h, List.map_append]
    rfl
theorem seen_keys (zs : List Str) : (seen zs).map (fun kv => kV kv.1) = zs.map V.str := by
  unfold seen; rw [List.map_map]; rfl
def hols (t : Tr) : List Str := uniq (t.pre.filterMap holeOf)
def nams (t : Tr) : List Str := t.pre.filterMap nameOf
end Ah

namespace Ah
open PySem PySem.Spec PyProof.Rows L2
/-! ## kinds, cuts, texts in lists -/
theorem tyTup {K : PySem.W.Frag} {H : Hp} {a : Addr} {xs : List V} (h : SqT K H a xs) : TyX K H (.ref a) (.type "tuple") := by
  rcases h with (h | ⟨o, h⟩) | ⟨o, its, n, h1, h2, _⟩
  · exact .base (.tup h)
  · exact .fTuple h
  · exact .kTuple h1 h2
theorem kStr {K : PySem.W.Frag} : PySem.W.kitOne K (.type "str") (.type "str") = some true := kit_ty (by decide +kernel)
theorem kTup {K : PySem.W.Frag} : PySem.W.kitOne K (.type "tuple") (.type "str") = some false := kit_ty (by decide +kernel)
theorem cut1 (x : V) (xs : List V) : cutV (x :: xs) (some 1) none = xs := by
  have e : HT.sIx (x :: xs).length 0 (some 1) = 1 := by
    have := HT.sIx_nat (x :: xs).length 0 1
    rw [List.length_cons, Nat.min_eq_left (by omega)] at this
    rw [List.length_cons]
    exact this
  unfold cutV
  rw [e, HT.sIx_none]
  simp
theorem cut1ne (x : V) (xs : List V) : ¬ (HT.sIx (x :: xs).length 0 (some 1) = 0 ∧ HT.sIx (x :: xs).length (x :: xs).length none = (x :: xs).length) := by
  rintro ⟨h, _⟩
  have := HT.sIx_nat (x :: xs).length 0 1
  rw [List.length_cons, Nat.min_eq_left (by omega)] at this
  rw [List.length_cons] at h
  have z : HT.sIx (xs.length + 1) 0 (some 1) = 1 := this
  rw [z] at h
  cases h
theorem dotCode : ("." : Str) = ⟨#[46]⟩ := by decide +kernel
theorem inStrs (z : Str) (zs : List Str) : inV (.str z) (zs.map V.str) = decide (z ∈ zs) := by
  unfold inV
  rw [List.any_map]
  induction zs with
  | nil => rfl
  | cons y r ih =>
    rw [List.any_cons, ih]
    show (eqV (.str y) (.str z) || _) = _
    have e : eqV (.str y) (.str z) = (y == z) := rfl
    rw [e]
    by_cases h : y = z
    · subst h; simp
    · have h2 : ¬ z = y := fun q => h q.symm
      simp [h, h2]
theorem flatStrs (zs : List Str) : (zs.map V.str).all flatV = true := by
  rw [List.all_map, List.all_eq_true]; intro z _; rfl
/-- a name of a hole has no dot, a full name has -/
theorem Nm.noDot {z : Str} (h : Nm z) : 46 ∉ z.cps.toList := fun hm => by
  have := (h.2.2 46 hm).1
  omega
theorem Full.dot {f : Str} (h : Full f) : 46 ∈ f.cps.toList := by
  obtain ⟨l, o, _, _, rfl⟩ := h
  have e : (l ++ ("." : Str) ++ o).cps.toList = l.cps.toList ++ [46] ++ o.cps.toList := by
    show ((l.cps ++ _) ++ o.cps).toList = _
    rw [Array.toList_append, Array.toList_append]; rfl
  rw [e]; simp
/-! ## the symbols of a tree, as written -/
def symOf : Tr → Str
  | .h s => s
  | .n f _ => f
def syms (t : Tr) : List Str := t.pre.map symOf
theorem syms_h (s : Str) : syms (.h s) = [s] := rfl
theorem syms_n (f : Str) (ps : List Tr) : syms (.n f ps) = f :: (pres ps).map symOf := rfl
theorem pres_cons (t : Tr) (r : List Tr) : pres (t :: r) = t.pre ++ pres r := rfl
mutual
theorem Tr.sub {zs : List Str} : ∀ t : Tr, t.ok zs → ∀ u ∈ t.pre, (∃ s, u = .h s ∧ s ∈ zs) ∨ ∃ f ps, u = .n f ps ∧ Full f
  | .h s, h, u, hu => by
    have e : u = .h s := List.mem_singleton.mp hu
    exact .inl ⟨s, e, h⟩
  | .n f ps, h, u, hu => by
    have hu' : u ∈ Tr.n f ps :: pres ps := hu
    rcases List.mem_cons.mp hu' with e | hm
    · exact .inr ⟨f, ps, e, h.1⟩
    · exact trsSub ps h.2.2 u hm
theorem trsSub {zs : List Str} : ∀ ps : List Tr, oks zs ps → ∀ u ∈ pres ps, (∃ s, u = .h s ∧ s ∈ zs) ∨ ∃ f ps, u = .n f ps ∧ Full f
  | [], _, u, hu => by cases hu
  | t :: r, h, u, hu => by
    rw [pres_cons] at hu
    rcases List.mem_append.mp hu with hm | hm
    · exact Tr.sub t h.1 u hm
    · exact trsSub r h.2 u hm
end
/-- of a tree's symbols: those without a dot are the holes, those with one the full names -/
theorem symHole {zs : List Str} (hz : ∀ z ∈ zs, Nm z) {us : List Tr} (h : ∀ u ∈ us, (∃ s, u = Tr.h s ∧ s ∈ zs) ∨ ∃ f ps, u = Tr.n f ps ∧ Full f) :
    (us.map symOf).filter (fun s => decide (46 ∉ s.cps.toList)) = us.filterMap holeOf ∧ (us.map symOf).filter (fun s => decide (46 ∈ s.cps.toList)) = us.filterMap nameOf := by
  induction us with
  | nil => exact ⟨rfl, rfl⟩
  | cons u r ih =>
    obtain ⟨i1, i2⟩ := ih fun v hv => h v (List.mem_cons_of_mem _ hv)
    rcases h u (List.mem_cons_self ..) with ⟨s, rfl, hs⟩ | ⟨f, ps, rfl, hf⟩
    · have nd := (hz s hs).noDot
      constructor
      · rw [List.map_cons, List.filter_cons]
        show (if decide (46 ∉ s.cps.toList) = true then s :: _ else _) = s :: r.filterMap holeOf
        rw [if_pos (decide_eq_true nd), i1]
      · rw [List.map_cons, List.filter_cons]
        show (if decide (46 ∈ s.cps.toList) = true then s :: _ else _) = r.filterMap nameOf
        rw [decide_eq_false nd, if_neg Bool.false_ne_true, i2]
    · have nd := hf.dot
      constructor
      · rw [List.map_cons, List.filter_cons]
        show (if decide (46 ∉ f.cps.toList) = true then f :: _ else _) = r.filterMap holeOf
        rw [decide_eq_false (fun k => k nd), if_neg Bool.false_ne_true, i1]
      · rw [List.map_cons, List.filter_cons]
        show (if decide (46 ∈ f.cps.toList) = true then f :: _ else _) = f :: r.filterMap nameOf
        rw [if_pos (decide_eq_true nd), i2]
/-- every symbol is a small text of at most 17 signs -/
theorem symSm {zs : List Str} (hz : ∀ z ∈ zs, Nm z) {t : Tr} (h : t.ok zs) : ∀ s ∈ syms t, Sm s ∧ s.length ≤ 17 := by
  intro s hs
  obtain ⟨u, hu, rfl⟩ := List.mem_map.mp hs
  rcases Tr.sub t h u hu with ⟨s, rfl, hm⟩ | ⟨f, ps, rfl, hf⟩
  · exact ⟨(hz s hm).sm, by have := (hz s hm).2.1; show s.length ≤ 17; omega⟩
  · exact ⟨hf.sm, hf.length⟩
end Ah

namespace Ah
open PySem PySem.Spec PyProof.Rows L2
/-! ## the line of a full name -/
theorem nameCodes (l o : Str) : TL.tl (l ++ ("." : Str) ++ o) = TL.tl l ++ 46 :: TL.tl o := by
  rw [TL.tl_append, TL.tl_append]
  show (TL.tl l ++ [46]) ++ TL.tl o = _
  rw [List.append_assoc]; rfl
theorem dotCodes : TL.tl ("." : Str) = [46] := rfl
theorem preDot (r : List Nat) : TL.pre [46] (46 :: r) = true := rfl
theorem find_name {l o : Str} (hl : Nm l) : Txt.find (l ++ ("." : Str) ++ o) "." = (l.length : Int) := by
  have ne : TL.tl ("." : Str) ≠ [] := by rw [dotCodes]; simp
  have len : (TL.tl l).length = l.length := (TL.len_tl l).symm
  have here : StrLaws.At (l ++ ("." : Str) ++ o) "." (l ++ ("." : Str) ++ o).length l.length := by
    rw [TL.at_iff ne, nameCodes, dotCodes, ← len, List.drop_append_of_le_length (Nat.le_refl _), List.drop_length]
    rfl
  rcases find_whole (l ++ ("." : Str) ++ o) "." with ⟨_, no⟩ | ⟨i, e, hi, no⟩
  · exact (no _ here).elim
  · rw [e]
    have h1 : ¬ l.length < i := fun h => no _ h here
    have h2 : ¬ i < l.length := by
      intro h
      rw [TL.at_iff ne, nameCodes, dotCodes, List.drop_append_of_le_length (by omega)] at hi
      have hi' : i < (TL.tl l).length := by omega
      rw [List.drop_eq_getElem_cons hi'] at hi
      have hm : (TL.tl l)[i] ∈ TL.tl l := List.getElem_mem _
      have c : 97 ≤ (TL.tl l)[i] := (hl.2.2 _ hm).1
      have : TL.pre [46] ((TL.tl l)[i] :: (List.drop (i + 1) (TL.tl l) ++ 46 :: TL.tl o)) = false := TL.pre_of_head _ _ (by omega)
      rw [List.cons_append, this] at hi
      cases hi
    congr 1
    omega
theorem cut_name (l o : Str) : cutS (l ++ ("." : Str) ++ o) none (some (l.length : Int)) = l := by
  have e : (l ++ ("." : Str) ++ o).cps.toList = l.cps.toList ++ 46 :: o.cps.toList := nameCodes l o
  have len : l.cps.toList.length = l.length := by simp [Str.length]
  have le : l.length ≤ (l ++ ("." : Str) ++ o).length := by rw [strLen, strLen]; omega
  unfold cutS
  rw [HT.sIx_none, HT.sIx_nat, Nat.min_eq_left le, List.drop_zero, Nat.sub_zero, e, ← len, List.take_left]
/-! ## data of texts -/
theorem dpTup {K : PySem.W.Frag} {H : Hp} {a : Addr} {zs : List Str} (h : SqT K H a (zs.map V.str)) : Dp K H (.ref a) (.tuple (zs.map PyData.str)) := .tup h (dpStrs zs)
theorem showAll {k b : Nat} {d : PyData} (f : Fine k b d) (hk : k ≤ 60) (hb : b ≤ 1000000) : d.showable = true ∧ d.depth ≤ 60 ∧ d.shown.length ≤ sizeLine :=
  ⟨f.sho, Nat.le_trans f.dep hk, f.fits hb⟩
theorem fineTexts {zs : List Str} (h : ∀ z ∈ zs, Sm z ∧ z.length ≤ 17) (hl : zs.length ≤ 1000) : Fine 1 18000 (.tuple (zs.map PyData.str)) :=
  (finesStrs (m := 17) h 0).tuple.up (Nat.le_refl _) (by omega)
theorem fineTwo {k b : Nat} {d e : PyData} (h : Fine k b d) (h' : Fine k b e) : Fine (k + 1) (2 * b + 2) (.list [d, e]) :=
  (Fines.cons h (Fines.cons h' (Fines.nil k 0))).list.up (Nat.le_refl _) (by omega)
/-! ## a def that keeps each of several promises -/
theorem Has.any {P : Program} {w : World} {K : PySem.W.Frag} {mg : Str → Option Value} {base : Heap} {k : Nat} {x : Str} {st : Stmt} {ps : List Str} {sp : Nat → Sp} (D : Nat)
    (h : ∀ d, d ≤ D → Has P w K mg base k x st ps (sp d)) : Has P w K mg base k x st ps (fun vs H Q E => ∃ d, d ≤ D ∧ sp d vs H Q E) := by
  obtain ⟨f, fd, F, G, b, m⟩ := h 0 (Nat.zero_le _)
  have all : ∀ d, d ≤ D → FnOk P w K mg base CX0 k f fd ps (sp d) := by
    intro d hd
    obtain ⟨f', fd', F', G', b', m'⟩ := h d hd
    rw [m] at m'
    cases m'
    obtain ⟨oc, od, kV, doc, pm, an, cdv, ct, osl, e1, l1, _⟩ := F.ex
    obtain ⟨oc', od', kV', doc', pm', an', cdv', ct', osl', e2, l2, _⟩ := F'.ex
    rw [l1] at l2
    cases l2
    exact G'
  exact ⟨f, fd, F, ⟨fun vs H Q E ⟨d, hd, q⟩ => (all d hd).len vs H Q E q, fun A outer s H args us vs Q E hr he hb hv ⟨d, hd, q⟩ => (all d hd).run A outer s H args us vs Q E hr he hb hv q⟩, b, m⟩
/-- a list that was there is there still, where only new things were changed -/
theorem SqL.kp {K : PySem.W.Frag} {ms : List Addr} {H H' : Hp} {a : Addr} {xs : List V} (k : Kp ms H H') (n : ∀ m ∈ ms, H m = none) (h : SqL K H a xs) : SqL K H' a xs := by
  rcases h with (h | ⟨o, h⟩) | h
  · exact .inl (.inl (k _ _ (fun z => by rw [n _ z] at h; cases h) h))
  · exact .inl (.inr ⟨o, k _ _ (fun z => by rw [n _ z] at h; cases h) h⟩)
  · exact .inr h
/-- what law(script) promises -/
def spLaw (K : PySem.W.Frag) : Sp := fun vs H Q _ => ∃ (a : Addr) (ns : List Int), vs = [.ref a] ∧ SqL K H a (ns.map V.int) ∧ ns.length ≤ 63 ∧ ∀ H', Q (.bl true) H'
/-- what the law asks at one hand -/
def spRight : Sp := fun vs H Q _ => ∃ (a : Addr), vs = [.ref a] ∧ Hand 0 H a ∧ ∀ (H' : Hp), Kp [a] H H' → Q (.bl true) H'
end Ah

namespace Ah
open PySem PySem.Spec PyProof.Rows L2
/-! ## the end: what the top has left -/
theorem mkAt {K : PySem.W.Frag} {h : Heap} {mg : Str → Option Value} (X : K.In h) (G : h.Ns mainGlobals mg) {x : Str} {st : Stmt} {f : Addr} {oc : Value} {od an : Option Addr} {osl : Array (Option Value)} {kV doc pm cdv ct : Value}
    (a : PySem.W.nsIn K mainGlobals x = some (some (.ref f)))
    (l : K.lookup f = some ⟨oc, od, .func (PySem.W.fnOf x x (defArgs st) (defBody st) (defScope st) .none kV doc pm an cdv ct), osl⟩)
    (c : PySem.W.codeIn K cdv x = true) (k : PySem.W.keepIn K (.ref f) = true) : At K mg x st :=
  ⟨f, _, fun_mk l c k, PySem.W.mg_of X G a⟩
theorem mkNo {K : PySem.W.Frag} {h : Heap} {mg : Str → Option Value} (X : K.In h) (G : h.Ns mainGlobals mg) {x : Str} (z : PySem.W.nsIn K mainGlobals x = some none) : mg x = none := PySem.W.mg_none_of X G z
/-- the law's own def, from its promise over every base -/
theorem lawFn {P : Program} {w : World} {K : PySem.W.Frag} {mg : Str → Option Value} {st : Stmt} {fa : Addr} {sp : Sp} {k : Nat} (hfa : mg "law" = some (.ref fa)) (T : At K mg "law" st) (b : Posi "law" st ["script"])
    (D : ∀ base : Heap, HasG P w K mg base k "law" st ["script"] sp) :
    ∃ fd : FuncData, (∀ (s : Shared) (v : Value), BindsTo s fd ⟨[v], []⟩ [("script", v)]) ∧ ∀ base : Heap, K.In base → base.Ns mainGlobals mg → FnG P w K mg base CX0 k fa fd ["script"] sp := by
  obtain ⟨f, fd, F, m⟩ := T
  rw [hfa] at m
  cases m
  obtain ⟨oc, od, kV, doc, pm, an, cdv, ct, osl, e1, l1, _⟩ := id F.ex
  refine ⟨fd, fun s v => ?_, fun base _ _ => ?_⟩
  · rw [e1]
    exact .of_eq (b kV doc pm an cdv ct [v] rfl)
  · obtain ⟨f', fd', F', G', b', m'⟩ := D base
    rw [hfa] at m'
    cases m'
    obtain ⟨oc', od', kV', doc', pm', an', cdv', ct', osl', e2, l2, _⟩ := F'.ex
    rw [l1] at l2
    cases l2
    exact G'
end Ah

namespace Ah
open PySem PySem.Spec PyProof.Rows L2

/-! ## data whose lists lie apart from ms -/
mutual
inductive Dx (K : PySem.W.Frag) (ms : List Addr) (H : Hp) : V → PyData → Prop
  | non : Dx K ms H .non .none
  | bl (b : Bool) : Dx K ms H (.bl b) (.bool b)
  | int (i : Int) : Dx K ms H (.int i) (.int i)
  | str (x : Str) : Dx K ms H (.str x) (.str x)
  | lst {a : Addr} {xs : List V} {ds : List PyData} : a ∉ ms → H a = some (.lst xs) → Dxs K ms H xs ds → Dx K ms H (.ref a) (.list ds)
  | tup {a : Addr} {xs : List V} {ds : List PyData} : SqT K H a xs → Dxs K ms H xs ds → Dx K ms H (.ref a) (.tuple ds)
inductive Dxs (K : PySem.W.Frag) (ms : List Addr) (H : Hp) : List V → List PyData → Prop
  | nil : Dxs K ms H [] []
  | cons {v : V} {vs : List V} {d : PyData} {ds : List PyData} : Dx K ms H v d → Dxs K ms H vs ds → Dxs K ms H (v :: vs) (d :: ds)
end
section
variable {K : PySem.W.Frag} {ms ns : List Addr} {H H' : Hp}
mutual
theorem Dx.dp : ∀ (d : PyData) {v : V}, Dx K ms H v d → Dp K H v d
  | .none, _, h => by cases h; exact .non
  | .bool b, _, h => by cases h; exact .bl b
  | .int i, _, h => by cases h; exact .int i
  | .str x, _, h => by cases h; exact .str x
  | .list ds, _, h => by
    cases h with
    | lst a b c => exact .lst (SqL.of b) (Dxs.dp ds c)
  | .tuple ds, _, h => by
    cases h with
    | tup b c => exact .tup b (Dxs.dp ds c)
  | .dict _, _, h => by cases h
theorem Dxs.dp : ∀ (ds : List PyData) {vs : List V}, Dxs K ms H vs ds → DpAll K H vs ds
  | [], _, h => by cases h; exact .nil
  | d :: ds, _, h => by
    cases h with
    | cons a b => exact .cons (Dx.dp d a) (Dxs.dp ds b)
end
mutual
theorem Dx.kp (k : Kp ns H H') (sub : ∀ b ∈ ns, b ∈ ms) (n : ∀ m ∈ ns, Loose H m) : ∀ (d : PyData) {v : V}, Dx K ms H v d → Dx K ms H' v d
  | .none, _, h => by cases h; exact .non
  | .bool b, _, h => by cases h; exact .bl b
  | .int i, _, h => by cases h; exact .int i
  | .str x, _, h => by cases h; exact .str x
  | .list ds, _, h => by
    cases h with
    | lst a b c => exact .lst a (k _ _ (fun z => a (sub _ z)) b) (Dxs.kp k sub n ds c)
  | .tuple ds, _, h => by
    cases h with
    | tup b c => exact .tup (SqT.kp k n b) (Dxs.kp k sub n ds c)
  | .dict _, _, h => by cases h
theorem Dxs.kp (k : Kp ns H H') (sub : ∀ b ∈ ns, b ∈ ms) (n : ∀ m ∈ ns, Loose H m) : ∀ (ds : List PyData) {vs : List V}, Dxs K ms H vs ds → Dxs K ms H' vs ds
  | [], _, h => by cases h; exact .nil
  | d :: ds, _, h => by
    cases h with
    | cons a b => exact .cons (Dx.kp k sub n d a) (Dxs.kp k sub n ds b)
end
mutual
/-- a tree is such data -/
theorem Tr.dx : ∀ (t : Tr) {v : V}, Dp K H v t.data → Dx K ms H v t.data
  | .h s, v, h => by
    rw [Tr.data] at h ⊢
    cases h
    exact .str s
  | .n f ps, v, h => by
    rw [Tr.data] at h ⊢
    cases h with
    | tup a b =>
      refine .tup a ?_
      cases b with
      | cons b1 b2 =>
        cases b1
        exact .cons (.str f) (trsDx ps b2)
theorem trsDx : ∀ (ts : List Tr) {vs : List V}, DpAll K H vs (datas ts) → Dxs K ms H vs (datas ts)
  | [], vs, h => by
    rw [datas] at h ⊢
    cases h
    exact .nil
  | t :: r, vs, h => by
    rw [datas] at h ⊢
    cases h with
    | cons a b => exact .cons (Tr.dx t a) (trsDx r b)
end
theorem Dx.new {d : PyData} {v : V} (h : Dx K ms H v d) (k : Kp [] H H') : Dx K ms H' v d := Dx.kp k (fun _ z => by cases z) (fun _ z => by cases z) d h
theorem Dxs.new {ds : List PyData} {vs : List V} (h : Dxs K ms H vs ds) (k : Kp [] H H') : Dxs K ms H' vs ds := Dxs.kp k (fun _ z => by cases z) (fun _ z => by cases z) ds h
theorem Dxs.append : ∀ {vs us : List V} {ds es : List PyData}, Dxs K ms H vs ds → Dxs K ms H us es → Dxs K ms H (vs ++ us) (ds ++ es)
  | _, _, _, _, .nil, s => s
  | _, _, _, _, .cons a r, s => .cons a (Dxs.append r s)
theorem Dxs.length : ∀ {vs : List V} {ds : List PyData}, Dxs K ms H vs ds → vs.length = ds.length
  | _, _, .nil => rfl
  | _, _, .cons _ r => by rw [List.length_cons, List.length_cons, Dxs.length r]
theorem Dxs.take : ∀ {vs : List V} {ds : List PyData} (i : Nat), Dxs K ms H vs ds → Dxs K ms H (vs.take i) (ds.take i)
  | _, _, 0, _ => .nil
  | _, _, _ + 1, .nil => .nil
  | _, _, i + 1, .cons a r => .cons a (Dxs.take i r)
theorem Dxs.drop : ∀ {vs : List V} {ds : List PyData} (i : Nat), Dxs K ms H vs ds → Dxs K ms H (vs.drop i) (ds.drop i)
  | _, _, 0, r => r
  | _, _, _ + 1, .nil => .nil
  | _, _, i + 1, .cons _ r => Dxs.drop i r
theorem Dxs.reverse : ∀ {vs : List V} {ds : List PyData}, Dxs K ms H vs ds → Dxs K ms H vs.reverse ds.reverse
  | _, _, .nil => .nil
  | _, _, .cons a r => by
    rw [List.reverse_cons, List.reverse_cons]
    exact Dxs.append (Dxs.reverse r) (.cons a .nil)
end
/-! ## kinds of data -/
def kindD : PyData → String
  | .none => "NoneType"
  | .bool _ => "bool"
  | .int _ => "int"
  | .str _ => "str"
  | .list _ => "list"
  | .tuple _ => "tuple"
  | .dict _ => "dict"
theorem tyD {K : PySem.W.Frag} {H : Hp} {v : V} {d : PyData} (h : Dp K H v d) : TyB K H v (kindD d) := by
  cases h with
  | non => exact .non
  | bl b => exact .bl b
  | int i => exact .int i
  | str x => exact .str x
  | lst h _ => exact .lst h
  | tup h _ => exact .tup h
/-! ## places of trees -/
def walk : Tr → List PyData → Option Tr
  | t, [] => some t
  | .n _ ps, .int i :: r => if 0 ≤ i then match ps[i.toNat]? with | some u => walk u r | none => none else none
  | _, _ => none
def atD (t : Tr) : PyData → Option Tr
  | .tuple ds => walk t ds
  | _ => none
/-- the value of what is told there -/
def AtV (K : PySem.W.Frag) (H : Hp) (r : V) : Option Tr → Prop
  | some u => Dp K H r u.data
  | none => r = .non
end Ah

namespace Ah
open PySem PySem.Spec PyProof.Rows L2
open Sem (wp)
open AutoSeq1 (wpAny_loadPart')
/-! ## enumerate(a tuple) -/
theorem enumNewT (l : Addr) (items : Array Value) (n : Nat) (dd : Option Addr) (sl : Array (Option Value)) :
    Meets (Builtin.«enumerate.__new__» ⟨[.type "enumerate", .ref l], []⟩) (fun _ R s =>
      s.heap.get? l = some { cls := .type "tuple", dict := dd, data := .seq items n, slots := sl } ∧
      R (.ok (.ret (.ref (s.heap.push { cls := .type "tuple_iterator", data := .fields #[.ref l, .int 0 0] }).objs.size)))
        ({ s with heap := Heap.push (s.heap.push { cls := .type "tuple_iterator", data := .fields #[.ref l, .int 0 0] }) ({ cls := .type "enumerate", data := .fields #[.none, .bool false, .ref s.heap.objs.size, rawInt 0, .none, .none] } : Obj) })) :=
  .of_wp fun prog w A R s h => by
    obtain ⟨g0, g1, g2, g3, g4⟩ := s
    obtain ⟨there, h⟩ := h
    have sub := sub_enumerate
    have tupL : Heap.IsTuple (Shared.heap ⟨g0, g1, g2, g3, g4⟩) l items := ⟨_, there, rfl, n, rfl⟩
    wp_walk using wpAny_loadPart' there
    refine wpAny_stack_any fun st => wpAny_pure ?_
    split
    · rename_i c _ _ _ _ _
      cases (c == Value.type "enumerate") <;>
        (wp_walk using wpAny_loadPart' there, wpAny_pyIter_tuple tupL
         exact ⟨_, rfl, h⟩)
    · wp_walk using wpAny_loadPart' there, wpAny_pyIter_tuple tupL
      exact ⟨_, rfl, h⟩
section
variable {prog : Program} {w : World} {A : Around} {E : Value → Shared → Prop} {s : Shared}
theorem callEnumT {l : Addr} {items : Array Value} {Q : Value → Shared → Prop} (tup : s.heap.IsTuple l items)
    (h : ∀ h', IsEnum h' (s.heap.objs.size + 1) s.heap.objs.size 0 .none → h'.IsTupleIter s.heap.objs.size l 0 → h'.objs.size = s.heap.objs.size + 2 →
      (∀ b o, s.heap.get? b = some o → h'.get? b = some o) → Q (.ref (s.heap.objs.size + 1)) { s with heap := h' }) :
    wpAny (model prog w) A (call (.type "enumerate") [.ref l]) Q E s := by
  obtain ⟨⟨c, dd, dt, sl⟩, there, hc, n, hd⟩ := tup
  simp only at hc hd
  subst hc hd
  have size1 : (s.heap.push { cls := .type "tuple_iterator", data := .fields #[.ref l, .int 0 0] }).objs.size = s.heap.objs.size + 1 := Heap.size_push ..
  have made : IsEnum ((s.heap.push { cls := .type "tuple_iterator", data := .fields #[.ref l, .int 0 0] }).push
      { cls := .type "enumerate", data := .fields #[.none, .bool false, .ref s.heap.objs.size, rawInt 0, .none, .none] }) (s.heap.objs.size + 1) s.heap.objs.size 0 .none := by
    rw [← size1]; exact Heap.get?_push_size _ rfl
  refine callType_new F.called_enumerate (by decide) (F.typeCall_enumerate_1 _) (F.newCall_enumerate_1 _) (fun obj => F.args_object_init_2 obj _) F.entry_enumerate_new
    (enumNewT l items n dd sl) ⟨there, ?_⟩
  show _ ∧ _
  rw [size1]
  exact ⟨⟨_, made, rfl⟩, h _ made ⟨{ cls := .type "tuple_iterator", data := .fields #[.ref l, .int 0 0] }, Heap.get?_push_of_some _ (Heap.get?_push_size _ rfl), rfl, rfl⟩ (by rw [Heap.size_push, size1])
    fun b o x => Heap.get?_push_of_some _ (Heap.get?_push_of_some _ x)⟩
theorem enumNextT {e it l : Addr} {i : Nat} {items : Array Value} {x old : Value} {Q : Value → Shared → Prop}
    (he : IsEnum s.heap e it i old) (hit : s.heap.IsTupleIter it l i) (hl : s.heap.IsTuple l items) (hx : items[i]? = some x) (apart : e ≠ it)
    (fin : ∀ h', IsEnumOut h' e it ((i : Int) + 1) x s.heap.objs.size → h'.IsTupleIter it l (i + 1) →
      h'.get? s.heap.objs.size = some { cls := .type "tuple", data := .seq #[.int i s.toks, x] } → h'.objs.size = s.heap.objs.size + 1 →
      (∀ b o, b ≠ e → b ≠ it → s.heap.get? b = some o → h'.get? b = some o) → Q (.ref s.heap.objs.size) { s with heap := h', toks := s.toks + 1 }) :
    wpAny (model prog w) A (Builtin.«enumerate.__next__» ⟨[.ref e], []⟩) (fun fin s' => ∃ v, fin = .done (.ret v) ∧ Q v s') E s := by
  obtain ⟨p0, g, d, tk, os⟩ := s
  show wpAny _ _ (field (.ref e) 2 >>= _) _ _ _
  refine wpAny_bind (wpAny_field he rfl (x := .ref it) rfl (wpAny_bind (RZ.nextOf_tuple_item hit hl hx fun p1 it1 same1 => ?_)))
  have same1' : Heap.SameBut it p0 p1 := same1
  have e1 : IsEnum p1 e it i old := (same1'.2 e apart).trans he
  show wpAny _ _ (field (.ref e) 3 >>= _) _ _ ⟨p1, g, d, tk, os⟩
  refine wpAny_bind (wpAny_field e1 rfl (x := rawInt i) rfl ?_)
  show wpAny _ _ (field (.ref e) 4 >>= _) _ _ ⟨p1, g, d, tk, os⟩
  refine wpAny_bind (wpAny_field e1 rfl (x := .none) rfl ?_)
  show wpAny _ _ (mkInt i >>= _) _ _ ⟨p1, g, d, tk, os⟩
  refine wpAny_bind (wpAny_mkInt ?_)
  show wpAny _ _ (setField (.ref e) 3 (rawInt ((i : Int) + 1)) >>= _) _ _ ⟨p1, g, d, tk + 1, os⟩
  refine wpAny_bind (wpAny_setField_rec e1 (by simp) fun p2 e2 same2 => ?_)
  have same2' : Heap.SameBut e p1 p2 := same2
  have e2' : IsEnum p2 e it ((i : Int) + 1) old := e2
  show wpAny _ _ (setField (.ref e) 4 .none >>= _) _ _ ⟨p2, g, d, tk + 1, os⟩
  refine wpAny_bind (wpAny_setField_rec e2' (by simp) fun p3 e3 same3 => ?_)
  have same3' : Heap.SameBut e p2 p3 := same3
  have e3' : IsEnum p3 e it ((i : Int) + 1) old := e3
  show wpAny _ _ (newTuple [.int i tk, x] >>= _) _ _ ⟨p3, g, d, tk + 1, os⟩
  refine wpAny_bind (wpAny_newTuple ?_)
  have sz3 : p3.objs.size = p0.objs.size := by rw [same3'.1, same2'.1, same1'.1]
  have big : e < p0.objs.size := Heap.lt_size he
  -- what is known of the heap with the new pair
  obtain ⟨p4, hp4⟩ : ∃ p4, p3.push { cls := .type "tuple", data := .seq #[.int i tk, x] } = p4 := ⟨_, rfl⟩
  have e4 : IsEnum p4 e it ((i : Int) + 1) old := by rw [← hp4]; exact Heap.get?_push_of_some _ e3'
  have t4 : p4.get? p0.objs.size = some { cls := .type "tuple", data := .seq #[.int i tk, x] } := by
    rw [← hp4, ← sz3]; exact Heap.get?_push_size _ rfl
  have z4 : p4.objs.size = p0.objs.size + 1 := by rw [← hp4, Heap.size_push, sz3]
  have it4 : p4.IsTupleIter it l (i + 1) := by
    obtain ⟨o, ho, r⟩ := (it1.extBut same2'.extBut (Ne.symm apart)).extBut same3'.extBut (Ne.symm apart)
    rw [← hp4]
    exact ⟨o, Heap.get?_push_of_some _ ho, r⟩
  have k4 : ∀ b o, b ≠ e → b ≠ it → p0.get? b = some o → p4.get? b = some o := by
    intro b o n1 n2 there
    rw [← hp4]
    exact Heap.get?_push_of_some _ (same3'.extBut b o n1 (same2'.extBut b o n1 (same1'.extBut b o n2 there)))
  rw [hp4, sz3]
  show wpAny _ _ (Builtin.SmallTypes.ownedTupleIsFree (.ref e) >>= _) _ _ ⟨p4, g, d, tk + 1, os⟩
  refine wpAny_bind ?_
  unfold Builtin.SmallTypes.ownedTupleIsFree
  refine wpAny_bind (wpAny_field e4 rfl (x := .none) rfl (wpAny_pure ?_))
  simp only [if_true]
  refine wpAny_bind (wpAny_rule (wpAny_bind (wpAny_field e4 rfl (x := old) rfl (wpAny_bind (wpAny_setField_rec e4 (by simp) fun p5 e5 same5 => ?_)))))
  have same5' : Heap.SameBut e p4 p5 := same5
  have e5' : IsEnum p5 e it ((i : Int) + 1) x := e5
  show wpAny _ _ (Builtin.SmallTypes.ownedTupleHandOut (.ref e) (.ref p0.objs.size) >>= _) _ _ ⟨p5, g, d, tk + 1, os⟩
  refine wpAny_bind ?_
  unfold Builtin.SmallTypes.ownedTupleHandOut
  refine wpAny_bind (wpAny_setField_rec e5' (by simp) fun p6 e6 same6 => ?_)
  have same6' : Heap.SameBut e p5 p6 := same6
  have e6' : IsEnumOut p6 e it ((i : Int) + 1) x p0.objs.size := e6
  refine wpAny_setField_rec e6' (by simp) fun p7 e7 same7 => ?_
  have same7' : Heap.SameBut e p6 p7 := same7
  have e7' : IsEnumOut p7 e it ((i : Int) + 1) x p0.objs.size := e7
  have far : p0.objs.size ≠ e := Nat.ne_of_gt big
  refine wpAny_bind (wpAny_letGo (wpAny_pure ⟨_, rfl, fin p7 e7' ?_ ?_ ?_ ?_⟩))
  · exact ((it4.extBut same5'.extBut (Ne.symm apart)).extBut same6'.extBut (Ne.symm apart)).extBut same7'.extBut (Ne.symm apart)
  · exact same7'.extBut _ _ far (same6'.extBut _ _ far (same5'.extBut _ _ far t4))
  · rw [same7'.1, same6'.1, same5'.1, z4]
  · intro b o n1 n2 there
    exact same7'.extBut b o n1 (same6'.extBut b o n1 (same5'.extBut b o n1 (k4 b o n1 n2 there)))
theorem nextEnumT {e it l : Addr} {i : Nat} {items : Array Value} {x old : Value} {Q : Option Value → Shared → Prop}
    (he : IsEnum s.heap e it i old) (hit : s.heap.IsTupleIter it l i) (hl : s.heap.IsTuple l items) (hx : items[i]? = some x) (apart : e ≠ it)
    (fin : ∀ h', IsEnumOut h' e it ((i : Int) + 1) x s.heap.objs.size → h'.IsTupleIter it l (i + 1) →
      h'.get? s.heap.objs.size = some { cls := .type "tuple", data := .seq #[.int i s.toks, x] } → h'.objs.size = s.heap.objs.size + 1 →
      (∀ b o, b ≠ e → b ≠ it → s.heap.get? b = some o → h'.get? b = some o) → Q (some (.ref s.heap.objs.size)) { s with heap := h', toks := s.toks + 1 }) :
    wpAny (model prog w) A (pyNext (.ref e)) Q E s := by
  have ty : s.TypeIs (.ref e) "enumerate" := ⟨_, he, rfl⟩
  unfold pyNext
  exact wpAny_bind (wpAny_attempt (wpAny_callSpecial?_slot (name := Str.ofString "__next__") ty F.slot_enumerate_next
    (wpAny_call_entry F.slot_enumerate_next ty F.entry_enumerate_next
      (enumNextT he hit hl hx apart fun h' a b c d k => wpAny_pure (fin h' a b c d k)) (F.args_enumerate_next_1 _))))
theorem endEnumT {e it l : Addr} {i : Nat} {items : Array Value} {old : Value} {Q : Option Value → Shared → Prop} (calm : A.handled = none)
    (he : IsEnum s.heap e it i old) (hit : s.heap.IsTupleIter it l i) (hl : s.heap.IsTuple l items) (hx : items[i]? = none)
    (fin : ∀ h', Heap.ExtBut it s.heap h' → Q none { s with heap := h' }) : wpAny (model prog w) A (pyNext (.ref e)) Q E s := by
  have ty : s.TypeIs (.ref e) "enumerate" := ⟨_, he, rfl⟩
  unfold pyNext
  refine wpAny_bind (wpAny_attempt (wpAny_callSpecial?_slot (name := Str.ofString "__next__") ty F.slot_enumerate_next
    (wpAny_call_entry F.slot_enumerate_next ty F.entry_enumerate_next ?_ (F.args_enumerate_next_1 _))))
  show wpAny _ _ (field (.ref e) 2 >>= _) _ _ _
  refine wpAny_bind (wpAny_field he rfl (x := .ref it) rfl (wpAny_bind (RZ.nextOf_tuple_end calm hit hl hx fun h' x kept there => ?_)))
  obtain ⟨o, ho, hc⟩ := there
  exact wpAny_bind (wpAny_isInstance (T := "StopIteration") (b := true) ⟨o, ho, hc⟩ isSubtype_stop (wpAny_pure (fin _ kept)))
end
/-- the tuple at a, each item in a new pair with its number -/
def IteT (K : PySem.W.Frag) (a : Addr) : It :=
  ⟨fun i H => ∃ (xs : List V) (x : V), SqT K H a xs ∧ xs[i]? = some x,
   fun i H v H' => ∃ T x, v = .ref T ∧ H T = none ∧ H' = upd H T (.tup [.int (i : Nat), x]) ∧ ∀ xs, SqT K H a xs → xs[i]? = some x,
   fun i H => ∃ xs : List V, SqT K H a xs ∧ xs.length ≤ i⟩
theorem turnEnumT {P : Program} {w : World} {K : PySem.W.Frag} {elts : List Expr} {kk : Nat} {tpos : Pos} (a e it : Addr) :
    Turn P w K (.Tuple elts kk tpos) (IteT K a) [e, it] e (fun i h => (∃ old, IsEnum h e it ((i : Nat) : Int) old) ∧ h.IsTupleIter it a i ∧ e ≠ it) where
  mem := by simp
  obj := by
    rintro i h ⟨⟨old, he⟩, ⟨o, ho, hc, hd⟩, _⟩ b hb
    rcases (by simpa using hb : b = e ∨ b = it) with rfl | rfl
    · exact ⟨_, he, fun v q => nomatch q⟩
    · exact ⟨o, ho, fun v q => by rw [hd] at q; cases q⟩
  keep := by
    rintro i h h' ⟨⟨old, he⟩, hi, apart⟩ k
    exact ⟨⟨old, k e (by simp) _ he⟩, hi.at fun o q => k it (by simp) o q, apart⟩
  item := by
    rintro X rfl rfl rfl hc i pins s σ H E I hf ⟨⟨old, he⟩, hit, apart⟩ ⟨xs, x, hq, hx⟩
    obtain ⟨its, rv, p, hz⟩ := I.tuple hq
    obtain ⟨u, hu, ru⟩ := rv.get hx
    have le : e < s.heap.objs.size := Heap.lt_size he
    have li : it < s.heap.objs.size := by obtain ⟨_, q, _⟩ := hit; exact Heap.lt_size q
    have two : ∀ {b}, b ∈ [e, it] → b = e ∨ b = it := fun {b} h => by simpa using h
    refine nextEnumT he hit (show s.heap.IsTuple a its.toArray from p) (x := u) (by simpa using hu) apart fun h' ho hit' hT hsz hk => ?_
    refine ⟨_, rfl, wpAny_letOwnedTupleGo_enum (s := { s with heap := h', toks := s.toks + 1 }) ho fun h'' he' sb => ?_⟩
    have hT2 : h''.get? s.heap.objs.size = some { cls := .type "tuple", data := .seq #[.int i s.toks, u] } := (sb.2 _ (Nat.ne_of_gt le)).trans hT
    have new : ObjOk X.prog X.w (upd H s.heap.objs.size (.tup [.int (i : Nat), x])) h'' s.heap.objs.size (.tup [.int (i : Nat), x]) :=
      ⟨by show 2 ≤ sizeLine; decide, [.int i s.toks, u], .cons ⟨_, rfl⟩ (.cons ru .nil), ⟨_, hT2, rfl, _, rfl⟩⟩
    have I1 : Inv X pins σ (upd H s.heap.objs.size (.tup [.int (i : Nat), x])) { s with heap := h'', toks := s.toks + 1 } := by
      refine I.turnedNew (ch := [e, it]) (fun b ob hb q => ?_) hf (Nat.le_refl _) new
      have n1 : b ≠ e := fun z => hb (by simp [z])
      have n2 : b ≠ it := fun z => hb (by simp [z])
      exact (sb.2 b n1).trans (hk b ob n1 n2 q)
    refine ⟨.ref s.heap.objs.size, _, I1, rfl, ⟨_, x, rfl, I.hok.fresh (Nat.le_refl _), rfl, fun ys hy => by rw [I.tuple_inj hy hq]; exact hx⟩,
      ⟨⟨u, ?_⟩, hit'.at fun o q => (sb.2 it (Ne.symm apart)).trans q, apart⟩, fun b hb => ?_⟩
    · rw [show ((i + 1 : Nat) : Int) = (i : Int) + 1 by omega]; exact he'
    · have lb : b < s.heap.objs.size := by rcases two hb with rfl | rfl <;> assumption
      rw [upd_ne (Nat.ne_of_lt lb)]
      exact (hf b hb).1
  done := by
    rintro X rfl rfl rfl hc i pins s σ H E I hf ⟨⟨old, he⟩, hit, apart⟩ ⟨xs, hq, hx⟩
    obtain ⟨its, rv, p, hz⟩ := I.tuple hq
    obtain ⟨f0, f1, f2, f3, f4, f5⟩ := hf it (by simp)
    have hl := rv.length
    exact endEnumT (I.ok.hd hc) he hit (show s.heap.IsTuple a its.toArray from p) (by simp; omega)
      fun h' eb => ⟨rfl, I.turned (t' := s.toks) (fun b o hb q => eb b o hb q) f0 f1 f3 f4 f5⟩
  self := by
    rintro A i s Q E ⟨⟨_, he⟩, _⟩ h
    exact wpAny_pyIter_enum he h
def iEnumT (K : PySem.W.Frag) (ta : TA) : TI := fun σ H R => ta σ H fun vs H1 => ∃ a xs, vs = [.ref a] ∧ SqT K H1 a xs ∧ R (IteT K a) H1
theorem pi_enumT {X : Cx} {e : Expr} {ta : TA} {p pos tpos : Pos} {elts : List Expr} {kk : Nat} (hg : Gl X "enumerate") (hm : X.mg "enumerate" = none) (ha : PA X [e] ta)
    (hs : starEach [e] X.env = [(false, eval e X.env)] := by rfl) :
    PI X (.Tuple elts kk tpos) (.Call (.Name "enumerate" p) [e] [] pos) (iEnumT X.K ta) := by
  constructor
  intro pins s σ H R I h
  refine Call_ (ld_blt I hg hm boot_enumerate (PyProof.Rows.callWith_type1 (thn (ha.run pos pins s σ H _ I h) ?_) hs rfl))
  rintro us s1 ⟨vs, H1, I1, r1, a, xs, rfl, hq, q⟩
  obtain ⟨u, rfl, ru⟩ := vals1 r1
  cases ru
  obtain ⟨its, rv, pt, hz⟩ := I1.tuple hq
  refine callEnumT (show s1.heap.IsTuple a its.toArray from pt) fun h' he hit hsz hk => wpAny_pyIter_enum he ?_
  have I2 : Inv X pins σ H1 { s1 with heap := h' } := I1.kept (t' := s1.toks) hk
  refine ⟨s1.heap.objs.size + 1, [s1.heap.objs.size + 1, s1.heap.objs.size], _, _, H1, rfl, I2, turnEnumT a (s1.heap.objs.size + 1) s1.heap.objs.size,
    ⟨⟨.none, he⟩, hit, Nat.succ_ne_self _⟩, fun b hb => ?_, q⟩
  have le : s1.heap.objs.size ≤ b := by
    rcases (by simpa using hb : b = s1.heap.objs.size + 1 ∨ b = s1.heap.objs.size) with rfl | rfl
    · exact Nat.le_add_right _ _
    · exact Nat.le_refl _
  exact I1.fpOk le (I1.hok.fresh le)
theorem walk_enumT {K : PySem.W.Frag} {a : Addr} {xs : List V} : Walk (IteT K a) xs.length (fun H => SqT K H a xs) (YPair (fun i => some (.int (i : Nat))) (fun i => xs[i]?)) := by
  constructor
  · intro i _ hi q; exact ⟨xs, xs[i], q, by simp [hi]⟩
  · intro _ q; exact ⟨xs, q, Nat.le_refl _⟩
  · rintro i H v H' _ q ⟨T, x, h1, h2, h3, h4⟩
    exact ⟨T, .int (i : Nat), x, h1, h2, h3, rfl, h4 xs q⟩
end Ah

namespace Ah
open PySem PySem.Spec PyProof.Rows L2
open Sem (wp)
section
variable {X : Cx} {e : Expr} {te : TE} {k : Nat} {p1 p2 p3 pos : Pos}
/-- t[::-1], t a tuple -/
def tBackT (K : PySem.W.Frag) (te : TE) : TE := fun σ H Q => te σ H fun x H1 => ∃ a xs, x = .ref a ∧ SqT K H1 a xs ∧
  ∀ p, H1 p = none → Q (.ref p) (upd H1 p (.tup xs.reverse))
theorem adjAll (n : Nat) : ∃ b, Builtin.Slice.sliceAdjust none none (-1) ((n : Nat) : Int) = (((n : Nat) : Int) - 1, b) ∧ Builtin.Slice.slicePlaces (((n : Nat) : Int) - 1) b (-1) = n := by
  refine ⟨-1, ?_, ?_⟩
  · unfold Builtin.Slice.sliceAdjust
    simp
  · unfold Builtin.Slice.slicePlaces
    simp only [show ¬ ((-1 : Int) > 0) by decide, if_false, show -(-1 : Int) = 1 from rfl, Int.ediv_one]
    split <;> omega
theorem pe_backT (he : PE X e te) : PE X (.Subscript e (.Slice none none (some (.UnaryOp .USub (.Constant (.int 1) k p1) p2)) p3) pos) (tBackT X.K te) := by
  constructor
  intro pins s σ H Q I h
  refine Subscript_ (thn (he.run pins s σ H _ I h) fun v s1 z => ?_)
  obtain ⟨x, H1, I1, r1, a, xs, ex, hx, q⟩ := z
  subst ex
  cases r1
  have hst : PO X (some (.UnaryOp .USub (.Constant (.int 1) k p1) p2)) (tPart (tUn (rU fun i => .int (-i)) (tC (.int 1)))) := po_some (pe_un un_neg pe_int)
  refine wpAny_Slice (thn (po_none.run pins s1 σ H1 (fun o H2 => o = none ∧ H2 = H1) I1 ⟨rfl, rfl⟩) ?_)
  rintro vl s2 ⟨l, H2, I2, pl, rfl, rfl⟩
  refine thn (po_none.run pins s2 σ H2 (fun o H3 => o = none ∧ H3 = H2) I2 ⟨rfl, rfl⟩) ?_
  rintro vu s3 ⟨u, H3, I3, pu, rfl, rfl⟩
  refine thn (hst.run pins s3 σ H3 (fun o H4 => o = some (-1) ∧ H4 = H3) I3 ⟨1, rfl, -1, rfl, rfl, rfl⟩) ?_
  rintro vs s4 ⟨o, H4, I4, ps, rfl, rfl⟩
  have I5 : Inv X pins σ H4 { s4 with heap := s4.heap.push { cls := .type "slice", data := .fields #[vl, vu, vs] } } :=
    I4.kept (t' := s4.toks) fun b ob z => Heap.get?_push_of_some _ z
  obtain ⟨its, r, ht, hz⟩ := I5.tuple hx
  have hlen := r.length
  refine tail_any (ops := [.ref a, .ref s4.heap.objs.size]) ht.typeIs (PyProof.Rows.slot_tuple_getitem.lookup) ?_ (by with_unfolding_all rfl)
  refine itemsBack ht (Heap.IsSliceOf.new _ vl vu vs) pl pu ps its.length (by simp) (by simpa using adjAll its.length) ?_ (by rw [List.size_toArray, ← hlen]; exact hz)
  have e1 : (its.toArray.toList.drop (its.toArray.size - its.length)).reverse = its.reverse := by simp
  rw [e1]
  refine ⟨.ref _, _, I5.laid (t' := s4.toks) (o := .tup xs.reverse) (fun b ob z => Heap.get?_push_of_some _ z) (Nat.le_refl _) ?_, rfl, q _ (I5.hok.fresh (Nat.le_refl _))⟩
  exact ⟨by rw [List.length_reverse]; omega, _, (show Vals xs its from r).reverse, IsTup.new _ _⟩
end
/-! ## rules that read the written part, said with it -/
theorem catA {X : Cx} (K : PySem.W.Frag) (h : X.K = K := by rfl) : OpR X (binaryOp .Add) (rCatA K) := h ▸ op_catA
theorem pgTup {X : Cx} (K : PySem.W.Frag) (n : Nat) {es : List Expr} {k : Nat} {pos : Pos} {t : TGs} (hc : X.calm = true) (h : PGs X es t) (hk : X.K = K := by rfl)
    (hn : (assignEach es X.env).length = n := by rfl) (hst : (assignEach es X.env).findIdx? (·.1) = none := by rfl) : PG X (.Tuple es k pos) (gTup K n t) := hk ▸ pg_tup hc h hn hst
/-! ## data without lists stays for ever -/
mutual
def noL : PyData → Bool
  | .none => true
  | .bool _ => true
  | .int _ => true
  | .str _ => true
  | .tuple ds => noLs ds
  | .list _ => false
  | .dict _ => false
def noLs : List PyData → Bool
  | [] => true
  | d :: ds => noL d && noLs ds
end
section
variable {K : PySem.W.Frag} {ms : List Addr} {H H' : Hp}
mutual
theorem Dp.kpF (k : Kp ms H H') (n : ∀ m ∈ ms, Loose H m) : ∀ (d : PyData) {v : V}, noL d = true → Dp K H v d → Dp K H' v d
  | .none, _, _, h => by cases h; exact .non
  | .bool b, _, _, h => by cases h; exact .bl b
  | .int i, _, _, h => by cases h; exact .int i
  | .str x, _, _, h => by cases h; exact .str x
  | .list ds, _, f, h => by rw [noL] at f; cases f
  | .tuple ds, _, f, h => by
    rw [noL] at f
    cases h with
    | tup b c => exact .tup (SqT.kp k n b) (Dps.kpF k n ds f c)
  | .dict _, _, _, h => by cases h
theorem Dps.kpF (k : Kp ms H H') (n : ∀ m ∈ ms, Loose H m) : ∀ (ds : List PyData) {vs : List V}, noLs ds = true → DpAll K H vs ds → DpAll K H' vs ds
  | [], _, _, h => by cases h; exact .nil
  | d :: ds, _, f, h => by
    rw [noLs, Bool.and_eq_true] at f
    cases h with
    | cons a b => exact .cons (Dp.kpF k n d f.1 a) (Dps.kpF k n ds f.2 b)
end
mutual
theorem Dp.dxF : ∀ (d : PyData) {v : V}, noL d = true → Dp K H v d → Dx K ms H v d
  | .none, _, _, h => by cases h; exact .non
  | .bool b, _, _, h => by cases h; exact .bl b
  | .int i, _, _, h => by cases h; exact .int i
  | .str x, _, _, h => by cases h; exact .str x
  | .list ds, _, f, h => by rw [noL] at f; cases f
  | .tuple ds, _, f, h => by
    rw [noL] at f
    cases h with
    | tup b c => exact .tup b (Dps.dxF ds f c)
  | .dict _, _, _, h => by cases h
theorem Dps.dxF : ∀ (ds : List PyData) {vs : List V}, noLs ds = true → DpAll K H vs ds → Dxs K ms H vs ds
  | [], _, _, h => by cases h; exact .nil
  | d :: ds, _, f, h => by
    rw [noLs, Bool.and_eq_true] at f
    cases h with
    | cons a b => exact .cons (Dp.dxF d f.1 a) (Dps.dxF ds f.2 b)
end
end
mutual
theorem Tr.noL : ∀ t : Tr, noL t.data = true
  | .h s => by rw [Tr.data, Ah.noL]
  | .n f ps => by rw [Tr.data, Ah.noL, noLs, Ah.noL, trsNoL ps]; rfl
theorem trsNoL : ∀ ts : List Tr, noLs (datas ts) = true
  | [] => by rw [datas, noLs]
  | t :: r => by rw [datas, noLs, Tr.noL t, trsNoL r]; rfl
end
theorem noLs_append : ∀ a b : List PyData, noLs (a ++ b) = (noLs a && noLs b)
  | [], b => by rw [List.nil_append, noLs]; rfl
  | d :: r, b => by rw [List.cons_append, noLs, noLs, noLs_append r b, Bool.and_assoc]
theorem noLs_all {ds : List PyData} (h : ∀ d ∈ ds, noL d = true) : noLs ds = true := by
  induction ds with
  | nil => rw [noLs]
  | cons d r ih => rw [noLs, h d (List.mem_cons_self ..), ih fun e he => h e (List.mem_cons_of_mem _ he)]; rfl
/-! ## the places of a tree, as they come -/
mutual
def Tr.spots : Tr → List (List Nat × Tr)
  | .h s => [([], .h s)]
  | .n f ps => ([], .n f ps) :: spotsL 0 ps
def spotsL : Nat → List Tr → List (List Nat × Tr)
  | _, [] => []
  | k, t :: r => t.spots.map (fun q => (k :: q.1, q.2)) ++ spotsL (k + 1) r
end
def spD (s : List Nat) : PyData := .tuple (s.map fun i => .int ((i : Nat) : Int))
def pairD (q : List Nat × Tr) : PyData := .tuple [spD q.1, q.2.data]
theorem spD_noL (s : List Nat) : noL (spD s) = true := by
  rw [spD, noL]
  exact noLs_all fun d hd => by obtain ⟨i, _, rfl⟩ := List.mem_map.mp hd; rw [noL]
theorem pairD_noL (q : List Nat × Tr) : noL (pairD q) = true := by
  rw [pairD, noL, noLs, noLs, noLs, spD_noL, Tr.noL]; rfl
theorem spotsL_append : ∀ (k : Nat) (a b : List Tr), spotsL k (a ++ b) = spotsL k a ++ spotsL (k + a.length) b
  | k, [], b => by rw [List.nil_append, spotsL, List.nil_append, List.length_nil, Nat.add_zero]
  | k, t :: r, b => by
    rw [List.cons_append, spotsL, spotsL, spotsL_append (k + 1) r b, List.append_assoc, List.length_cons]
    rw [show k + 1 + r.length = k + (r.length + 1) by omega]
mutual
theorem Tr.spots_len : ∀ t : Tr, t.spots.length = t.size
  | .h s => by rw [Tr.spots, size_h]; rfl
  | .n f ps => by rw [Tr.spots, size_n, List.length_cons, spotsL_len 0 ps]
theorem spotsL_len : ∀ (k : Nat) (ts : List Tr), (spotsL k ts).length = sizes ts
  | _, [] => by rw [spotsL, sizes_nil]; rfl
  | k, t :: r => by rw [spotsL, List.length_append, List.length_map, Tr.spots_len t, spotsL_len (k + 1) r, sizes_cons]
end
mutual
theorem Tr.deep_size : ∀ t : Tr, t.deep ≤ t.size
  | .h s => Nat.zero_le _
  | .n f ps => by
    rw [size_n]
    have := deeps_size ps
    show deeps ps + 1 ≤ _
    omega
theorem deeps_size : ∀ ps : List Tr, deeps ps ≤ sizes ps
  | [] => Nat.le_refl _
  | t :: r => by
    rw [sizes_cons]
    have := Tr.deep_size t
    have := deeps_size r
    show max t.deep (deeps r) ≤ _
    omega
end
mutual
theorem Tr.spots_deep : ∀ t : Tr, ∀ q ∈ t.spots, q.1.length ≤ t.deep
  | .h s, q, h => by rw [Tr.spots] at h; rw [List.mem_singleton.mp h]; exact Nat.zero_le _
  | .n f ps, q, h => by
    rw [Tr.spots] at h
    rcases List.mem_cons.mp h with rfl | h
    · exact Nat.zero_le _
    · exact spotsL_deep 0 ps q h
theorem spotsL_deep : ∀ (k : Nat) (ts : List Tr), ∀ q ∈ spotsL k ts, q.1.length ≤ deeps ts + 1
  | _, [], q, h => by rw [spotsL] at h; cases h
  | k, t :: r, q, h => by
    rw [spotsL] at h
    show _ ≤ max t.deep (deeps r) + 1
    rcases List.mem_append.mp h with h | h
    · obtain ⟨q', h', rfl⟩ := List.mem_map.mp h
      have := Tr.spots_deep t q' h'
      show (k :: q'.1).length ≤ _
      rw [List.length_cons]; omega
    · have := spotsL_deep (k + 1) r q h
      omega
end
end Ah

namespace Ah
open PySem PySem.Spec PyProof.Rows L2
/-! ## t[lo:hi] and t + u, whatever comes -/
def rSlU (K : PySem.W.Frag) : V → Option Int → Option Int → Hp → VK → Prop := fun x lo hi H Q => ∃ a xs, x = .ref a ∧ SqT K H a xs ∧
  ∀ r H', Kp [] H H' → SqT K H' r (cutV xs lo hi) → Q (.ref r) H'
def rCatU (K : PySem.W.Frag) : R2 := fun x y H Q => ∃ a b xs ys, x = .ref a ∧ y = .ref b ∧ SqT K H a xs ∧ SqT K H b ys ∧ xs.length + ys.length ≤ sizeLine ∧
  ∀ r H', Kp [] H H' → SqT K H' r (xs ++ ys) → Q (.ref r) H'
section
variable {X : Cx}
theorem sl_tupU : SlR X (rSlU X.K) := by
  intro pins s σ H x v vl vu lo hi sl Q I rx hs pl pu h
  obtain ⟨a, xs, rfl, hx, q⟩ := h
  refine sl_tupA pins s σ H _ v vl vu lo hi sl Q I rx hs pl pu ⟨a, xs, rfl, hx, fun hw => q a H (Kp.refl _ _) ?_, fun _ p hp => q p _ (Kp.new hp) (SqT.of upd_same)⟩
  have e : cutV xs lo hi = xs := by
    unfold cutV
    rw [hw.1, hw.2]; simp
  rw [e]; exact hx
theorem op_catU : OpR X (binaryOp .Add) (rCatU X.K) := by
  intro pins s σ H x y v u Q I rx ry h
  obtain ⟨a, b, xs, ys, rfl, rfl, ha, hb, hz, q⟩ := h
  refine op_catA pins s σ H _ _ v u Q I rx ry ⟨a, b, xs, ys, rfl, rfl, ha, hb, hz, fun e => q b H (Kp.refl _ _) ?_, fun _ e => q a H (Kp.refl _ _) ?_, fun _ _ p hp => q p _ (Kp.new hp) (SqT.of upd_same)⟩
  · rw [e]; exact hb
  · rw [e, List.append_nil]; exact ha
end
/-! ## data that may be shown, with somewhat longer numbers -/
structure Fi (k b : Nat) (d : PyData) : Prop where
  dep : d.depth ≤ k
  sho : d.showable = true
  lea : d.leavesShort 30 = true
  blk : d.bulk ≤ b
structure Fis (k b : Nat) (ds : List PyData) : Prop where
  dep : PyData.depthAll ds ≤ k
  sho : PyData.showableAll ds = true
  lea : PyData.leavesShortAll 30 ds = true
  blk : PyData.bulkAll ds ≤ b
theorem Fi.str {z : Str} (h : Sm z) (k : Nat) : Fi k z.length (.str z) := by
  refine ⟨by simp [PyData.depth], by simp [PyData.showable], ?_, by simp [PyData.bulk, Str.length]⟩
  simp only [PyData.leavesShort, List.all_eq_true]
  intro c hc
  have := h.2 c hc
  exact decide_eq_true (by omega)
theorem Fi.int {i : Int} (h : i.natAbs < 10 ^ 12) (k : Nat) : Fi k 0 (.int i) := by
  refine ⟨by simp [PyData.depth], ?_, ?_, by simp [PyData.bulk]⟩
  · simp only [PyData.showable]
    exact decide_eq_true (log2_small (Nat.lt_of_lt_of_le h (Nat.le_trans (by decide : 10 ^ 12 ≤ 2 ^ 64) (Nat.pow_le_pow_right (by decide) (by decide)))))
  · simp only [PyData.leavesShort]
    exact decide_eq_true (Nat.le_trans (PyData.shown_int_le h) (by decide))
theorem Fi.e20 (k : Nat) : Fi k 0 (.int (10 ^ 20)) := by
  refine ⟨by simp [PyData.depth], ?_, ?_, by simp [PyData.bulk]⟩
  · simp only [PyData.showable]
    exact decide_eq_true (log2_small (Nat.lt_of_lt_of_le (by decide : (10 ^ 20 : Int).natAbs < 2 ^ 100) (Nat.pow_le_pow_right (by decide) (by decide))))
  · decide +kernel
theorem Fi.bool (b : Bool) (k : Nat) : Fi k 0 (.bool b) := ⟨by simp [PyData.depth], by simp [PyData.showable], by simp [PyData.leavesShort], by simp [PyData.bulk]⟩
theorem Fi.none (k : Nat) : Fi k 0 .none := ⟨by simp [PyData.depth], by simp [PyData.showable], by simp [PyData.leavesShort], by simp [PyData.bulk]⟩
theorem Fis.nil (k b : Nat) : Fis k b [] := ⟨by simp [PyData.depthAll], by simp [PyData.showableAll], by simp [PyData.leavesShortAll], by simp [PyData.bulkAll]⟩
theorem Fis.cons {k b c : Nat} {d : PyData} {ds : List PyData} (h : Fi k b d) (r : Fis k c ds) : Fis k (b + 1 + c) (d :: ds) := by
  refine ⟨?_, ?_, ?_, ?_⟩
  · simp only [PyData.depthAll]; have := h.dep; have := r.dep; omega
  · simp only [PyData.showableAll, h.sho, r.sho]; rfl
  · simp only [PyData.leavesShortAll, h.lea, r.lea]; rfl
  · simp only [PyData.bulkAll]; have := h.blk; have := r.blk; omega
theorem Fis.list {k b : Nat} {ds : List PyData} (r : Fis k b ds) : Fi (k + 1) b (.list ds) := by
  refine ⟨?_, ?_, ?_, ?_⟩
  · simp only [PyData.depth]; have := r.dep; omega
  · simp only [PyData.showable, r.sho]
  · simp only [PyData.leavesShort, r.lea]
  · simp only [PyData.bulk]; exact r.blk
theorem Fis.tuple {k b : Nat} {ds : List PyData} (r : Fis k b ds) : Fi (k + 1) b (.tuple ds) := by
  refine ⟨?_, ?_, ?_, ?_⟩
  · simp only [PyData.depth]; have := r.dep; omega
  · simp only [PyData.showable, r.sho]
  · simp only [PyData.leavesShort, r.lea]
  · simp only [PyData.bulk]; exact r.blk
theorem Fi.up {k b k' b' : Nat} {d : PyData} (h : Fi k b d) (hk : k ≤ k') (hb : b ≤ b') : Fi k' b' d :=
  ⟨Nat.le_trans h.dep hk, h.sho, h.lea, Nat.le_trans h.blk hb⟩
theorem Fis.up {k b k' b' : Nat} {d : List PyData} (h : Fis k b d) (hk : k ≤ k') (hb : b ≤ b') : Fis k' b' d :=
  ⟨Nat.le_trans h.dep hk, h.sho, h.lea, Nat.le_trans h.blk hb⟩
theorem fisAll {k b : Nat} {ds : List PyData} (h : ∀ d ∈ ds, Fi k b d) : Fis k ((b + 1) * ds.length) ds := by
  induction ds with
  | nil => exact Fis.nil _ _
  | cons d r ih =>
    refine (Fis.cons (h d (by simp)) (ih fun e he => h e (by simp [he]))).up (Nat.le_refl _) ?_
    rw [List.length_cons, Nat.mul_add, Nat.mul_one]; omega
theorem Fi.fits {k b : Nat} {d : PyData} (h : Fi k b d) (hb : b ≤ 100000) : d.shown.length ≤ sizeLine := by
  have := PyData.shown_le_bulk 30 (by decide) d h.lea
  have := h.blk
  rw [sizeLine_eq]
  omega
theorem showFi {k b : Nat} {d : PyData} (f : Fi k b d) (hk : k ≤ 60) (hb : b ≤ 100000) : d.showable = true ∧ d.depth ≤ 60 ∧ d.shown.length ≤ sizeLine :=
  ⟨f.sho, Nat.le_trans f.dep hk, f.fits hb⟩
/-! ## data that lies apart from all that was there -/
section
variable {K : PySem.W.Frag} {ms ns : List Addr} {H0 H H' : Hp}
mutual
theorem Dx.weak (sub : ∀ b ∈ ns, b ∈ ms) : ∀ (d : PyData) {v : V}, Dx K ms H v d → Dx K ns H v d
  | .none, _, h => by cases h; exact .non
  | .bool b, _, h => by cases h; exact .bl b
  | .int i, _, h => by cases h; exact .int i
  | .str x, _, h => by cases h; exact .str x
  | .list ds, _, h => by
    cases h with
    | lst a b c => exact .lst (fun z => a (sub _ z)) b (Dxs.weak sub ds c)
  | .tuple ds, _, h => by
    cases h with
    | tup b c => exact .tup b (Dxs.weak sub ds c)
  | .dict _, _, h => by cases h
theorem Dxs.weak (sub : ∀ b ∈ ns, b ∈ ms) : ∀ (ds : List PyData) {vs : List V}, Dxs K ms H vs ds → Dxs K ns H vs ds
  | [], _, h => by cases h; exact .nil
  | d :: ds, _, h => by
    cases h with
    | cons a b => exact .cons (Dx.weak sub d a) (Dxs.weak sub ds b)
end
/-- data whose lists are new since H0 -/
def Apart (K : PySem.W.Frag) (H0 H : Hp) (v : V) (d : PyData) : Prop := ∀ ms, (∀ m ∈ ms, H0 m ≠ none) → Dx K ms H v d
def Aparts (K : PySem.W.Frag) (H0 H : Hp) (vs : List V) (ds : List PyData) : Prop := ∀ ms, (∀ m ∈ ms, H0 m ≠ none) → Dxs K ms H vs ds
theorem Apart.new {v : V} {d : PyData} (h : Apart K H0 H v d) (k : Kp [] H H') : Apart K H0 H' v d := fun ms n => (h ms n).new k
theorem Apart.kp {v : V} {d : PyData} {a : Addr} (h : Apart K H0 H v d) (k : Kp [a] H H') (n0 : H0 a ≠ none) (n : Loose H a) : Apart K H0 H' v d := fun ms nm =>
  Dx.weak (ms := a :: ms) (fun b hb => List.mem_cons_of_mem _ hb) d
    (Dx.kp k (fun b hb => by rw [List.mem_singleton.mp hb]; simp) (fun m hm => by rw [List.mem_singleton.mp hm]; exact n) d
      (h (a :: ms) fun m hm => by rcases List.mem_cons.mp hm with rfl | hm <;> first | exact n0 | exact nm m hm))
theorem Apart.flat {v : V} {d : PyData} (h : Dp K H v d) (f : noL d = true) : Apart K H0 H v d := fun _ _ => Dp.dxF d f h
theorem Aparts.new {v : List V} {d : List PyData} (h : Aparts K H0 H v d) (k : Kp [] H H') : Aparts K H0 H' v d := fun ms n => (h ms n).new k
theorem Aparts.nil : Aparts K H0 H [] [] := fun _ _ => .nil
theorem Aparts.cons {v : V} {vs : List V} {d : PyData} {ds : List PyData} (h : Apart K H0 H v d) (r : Aparts K H0 H vs ds) : Aparts K H0 H (v :: vs) (d :: ds) := fun ms n => .cons (h ms n) (r ms n)
theorem Aparts.append {vs us : List V} {ds es : List PyData} (h : Aparts K H0 H vs ds) (r : Aparts K H0 H us es) : Aparts K H0 H (vs ++ us) (ds ++ es) := fun ms n => (h ms n).append (r ms n)
theorem Aparts.cut {vs : List V} {ds : List PyData} (h : Aparts K H0 H vs ds) (i j : Nat) : Aparts K H0 H ((vs.drop i).take j) ((ds.drop i).take j) := fun ms n => ((h ms n).drop i).take j
theorem Aparts.reverse {vs : List V} {ds : List PyData} (h : Aparts K H0 H vs ds) : Aparts K H0 H vs.reverse ds.reverse := fun ms n => (h ms n).reverse
theorem Aparts.tup {a : Addr} {vs : List V} {ds : List PyData} (h : Aparts K H0 H vs ds) (t : SqT K H a vs) : Apart K H0 H (.ref a) (.tuple ds) := fun ms n => .tup t (h ms n)
theorem Aparts.lst {a : Addr} {vs : List V} {ds : List PyData} (h : Aparts K H0 H vs ds) (t : H a = some (.lst vs)) (n0 : H0 a = none) : Apart K H0 H (.ref a) (.list ds) := fun ms n =>
  .lst (fun hm => n a hm n0) t (h ms n)
theorem Apart.old {v : V} {d : PyData} {H1 : Hp} (h : Apart K H1 H v d) (k : ∀ b, H0 b ≠ none → H1 b ≠ none) : Apart K H0 H v d := fun ms n => h ms fun m hm => k m (n m hm)
end
theorem Kp.some {H H' : Hp} (k : Kp [] H H') : ∀ b, H b ≠ none → H' b ≠ none := by
  intro b h z
  cases q : H b with
  | none => exact h q
  | some o => rw [k b o (fun z => by cases z) q] at z; cases z
theorem spotV {K : PySem.W.Frag} {H : Hp} : ∀ {s : List Nat} {ss : List V}, DpAll K H ss (s.map fun i => PyData.int ((i : Nat) : Int)) → ss = s.map fun i => V.int ((i : Nat) : Int)
  | [], _, h => by cases h; rfl
  | i :: r, _, h => by
    cases h with
    | cons a b => cases a; rw [spotV b]; rfl
theorem spotA {K : PySem.W.Frag} {H0 H : Hp} : ∀ s : List Nat, Aparts K H0 H (s.map fun i => V.int ((i : Nat) : Int)) (s.map fun i => PyData.int ((i : Nat) : Int))
  | [] => .nil
  | i :: r => .cons (fun _ _ => .int _) (spotA r)
end Ah

namespace Ah
open PySem PySem.Spec PyProof.Rows L2
open PySem.Builtin.Str (reprChar)
/-! ## repr of data, or of an empty dict -/
def rReprE (K : PySem.W.Frag) : List V → Hp → VK → Prop := fun xs H Q => rRepr K xs H Q ∨ ∃ p, xs = [.ref p] ∧ H p = some (.dK []) ∧ Q (.str "{}") H
theorem call_reprE {X : Cx} (hg : X.A.guards = some []) (hu : X.A.units + 64 < cLine) : CallR X (.builtin "repr") (rReprE X.K) := by
  intro pins s σ H xs us Q I r h
  rcases h with h | ⟨p, rfl, hp, q⟩
  · exact call_reprD hg hu pins s σ H xs us Q I r h
  · obtain ⟨u, rfl, rx⟩ := vals1 r
    obtain rfl : u = Value.ref p := rx
    obtain ⟨_, lo, vs, kv, o, es, ep, ho, hx, hd, _, hp2, _⟩ := dk_of I.hok hp
    cases kv
    have e0 : es.toList = [] := List.length_eq_zero_iff.mp hp2.length
    have rd : Reads s.heap (.ref p) (.dict []) [p] := .dict (as := []) (bs := []) ho hx.1 hd (by rw [e0]; exact .nil) (by rw [e0]; exact .nil)
    refine repr_of_reads' rd (by decide) (fun _ z => ?_) hg (by simp [PyData.depth, PyData.depthKv]; omega) (fun _ _ e => e)
      (fun h' u tk hk => ⟨.str _, H, I.kept (t' := tk) hk, ⟨_, rfl⟩, q⟩) (by decide +kernel)
    rw [List.mem_singleton.mp z, beq_self_eq_true] at lo
    cases lo
/-! ## texts of tuples of numbers: of one such tuple alone -/
theorem foldPre (q : Nat) : ∀ (l : List Nat) (acc : Array Nat), ∃ r, (l.foldl (fun out c => out ++ (reprChar q c).toArray) acc).toList = acc.toList ++ r
  | [], acc => ⟨[], by simp⟩
  | c :: l, acc => by
    obtain ⟨r, e⟩ := foldPre q l (acc ++ (reprChar q c).toArray)
    refine ⟨reprChar q c ++ r, ?_⟩
    rw [List.foldl_cons, e]
    simp
theorem quoteHead (x : Str) : ∃ r, TL.tl (reprText x) = reprQuote x :: r := by
  obtain ⟨r, e⟩ := foldPre (reprQuote x) x.cps.toList #[reprQuote x]
  refine ⟨r ++ [reprQuote x], ?_⟩
  show ((x.cps.foldl (fun out c => out ++ (reprChar (reprQuote x) c).toArray) #[reprQuote x]).push (reprQuote x)).toList = _
  rw [Array.toList_push, ← Array.foldl_toList, e]
  rfl
theorem quoteIs (x : Str) : reprQuote x = 39 ∨ reprQuote x = 34 := by
  unfold reprQuote
  split <;> first | exact .inl rfl | exact .inr rfl
def allow (c : Nat) : Prop := c = 32 ∨ c = 44 ∨ (48 ≤ c ∧ c ≤ 57)
theorem tl_listText (ts : List Str) : ∃ r, TL.tl (listText ts) = 91 :: r := by
  rw [listText_eq_join, TL.tl_append, TL.tl_append]
  exact ⟨_, rfl⟩
theorem tl_dictText (ts : List Str) : ∃ r, TL.tl (dictText ts) = 123 :: r := by
  unfold dictText
  rw [TL.tl_append, TL.tl_append]
  exact ⟨_, rfl⟩
theorem tl_tupleText (ts : List Str) : TL.tl (tupleText ts) = 40 :: (TL.joinL [44, 32] (ts.map TL.tl) ++ (if ts.length = 1 then [44, 41] else [41])) := by
  unfold tupleText
  rw [TL.tl_append, TL.tl_append, TL.tl_join]
  have e : TL.tl (Str.ofString ", ") = [44, 32] := rfl
  rw [e]
  by_cases h : ts.length = 1
  · rw [if_pos h, if_pos (by simpa using h)]; rfl
  · rw [if_neg h, if_neg (by simpa using h)]; rfl
theorem shown_head (e : PyData) : ∃ c r, TL.tl e.shown = c :: r ∧ ((∃ ds, e = .tuple ds) ∨ (∃ n : Nat, e = .int (n : Int) ∧ 48 ≤ c ∧ c ≤ 57) ∨ (c ≠ 40 ∧ ¬ allow c)) := by
  cases e with
  | none => exact ⟨78, [111, 110, 101], by rw [PyData.shown]; rfl, .inr (.inr (by unfold allow; omega))⟩
  | bool b =>
    cases b
    · exact ⟨70, [97, 108, 115, 101], by rw [PyData.shown]; rfl, .inr (.inr (by unfold allow; omega))⟩
    · exact ⟨84, [114, 117, 101], by rw [PyData.shown]; rfl, .inr (.inr (by unfold allow; omega))⟩
  | int i =>
    cases i with
    | ofNat n =>
      have d := TL.numL_digits n
      have ne := TL.numL_ne n
      have e : TL.tl (PyData.int (Int.ofNat n)).shown = TL.numL n := by rw [PyData.shown]; exact TL.tl_num n
      rw [e]
      cases q : TL.numL n with
      | nil => exact (ne q).elim
      | cons c r =>
        have := d c (by rw [q]; simp)
        exact ⟨c, r, rfl, .inr (.inl ⟨n, rfl, this⟩)⟩
    | negSucc m =>
      refine ⟨45, (Nat.repr (m + 1)).toList.map Char.toNat, ?_, .inr (.inr (by unfold allow; omega))⟩
      rw [PyData.shown]
      show TL.tl (Str.ofString ("-" ++ Nat.repr (m + 1))) = _
      rw [TL.tl_ofString, String.toList_append, List.map_append]
      rfl
  | str x =>
    obtain ⟨r, e⟩ := quoteHead x
    refine ⟨_, r, by rw [PyData.shown]; exact e, .inr (.inr ?_)⟩
    rcases quoteIs x with h | h <;> rw [h] <;> (unfold allow; omega)
  | list ds =>
    obtain ⟨r, e⟩ := tl_listText (PyData.shownAll ds)
    exact ⟨91, r, by rw [PyData.shown]; exact e, .inr (.inr (by unfold allow; omega))⟩
  | tuple ds => exact ⟨40, _, by rw [PyData.shown]; exact tl_tupleText _, .inl ⟨ds, rfl⟩⟩
  | dict kvs =>
    obtain ⟨r, e⟩ := tl_dictText (PyData.shownKv kvs)
    exact ⟨123, r, by rw [PyData.shown]; exact e, .inr (.inr (by unfold allow; omega))⟩
theorem shownAll_map : ∀ ds : List PyData, PyData.shownAll ds = ds.map PyData.shown
  | [] => by rw [PyData.shownAll]; rfl
  | d :: r => by rw [PyData.shownAll, shownAll_map r]; rfl
theorem mem_joinL {S : List Nat} {c : Nat} : ∀ {parts : List (List Nat)}, (∃ p ∈ parts, c ∈ p) → c ∈ TL.joinL S parts
  | [], h => by obtain ⟨p, hp, _⟩ := h; cases hp
  | [p], h => by
    obtain ⟨p', hp, hc⟩ := h
    rw [List.mem_singleton.mp hp] at hc
    exact hc
  | p :: q :: r, h => by
    obtain ⟨p', hp, hc⟩ := h
    show c ∈ p ++ (S ++ TL.joinL S (q :: r))
    rcases List.mem_cons.mp hp with rfl | hp
    · exact List.mem_append_left _ hc
    · exact List.mem_append_right _ (List.mem_append_right _ (mem_joinL ⟨p', hp, hc⟩))
theorem joinL_mem {S : List Nat} {c : Nat} : ∀ {parts : List (List Nat)}, c ∈ TL.joinL S parts → (∃ p ∈ parts, c ∈ p) ∨ c ∈ S
  | [], h => by cases h
  | [p], h => .inl ⟨p, by simp, h⟩
  | p :: q :: r, h => by
    have h' : c ∈ p ++ (S ++ TL.joinL S (q :: r)) := h
    rcases List.mem_append.mp h' with h | h
    · exact .inl ⟨p, by simp, h⟩
    · rcases List.mem_append.mp h with h | h
      · exact .inr h
      · rcases joinL_mem h with ⟨p', hp, hc⟩ | h
        · exact .inl ⟨p', List.mem_cons_of_mem _ hp, hc⟩
        · exact .inr h
/-- between the brackets -/
def inner (s : List Nat) : List Nat := TL.joinL [44, 32] (s.map TL.numL) ++ (if s.length = 1 then [44] else [])
theorem tl_spot (s : List Nat) : TL.tl (spD s).shown = 40 :: (inner s ++ [41]) := by
  rw [spD, PyData.shown, tl_tupleText, shownAll_map, List.map_map, List.map_map, List.length_map, List.length_map]
  unfold inner
  have e : (s.map ((TL.tl ∘ PyData.shown) ∘ fun i => PyData.int ((i : Nat) : Int))) = s.map TL.numL := by
    apply List.map_congr_left
    intro n _
    show TL.tl (PyData.int ((n : Nat) : Int)).shown = _
    rw [PyData.shown]; exact TL.tl_num n
  rw [e, List.append_assoc]
  by_cases h : s.length = 1
  · rw [if_pos h, if_pos h]; rfl
  · rw [if_neg h, if_neg h]; rfl
theorem numAllow {s : List Nat} {c : Nat} (h : c ∈ inner s) : allow c := by
  unfold inner at h
  rcases List.mem_append.mp h with h | h
  · rcases joinL_mem h with ⟨p, hp, hc⟩ | h
    · obtain ⟨n, _, rfl⟩ := List.mem_map.mp hp
      exact .inr (.inr (TL.numL_digits n c hc))
    · simp at h
      rcases h with rfl | rfl
      · exact .inr (.inl rfl)
      · exact .inl rfl
  · split at h
    · rw [List.mem_singleton.mp h]; exact .inr (.inl rfl)
    · cases h
theorem map_numL_inj : ∀ {s s' : List Nat}, s.map TL.numL = s'.map TL.numL → s = s'
  | [], [], _ => rfl
  | [], _ :: _, h => by cases h
  | _ :: _, [], h => by cases h
  | a :: r, b :: r', h => by
    rw [List.map_cons, List.map_cons, List.cons.injEq] at h
    rw [TL.numL_inj h.1, map_numL_inj h.2]
theorem no32 (n : Nat) : 32 ∉ inner [n] := by
  intro h
  rcases List.mem_append.mp h with h | h
  · exact TL.numL_free (.inl (by decide)) h
  · rw [if_pos (by rfl)] at h; simp at h
theorem has32 (a b : Nat) (r : List Nat) : 32 ∈ inner (a :: b :: r) :=
  List.mem_append_left _ (List.mem_append_right _ (List.mem_append_left _ (by simp)))
theorem innerNe (a : Nat) (r : List Nat) : inner (a :: r) ≠ [] := by
  intro h
  have ne := TL.numL_ne a
  cases q : TL.numL a with
  | nil => exact ne q
  | cons c t =>
    have : c ∈ inner (a :: r) := List.mem_append_left _ (mem_joinL ⟨TL.numL a, by simp, by rw [q]; simp⟩)
    rw [h] at this; cases this
theorem inner_inj : ∀ {s s' : List Nat}, inner s = inner s' → s = s'
  | [], [], _ => rfl
  | [], a :: r, h => (innerNe a r (h.symm.trans rfl)).elim
  | a :: r, [], h => (innerNe a r (h.trans rfl)).elim
  | [n], [m], h => by
    have h' : TL.numL n ++ [44] = TL.numL m ++ [44] := h
    rw [TL.numL_inj (List.append_cancel_right h')]
  | [n], a :: b :: r, h => (no32 n (h ▸ has32 a b r)).elim
  | a :: b :: r, [n], h => (no32 n (h ▸ has32 a b r)).elim
  | a :: b :: r, c :: d :: t, h => by
    have two : ∀ (a b : Nat) (r : List Nat), inner (a :: b :: r) = TL.joinL [44, 32] ((a :: b :: r).map TL.numL) := fun a b r => by
      unfold inner
      rw [if_neg (by simp), List.append_nil]
    rw [two, two] at h
    have free : ∀ s : List Nat, ∀ p ∈ s.map TL.numL, 44 ∉ p := fun s p hp => by
      obtain ⟨n, _, rfl⟩ := List.mem_map.mp hp
      exact TL.numL_free (.inl (by decide))
    have e1 := TL.spl_join (S := [32]) (parts := (a :: b :: r).map TL.numL) (by simp) (free _)
    have e2 := TL.spl_join (S := [32]) (parts := (c :: d :: t).map TL.numL) (by simp) (free _)
    rw [h, e2] at e1
    exact (map_numL_inj e1).symm
theorem allNums : ∀ ds : List PyData, (∀ e ∈ ds, ∃ n : Nat, e = .int (n : Int)) → ∃ s : List Nat, ds = s.map fun i => PyData.int ((i : Nat) : Int)
  | [], _ => ⟨[], rfl⟩
  | d :: r, h => by
    obtain ⟨n, rfl⟩ := h d (by simp)
    obtain ⟨s, rfl⟩ := allNums r fun e he => h e (by simp [he])
    exact ⟨n :: s, rfl⟩
theorem spot_inj {s : List Nat} {d : PyData} (h : (spD s).shown = d.shown) : d = spD s := by
  have t := congrArg TL.tl h
  rw [tl_spot] at t
  obtain ⟨c, r, e, k⟩ := shown_head d
  rw [e, List.cons.injEq] at t
  obtain ⟨rfl, t⟩ := t
  rcases k with ⟨ds, rfl⟩ | ⟨n, _, h1, h2⟩ | ⟨h1, _⟩
  · rw [PyData.shown, tl_tupleText, List.cons.injEq] at e
    have e2 := t.trans e.2.symm
    have e3 : inner s = TL.joinL [44, 32] ((PyData.shownAll ds).map TL.tl) ++ (if (PyData.shownAll ds).length = 1 then [44] else []) := by
      refine List.append_cancel_right (bs := [41]) ?_
      rw [e2, List.append_assoc]
      by_cases h : (PyData.shownAll ds).length = 1
      · rw [if_pos h, if_pos h]; rfl
      · rw [if_neg h, if_neg h]; rfl
    have nums : ∀ e ∈ ds, ∃ n : Nat, e = .int (n : Int) := by
      intro x hx
      obtain ⟨c, r, q, k⟩ := shown_head x
      have hc : ∀ c ∈ TL.tl x.shown, allow c := by
        intro c hc
        refine numAllow (s := s) ?_
        rw [e3]
        refine List.mem_append_left _ (mem_joinL ⟨TL.tl x.shown, ?_, hc⟩)
        rw [shownAll_map, List.map_map]
        exact List.mem_map.mpr ⟨x, hx, rfl⟩
      rcases k with ⟨ds', rfl⟩ | ⟨n, hn, _⟩ | ⟨_, h2⟩
      · have := hc 40 (by rw [PyData.shown, tl_tupleText]; simp)
        unfold allow at this; omega
      · exact ⟨n, hn⟩
      · exact (h2 (hc c (by rw [q]; simp))).elim
    obtain ⟨s', rfl⟩ := allNums ds nums
    have e4 : inner s' ++ [41] = inner s ++ [41] := by
      have a := tl_spot s'
      have b := tl_spot s
      rw [h] at b
      exact (List.cons.inj (a.symm.trans b)).2
    rw [inner_inj (List.append_cancel_right e4)]
    rfl
  · omega
  · exact (h1 rfl).elim
end Ah

namespace Ah
open PySem PySem.Spec PyProof.Rows L2
/-! ## places, walked -/
theorem spotsL_mem : ∀ {k : Nat} {ps : List Tr} {q : List Nat × Tr}, q ∈ spotsL k ps ↔ ∃ (j : Nat) (u : Tr) (q' : List Nat × Tr), ps[j]? = some u ∧ q' ∈ u.spots ∧ q = ((k + j) :: q'.1, q'.2)
  | k, [], q => by
    rw [spotsL]
    constructor
    · intro h; cases h
    · rintro ⟨j, u, q', h, _⟩; simp at h
  | k, t :: r, q => by
    rw [spotsL, List.mem_append, spotsL_mem]
    constructor
    · rintro (h | ⟨j, u, q', h1, h2, h3⟩)
      · obtain ⟨q', h', rfl⟩ := List.mem_map.mp h
        exact ⟨0, t, q', rfl, h', rfl⟩
      · exact ⟨j + 1, u, q', h1, h2, by rw [h3, show k + 1 + j = k + (j + 1) by omega]⟩
    · rintro ⟨j, u, q', h1, h2, h3⟩
      cases j with
      | zero =>
        cases h1
        exact .inl (List.mem_map.mpr ⟨q', h2, by rw [h3]; rfl⟩)
      | succ j => exact .inr ⟨j, u, q', h1, h2, by rw [h3, show k + 1 + j = k + (j + 1) by omega]⟩
def numD (s : List Nat) : List PyData := s.map fun i => .int ((i : Nat) : Int)
theorem walk_nil (t : Tr) : walk t [] = some t := by cases t <;> rfl
theorem walk_of_spot : ∀ (s : List Nat) {t u : Tr}, (s, u) ∈ t.spots → walk t (numD s) = some u
  | [], .h z, u, h => by
    rw [Tr.spots] at h
    cases List.mem_singleton.mp h
    rfl
  | [], .n f ps, u, h => by
    rw [Tr.spots] at h
    rcases List.mem_cons.mp h with e | h
    · cases e; rfl
    · obtain ⟨j, v, q', h1, h2, h3⟩ := spotsL_mem.mp h
      cases h3
  | i :: r, .h z, u, h => by
    rw [Tr.spots] at h
    cases List.mem_singleton.mp h
  | i :: r, .n f ps, u, h => by
    rw [Tr.spots] at h
    rcases List.mem_cons.mp h with e | h
    · cases e
    · obtain ⟨j, v, q', h1, h2, h3⟩ := spotsL_mem.mp h
      obtain ⟨q1, q2⟩ := q'
      cases h3
      show (if 0 ≤ (((0 + j : Nat)) : Int) then match ps[(((0 + j : Nat)) : Int).toNat]? with | some u => walk u (numD q1) | none => none else none) = _
      rw [if_pos (Int.natCast_nonneg _), Int.toNat_natCast, Nat.zero_add, h1]
      exact walk_of_spot q1 h2
theorem spot_self (t : Tr) : ([], t) ∈ t.spots := by
  cases t <;> rw [Tr.spots] <;> exact List.mem_cons_self ..
theorem spot_of_walk : ∀ (ds : List PyData) {t u : Tr}, walk t ds = some u → ∃ s, ds = numD s ∧ (s, u) ∈ t.spots
  | [], t, u, h => by
    rw [walk_nil] at h
    cases h
    exact ⟨[], rfl, spot_self t⟩
  | d :: r, t, u, h => by
    cases t with
    | h z => cases d <;> cases h
    | n f ps =>
      cases d with
      | int i =>
        have h' : (if 0 ≤ i then match ps[i.toNat]? with | some u => walk u r | none => none else none) = some u := h
        by_cases i0 : 0 ≤ i
        · rw [if_pos i0] at h'
          cases e : ps[i.toNat]? with
          | none => rw [e] at h'; cases h'
          | some v =>
            rw [e] at h'
            obtain ⟨s, hs, hm⟩ := spot_of_walk r h'
            refine ⟨i.toNat :: s, ?_, ?_⟩
            · rw [hs]
              show PyData.int i :: numD s = PyData.int ((i.toNat : Nat) : Int) :: numD s
              rw [Int.toNat_of_nonneg i0]
            · rw [Tr.spots]
              refine List.mem_cons_of_mem _ (spotsL_mem.mpr ⟨i.toNat, v, (s, u), e, hm, by rw [Nat.zero_add]⟩)
        · rw [if_neg i0] at h'; cases h'
      | none => cases h
      | bool b => cases h
      | str x => cases h
      | list x => cases h
      | tuple x => cases h
      | dict x => cases h
theorem spots_lt : ∀ (s : List Nat) {t u : Tr}, (s, u) ∈ t.spots → (∀ i ∈ s, i < t.size) ∧ u.size ≤ t.size ∧ u.deep ≤ t.deep
  | [], t, u, h => by
    have e := walk_of_spot [] h
    rw [show numD [] = [] from rfl, walk_nil] at e
    cases e
    exact ⟨by simp, Nat.le_refl _, Nat.le_refl _⟩
  | i :: r, .h z, u, h => by
    rw [Tr.spots] at h
    cases List.mem_singleton.mp h
  | i :: r, .n f ps, u, h => by
    rw [Tr.spots] at h
    rcases List.mem_cons.mp h with e | h
    · cases e
    · obtain ⟨j, v, q', h1, h2, h3⟩ := spotsL_mem.mp h
      obtain ⟨q1, q2⟩ := q'
      cases h3
      obtain ⟨a, b, c⟩ := spots_lt q1 h2
      have m := List.mem_of_getElem? h1
      have s1 := size_le m
      have d1 := deep_le m
      have l1 := sizes_ge ps
      have jl := (List.getElem?_eq_some_iff.mp h1).1
      have e1 : (Tr.n f ps).size = sizes ps + 1 := rfl
      have e2 : (Tr.n f ps).deep = deeps ps + 1 := rfl
      refine ⟨fun i hi => ?_, (show q2.size ≤ (Tr.n f ps).size by omega), (show q2.deep ≤ (Tr.n f ps).deep by omega)⟩
      rcases List.mem_cons.mp hi with rfl | hi
      · omega
      · have := a i hi; omega
theorem fiSpot {s : List Nat} (h : ∀ i ∈ s, i < 1000) (l : s.length ≤ 60) : Fi 1 60 (spD s) := by
  have f : Fis 0 ((0 + 1) * (s.map fun i => PyData.int ((i : Nat) : Int)).length) (s.map fun i => PyData.int ((i : Nat) : Int)) := fisAll fun d hd => by
    obtain ⟨i, hi, rfl⟩ := List.mem_map.mp hd
    have := h i hi
    exact Fi.int (by omega) 0
  exact f.tuple.up (by decide) (by rw [List.length_map]; omega)
theorem spot_notDict (s : List Nat) : (spD s).shown ≠ ("{}" : Str) := by
  intro h
  have := congrArg TL.tl h
  rw [tl_spot] at this
  have e : TL.tl ("{}" : Str) = [123, 125] := rfl
  rw [e] at this
  cases this
theorem at_of_shown {t : Tr} {d : PyData} {q : List Nat × Tr} (h : q ∈ t.spots) (e : (spD q.1).shown = d.shown) : atD t d = some q.2 := by
  rw [spot_inj e]
  exact walk_of_spot q.1 h
theorem at_none {t : Tr} {d : PyData} (h : ∀ q ∈ t.spots, (spD q.1).shown ≠ d.shown) : atD t d = none := by
  cases e : atD t d with
  | none => rfl
  | some u =>
    cases d with
    | tuple ds =>
      obtain ⟨s, rfl, hm⟩ := spot_of_walk ds e
      exact (h (s, u) hm rfl).elim
    | none => cases e
    | bool b => cases e
    | int x => cases e
    | str x => cases e
    | list x => cases e
    | dict x => cases e
end Ah

namespace Ah
open PySem PySem.Spec PyProof.Rows L2
/-! ## two keywords, the other way about -/
def swp {α : Type} : List α → List α
  | [a, b] => [b, a]
  | l => l
theorem relSwp : ∀ (zs : List V) (ws : List Value), Vals zs ws → Vals (swp zs) (swp ws)
  | [], _, h => by cases h; exact .nil
  | [_], _, h => by
    cases h with
    | cons a b => cases b; exact .cons a .nil
  | [_, _], _, h => by
    cases h with
    | cons a b =>
      cases b with
      | cons c d => cases d; exact .cons c (.cons a .nil)
  | _ :: _ :: _ :: _, _, h => by
    cases h with
    | cons a b =>
      cases b with
      | cons c d =>
        cases d with
        | cons e f => exact .cons a (.cons c (.cons e f))
theorem spots_ok {zs : List Str} : ∀ (s : List Nat) {t u : Tr}, (s, u) ∈ t.spots → t.ok zs → u.ok zs
  | [], t, u, h, ok => by
    have e := walk_of_spot [] h
    rw [show numD [] = [] from rfl, walk_nil] at e
    cases e
    exact ok
  | i :: r, .h z, u, h, ok => by
    rw [Tr.spots] at h
    cases List.mem_singleton.mp h
  | i :: r, .n f ps, u, h, ok => by
    rw [Tr.spots] at h
    rcases List.mem_cons.mp h with e | h
    · cases e
    · obtain ⟨j, v, q', h1, h2, h3⟩ := spotsL_mem.mp h
      obtain ⟨q1, q2⟩ := q'
      cases h3
      exact spots_ok q1 h2 (oks_mem ok.2.2 v (List.mem_of_getElem? h1))
/-! ## things: data apart from ms, or an empty dict apart from it -/
section
variable {K : PySem.W.Frag} {ms ns : List Addr} {H H' : Hp}
mutual
theorem Dx.more {L : Addr} (hL : H L = none) : ∀ (d : PyData) {v : V}, Dx K ms H v d → Dx K (L :: ms) H v d
  | .none, _, h => by cases h; exact .non
  | .bool b, _, h => by cases h; exact .bl b
  | .int i, _, h => by cases h; exact .int i
  | .str x, _, h => by cases h; exact .str x
  | .list ds, _, h => by
    cases h with
    | lst a b c => exact .lst (fun z => by
        rcases List.mem_cons.mp z with rfl | z
        · rw [hL] at b; cases b
        · exact a z) b (Dxs.more hL ds c)
  | .tuple ds, _, h => by
    cases h with
    | tup b c => exact .tup b (Dxs.more hL ds c)
  | .dict _, _, h => by cases h
theorem Dxs.more {L : Addr} (hL : H L = none) : ∀ (ds : List PyData) {vs : List V}, Dxs K ms H vs ds → Dxs K (L :: ms) H vs ds
  | [], _, h => by cases h; exact .nil
  | d :: ds, _, h => by
    cases h with
    | cons a b => exact .cons (Dx.more hL d a) (Dxs.more hL ds b)
end
def Th2 (K : PySem.W.Frag) (ms : List Addr) (H : Hp) (x : V) : Prop := (∃ d, Dx K ms H x d ∧ Fi 4 2000 d) ∨ ∃ p, x = .ref p ∧ p ∉ ms ∧ H p = some (.dK [])
theorem Th2.kp {x : V} (h : Th2 K ms H x) (k : Kp ns H H') (sub : ∀ b ∈ ns, b ∈ ms) (n : ∀ m ∈ ns, Loose H m) : Th2 K ms H' x := by
  rcases h with ⟨d, h, f⟩ | ⟨p, e, hp, q⟩
  · exact .inl ⟨d, h.kp k sub n, f⟩
  · exact .inr ⟨p, e, hp, k p _ (fun z => hp (sub _ z)) q⟩
theorem Th2.new {x : V} (h : Th2 K ms H x) (k : Kp [] H H') : Th2 K ms H' x := h.kp k (fun _ z => by cases z) (fun _ z => by cases z)
theorem Th2.more {x : V} {L : Addr} (h : Th2 K ms H x) (hL : H L = none) : Th2 K (L :: ms) H x := by
  rcases h with ⟨d, h, f⟩ | ⟨p, e, hp, q⟩
  · exact .inl ⟨d, h.more hL, f⟩
  · exact .inr ⟨p, e, fun z => by
      rcases List.mem_cons.mp z with rfl | z
      · rw [hL] at q; cases q
      · exact hp z, q⟩
end
end Ah

namespace Ah
open PySem PySem.Spec PyProof.Rows L2
def topS (i : Nat) : Stmt := PySem.Challenge.pw_aheadofholes_k05_places_of_trees.main.body.getD i (.Pass ⟨0, 0, 0, 0⟩)
end Ah
namespace Ah
open PySem PySem.Spec PyProof.Rows L2
local macro_rules | `(tactic| walk_at "side") => `(tactic| first | omega | decide | (dsimp only; omega) | (unfold CDivN; omega) | (unfold CMul; omega) | (unfold CPow; omega) | (unfold CPow; decide) | (unfold CMulW; decide) | exact szLe rfl | rfl)
local macro_rules | `(tactic| walk_at "here") => `(tactic| first | assumption | exact upd_same)
local macro_rules | `(tactic| walk_at "go") => `(tactic| repeat (first
  | (refine ⟨_, rfl, ?_⟩)
  | (refine ⟨_, _, rfl, rfl, ?_⟩)
  | (refine ⟨_, _, _, _, rfl, rfl, SqL.of (by walk_at "here"), rfl, ?_⟩)
  | (refine ⟨_, _, _, _, rfl, rfl, (by walk_at "here"), rfl, ?_⟩)
  | (refine ⟨_, _, rfl, ?_⟩)
  | (refine And.intro (by walk_at "side") ?_)))

abbrev s__law_take : Stmt := topS 5
abbrev N__law_take : List Str := ["hand", "many", "digit", "prime", "drawn"]
theorem sc__law_take : FnScope N__law_take ["hand", "many"] (defScope s__law_take) :=
  ⟨rfl, rfl, rfl, by decide +kernel, rfl, by decide +kernel, by decide +kernel⟩
theorem po__law_take : Posi "_law_take" s__law_take ["hand", "many"] := fun _ _ _ _ _ _ us hl => match us, hl with | [_, _], _ => rfl

def spTake : Sp := fun vs H Q _ => ∃ (a : Addr) (m : Int) (n : Nat), vs = [.ref a, .int m] ∧ Hand n H a ∧ n < 1000000 ∧ 1 ≤ m ∧ m < 1073741824 ∧
  ∀ (r : Int) (H' : Hp), 0 ≤ r → r < m → Kp [a] H H' → Hand (n + 1) H' a → Q (.int r) H'
def primes : List V := [.int 2147483647, .int 2147483629, .int 2147483587, .int 2147483579, .int 2147483563]
theorem primeAt (c : Int) : ∃ p : Int, atI primes (c.fmod 5) = some (.int p) ∧ 2147483563 ≤ p ∧ p ≤ 2147483647 := by
  rcases five (c := c) with e | e | e | e | e <;> rw [e]
  · exact ⟨2147483647, rfl, by decide, by decide⟩
  · exact ⟨2147483629, rfl, by decide, by decide⟩
  · exact ⟨2147483587, rfl, by decide, by decide⟩
  · exact ⟨2147483579, rfl, by decide, by decide⟩
  · exact ⟨2147483563, rfl, by decide, by decide⟩
section
variable {P : Program} {w : World} {K : PySem.W.Frag} {mg : Str → Option Value} {base : Heap}
theorem h_take (T : At K mg "_law_take" s__law_take) : Has P w K mg base 1 "_law_take" s__law_take ["hand", "many"] spTake := by
  refine T.has sc__law_take po__law_take (fun vs H Q E h => ?_) (fun f cdv A outer s H vs Q E hr h => ?_)
  · obtain ⟨a, m, n, rfl, _⟩ := h; rfl
  obtain ⟨a, m, n, rfl, ⟨g, d, c, hH, g0, g1, d0, d1, c0, c1⟩, hn, m1, m2, q⟩ := h
  have nd := sc__law_take.nd
  refine ⟨_, (pss_cons (ps_if (pt_cmpR op_gt (pe_ix ix_list (pv 0) pe_int (fun _ _ => rfl)) pe_int (nomark _)) (pss_cons (ps_set (i := 2) nd rfl (Or.inl rfl) (pe_op op_modN (pe_ix ix_list (pv 0) pe_int (fun _ _ => rfl)) (pv 1)))
      (pss_cons (ps_asg (pe_op op_fdivN (pe_ix ix_list (pv 0) pe_int (fun _ _ => rfl)) (pv 1)) (pg_sub (pv 0) pe_int set_list))
      (pss_one (ps_ret (pv 2))))) pss_nil)
      (pss_cons (ps_asg (pe_op op_add (pe_ix ix_list (pv 0) pe_int (fun _ _ => rfl)) pe_int) (pg_sub (pv 0) pe_int set_list))
      (pss_cons (ps_set (i := 3) nd rfl (Or.inl rfl) (pe_ix ix_list (pe_lst (pa_cons pe_int (pa_cons pe_int (pa_cons pe_int (pa_cons pe_int (pa_cons pe_int pa_nil)))))) (pe_op op_modN (pe_ix ix_list (pv 0) pe_int (fun _ _ => rfl)) pe_int) (fun _ _ => rfl)))
      (pss_cons (ps_set (i := 4) nd rfl (Or.inl rfl) (pe_op op_modN (pe_op op_pow (pe_op op_add (pe_ix ix_list (pv 0) pe_int (fun _ _ => rfl)) (pe_op op_mul pe_int (pe_ix ix_list (pv 0) pe_int (fun _ _ => rfl)))) pe_int) (pv 3)))
      (pss_one (ps_ret (pe_op op_modN (pe_op op_fdivN (pe_op op_modN (pe_op op_mul (pv 4) (pe_op op_add (pe_op op_modN (pv 4) pe_int) (pe_ix ix_list (pv 0) pe_int (fun _ _ => rfl)))) (pv 3)) pe_int) (pv 1)))))))), ?_⟩
  walk_at "go"
  refine ite2 (fun t => ?_) (fun t => ?_)
  · walk_at "go"
    have t' : 0 < g := of_decide_eq_true t
    refine q _ _ (fm0 m1) (fm1 m1) (Kp.put (by simp)) ⟨_, _, _, upd_same, fd0 g0 m1, ?_, d0, d1, c0, by omega⟩
    exact Int.lt_of_le_of_lt (fd1 g0 m1) g1
  · walk_at "go"
    intro p hp
    have nap : a ≠ p := fun e => by rw [e, upd_same] at hp; cases hp
    have ha : upd (upd H a (.lst [.int g, .int d, .int (c + 1)])) p (.lst primes) a = some (.lst [.int g, .int d, .int (c + 1)]) := by rw [upd_ne nap, upd_same]
    have hpp : upd (upd H a (.lst [.int g, .int d, .int (c + 1)])) p (.lst primes) p = some (.lst primes) := upd_same
    obtain ⟨pr, e1, e2, e3⟩ := primeAt (c + 1)
    refine ⟨_, rfl, _, _, _, _, rfl, rfl, SqL.of ha, rfl, ?_⟩
    walk_at "go"
    refine ⟨_, _, _, _, rfl, rfl, SqL.of hpp, e1, ?_⟩
    walk_at "go"
    have b0 : 0 ≤ ((d + 7919 * (c + 1)) ^ Int.toNat 3).fmod pr := fm0 (by omega)
    have b1 : ((d + 7919 * (c + 1)) ^ Int.toNat 3).fmod pr < pr := fm1 (by omega)
    refine ⟨.inl ⟨by omega, by omega⟩, ?_⟩
    walk_at "go"
    refine q _ _ (fm0 m1) (fm1 m1) ((Kp.put (by simp)).put0 (Kp.free (ms := [a]) (Kp.put (by simp)) hp (by simpa using fun e => nap e.symm))) ⟨g, d, c + 1, ha, g0, g1, d0, d1, by omega, by omega⟩
abbrev s__law_of : Stmt := topS 6
abbrev N__law_of : List Str := ["hand", "some"]
theorem sc__law_of : FnScope N__law_of ["hand", "some"] (defScope s__law_of) :=
  ⟨rfl, rfl, rfl, by decide +kernel, rfl, by decide +kernel, by decide +kernel⟩
theorem po__law_of : Posi "_law_of" s__law_of ["hand", "some"] := fun _ _ _ _ _ _ us hl => match us, hl with | [_, _], _ => rfl

/-- the draw from a list made within the call, or from a text -/
def spOf : Sp := fun vs H Q _ => ∃ (a : Addr) (s : V) (n : Nat), vs = [.ref a, s] ∧ Hand n H a ∧ n < 1000000 ∧
  ((∃ b xs, s = .ref b ∧ b ≠ a ∧ H b = some (.lst xs) ∧ xs ≠ [] ∧ xs.length < 1000000 ∧ ∀ (i : Nat) (x : V) (H' : Hp), xs[i]? = some x → Kp [a] H H' → Hand (n + 1) H' a → Q x H') ∨
   (∃ z : Str, s = .str z ∧ 1 ≤ z.length ∧ z.length < 1000000 ∧ ∀ (c : Nat) (H' : Hp), c ∈ z.cps.toList → Kp [a] H H' → Hand (n + 1) H' a → Q (.str ⟨#[c]⟩) H'))
theorem h_of (T : At K mg "_law_of" s__law_of) (d__law_take : Has P w K mg base 1 "_law_take" s__law_take ["hand", "many"] spTake) (mb_len : mg "len" = none) :
    Has P w K mg base 2 "_law_of" s__law_of ["hand", "some"] spOf := by
  refine T.has sc__law_of po__law_of (fun vs H Q E h => ?_) (fun f cdv A outer s H vs Q E hr h => ?_)
  · obtain ⟨a, s, n, rfl, _⟩ := h; rfl
  obtain ⟨a, z, n, rfl, hh, hn, h⟩ := h
  have nd := sc__law_of.nd
  refine ⟨_, (pss_one (ps_ret (pe_ix ix_seq (pv 1) (pe_callD d__law_take (by omega) hr (pa_cons (pv 0) (pa_cons (pe_callB call_len (by rfl) mb_len (by decide +kernel) (pa_cons (pv 1) pa_nil)) pa_nil))) (fun _ _ => rfl)))), ?_⟩
  rcases h with ⟨b, xs, rfl, nba, hb, hne, hlen, q⟩ | ⟨y, rfl, hne, hlen, q⟩
  · have hpos : 1 ≤ xs.length := List.length_pos_iff.mpr hne
    refine ⟨_, rfl, _, rfl, _, rfl, _, _, rfl, .inl ⟨_, SqL.of hb, rfl⟩, ?_⟩
    refine ⟨a, (xs.length : Int), n, rfl, hh, hn, by omega, by omega, fun r H' r0 r1 kp hd => ?_⟩
    obtain ⟨x, hx, _, hx2⟩ := atI_in r0 r1
    exact .inl ⟨_, _, _, _, rfl, rfl, SqL.of (kp b _ (by simpa using nba) hb), hx, q _ _ _ hx2 kp hd⟩
  · refine ⟨_, rfl, _, rfl, _, rfl, _, _, rfl, ⟨Nat.le_trans (Nat.le_of_lt hlen) (by decide), rfl⟩, ?_⟩
    refine ⟨a, (y.length : Int), n, rfl, hh, hn, by omega, by omega, fun r H' r0 r1 kp hd => ?_⟩
    have e : y.cps.toList.length = y.length := by simp [Str.length]
    obtain ⟨x, hx, hm, hx2⟩ := atI_in (xs := y.cps.toList) r0 (by rw [e]; exact r1)
    exact .inr (.inr ⟨_, _, _, rfl, rfl, Nat.le_trans (Nat.le_of_lt hlen) (by decide), hx, q _ _ hm kp hd⟩)
abbrev s__law_hand : Stmt := topS 4
abbrev N__law_hand : List Str := ["script", "k", "cell", "great"]
theorem sc__law_hand : FnScope N__law_hand ["script", "k"] (defScope s__law_hand) :=
  ⟨rfl, rfl, rfl, by decide +kernel, rfl, by decide +kernel, by decide +kernel⟩
theorem po__law_hand : Posi "_law_hand" s__law_hand ["script", "k"] := fun _ _ _ _ _ _ us hl => match us, hl with | [_, _], _ => rfl

theorem flag : ∀ b : Bool, -2 ^ 64 < (if b = true then (1 : Int) else 0) ∧ (if b = true then (1 : Int) else 0) < 2 ^ 64 := by decide
theorem big0 : (10 : Int) ^ Int.toNat 60 * 10 ^ Int.toNat 60 * 10 ^ Int.toNat 60 ≠ 0 := by decide
theorem big1 : (10 : Int) ^ Int.toNat 60 * 10 ^ Int.toNat 60 * 10 ^ Int.toNat 60 = 10 ^ 180 := by decide
theorem great (x : Int) (b : Bool) : 0 ≤ x.fmod (10 ^ Int.toNat 60 * 10 ^ Int.toNat 60 * 10 ^ Int.toNat 60) * (if b = true then 1 else 0) ∧
    x.fmod (10 ^ Int.toNat 60 * 10 ^ Int.toNat 60 * 10 ^ Int.toNat 60) * (if b = true then 1 else 0) < 10 ^ 180 := by
  rw [big1]
  have h0 : 0 ≤ x.fmod (10 ^ 180) := fm0 (by decide)
  have h1 : x.fmod (10 ^ 180) < 10 ^ 180 := fm1 (by decide)
  cases b
  · simp
  · simp only [if_true, Int.mul_one]; exact ⟨h0, h1⟩
def spHand (K : PySem.W.Frag) : Sp := fun vs H Q _ => ∃ (a : Addr) (ns : List Int) (k : Nat), vs = [.ref a, .int k] ∧ SqL K H a (ns.map V.int) ∧ k < 1000 ∧
  ∀ (r : Addr) (H' : Hp), H r = none → Kp [] H H' → Hand 0 H' r → Q (.ref r) H'
theorem h_hand (T : At K mg "_law_hand" s__law_hand) (mb_len : mg "len" = none) (mb_abs : mg "abs" = none) (mb_int : mg "int" = none) :
    Has P w K mg base 1 "_law_hand" s__law_hand ["script", "k"] (spHand K) := by
  refine T.has sc__law_hand po__law_hand (fun vs H Q E h => ?_) (fun f cdv A outer s H vs Q E hr h => ?_)
  · obtain ⟨a, ns, k, rfl, _⟩ := h; rfl
  obtain ⟨a, ns, k, rfl, hs, hk, q⟩ := h
  have nd := sc__law_hand.nd
  refine ⟨_, (pss_cons (ps_set (i := 2) nd rfl (Or.inl rfl) (pe_ifExp (pt_cmpR op_lt (pv 1) (pe_callB call_len_seq (by rfl) mb_len (by decide +kernel) (pa_cons (pv 0) pa_nil)) (nomark _)) (pe_ix ix_list (pv 0) (pv 1) (fun _ _ => rfl)) pe_int))
      (pss_cons (ps_set (i := 3) nd rfl (Or.inl rfl) (pe_op op_mul (pe_op op_modN (pe_callB call_abs (by rfl) mb_abs (by decide +kernel) (pa_cons (pv 2) pa_nil)) (pe_op op_mulW (pe_op op_mulW (pe_op op_pow pe_int pe_int) (pe_op op_pow pe_int pe_int)) (pe_op op_pow pe_int pe_int))) (pe_callTy call_int1 (by rfl) mb_int (by decide +kernel) (pa_cons (pe_cmpR op_ge (pe_callB call_abs (by rfl) mb_abs (by decide +kernel) (pa_cons (pv 2) pa_nil)) (pe_op op_pow pe_int pe_int) (nomark _)) pa_nil))))
      (pss_one (ps_ret (pe_lst (pa_cons (pv 3) (pa_cons (pe_op op_modN (pe_op op_mul (pe_op op_add (pe_op op_add (pe_op op_modN (pv 2) pe_int) (pe_op op_mul pe_int (pv 1))) pe_int) pe_int) pe_int) (pa_cons pe_int pa_nil)))))))), ?_⟩
  refine ⟨_, rfl, _, rfl, _, _, rfl, .inl hs, _, _, rfl, rfl, _, rfl, ite2 (fun t => ?_) (fun t => ?_)⟩
  · have t' : ((k : Nat) : Int) < (((ns.map V.int).length : Nat) : Int) := of_decide_eq_true t
    obtain ⟨x, hx, hm, _⟩ := atI_in (xs := ns.map V.int) (by omega) t'
    obtain ⟨cell, _, rfl⟩ := List.mem_map.mp hm
    refine ⟨_, rfl, _, rfl, _, _, _, _, rfl, rfl, hs, hx, ?_⟩
    walk_at "go"
    refine ⟨big0, ?_⟩
    walk_at "go"
    refine .inr ⟨_, rfl, _, _, rfl, rfl, .inr (flag _), ?_⟩
    walk_at "go"
    exact fun p hp => q _ _ hp (Kp.new hp) ⟨_, _, _, upd_same, (great _ _).1, (great _ _).2, fm0 (by decide), fm1 (by decide), by decide, by decide⟩
  · walk_at "go"
    refine .inr ⟨_, rfl, _, _, rfl, rfl, .inr (flag _), ?_⟩
    walk_at "go"
    exact fun p hp => q _ _ hp (Kp.new hp) ⟨_, _, _, upd_same, (great _ _).1, (great _ _).2, fm0 (by decide), fm1 (by decide), by decide, by decide⟩
end
end Ah
namespace Ah
open PySem PySem.Spec PyProof.Rows L2
local macro_rules | `(tactic| walk_at "side") => `(tactic| first | omega | decide | (dsimp only; omega) | (unfold CDivN; omega) | (unfold CMul; omega) | (unfold CPow; omega) | (unfold CPow; decide) | (unfold CMulW; decide) | exact szLe rfl | rfl)
local macro_rules | `(tactic| walk_at "here") => `(tactic| first | assumption | exact upd_same)
local macro_rules | `(tactic| walk_at "go") => `(tactic| repeat (first
  | (refine ⟨_, rfl, ?_⟩)
  | (refine ⟨_, _, rfl, rfl, ?_⟩)
  | (refine ⟨_, _, _, _, rfl, rfl, SqL.of (by walk_at "here"), rfl, ?_⟩)
  | (refine ⟨_, _, _, _, rfl, rfl, (by walk_at "here"), rfl, ?_⟩)
  | (refine ⟨_, _, rfl, ?_⟩)
  | (refine And.intro (by walk_at "side") ?_)))

abbrev s__law_words : Stmt := topS 7
abbrev N__law_words : List Str := ["hand", "letters", "lines", "turn", "first", "found", "k", "many", "own"]
theorem sc__law_words : FnScope N__law_words ["hand"] (defScope s__law_words) :=
  ⟨rfl, rfl, rfl, by decide +kernel, rfl, by decide +kernel, by decide +kernel⟩
theorem po__law_words : Posi "_law_words" s__law_words ["hand"] := fun _ _ _ _ _ _ us hl => match us, hl with | [_], _ => rfl

def spWords : Sp := fun vs H Q _ => ∃ (a : Addr) (n : Nat), vs = [.ref a] ∧ Hand n H a ∧ n < 900000 ∧
  ∀ (r : Addr) (H' : Hp), H r = none → Kp [a] H H' → Hand (n + 20) H' a → Names H' r → Q (.ref r) H'
def arit : List V := [.int 0, .int 0, .int 1, .int 2, .int 3]
theorem aritAt {i : Nat} {x : V} (h : arit[i]? = some x) : ∃ m, x = .int m ∧ 0 ≤ m ∧ m ≤ 3 := by
  have m := List.mem_of_getElem? h
  simp only [arit, List.mem_cons, List.not_mem_nil, or_false] at m
  rcases m with rfl | rfl | rfl | rfl | rfl <;> exact ⟨_, rfl, by decide, by decide⟩
section
variable {P : Program} {w : World} {K : PySem.W.Frag} {mg : Str → Option Value} {base : Heap}
theorem h_words (T : At K mg "_law_words" s__law_words) (d__law_take : Has P w K mg base 1 "_law_take" s__law_take ["hand", "many"] spTake)
    (d__law_of : Has P w K mg base 2 "_law_of" s__law_of ["hand", "some"] spOf) (mb_range : mg "range" = none) (mb_enumerate : mg "enumerate" = none) :
    Has P w K mg base 3 "_law_words" s__law_words ["hand"] spWords := by
  refine T.has sc__law_words po__law_words (fun vs H Q E h => ?_) (fun f cdv A outer s H vs Q E hr h => ?_)
  · obtain ⟨a, n, rfl, _⟩ := h; rfl
  obtain ⟨a, n, rfl, hh, hn, q⟩ := h
  have nd := sc__law_words.nd
  refine ⟨_, (pss_cons (ps_set (i := 1) nd rfl (Or.inr rfl) pe_str)
      (pss_cons (ps_setLc (i := 2) (own := [("turn", 3)]) (by rfl) nd rfl rfl (sw_true rfl rfl rfl (by decide +kernel)) (pi_range1 (by rfl) mb_range (pa_cons pe_int pa_nil)) (blkOk_by (own := [("turn", 3)]) (N := N__law_words) (sc := defScope s__law_words) (by decide +kernel)) (fun _ _ _ _ _ => (pg_name (i := 3) nd rfl (.inl rfl))) (fun _ _ _ _ _ => pts_nil) (fun _ _ _ _ _ => (pe_op op_mulStr (pe_callD d__law_of (by omega) hr (pa_cons (pv 0) (pa_cons (pv 1) pa_nil))) (pe_callD d__law_of (by omega) hr (pa_cons (pv 0) (pa_cons (pe_lst (pa_cons pe_int (pa_cons pe_int (pa_cons pe_int (pa_cons pe_int pa_nil))))) pa_nil))))))
      (pss_cons (ps_par (i := 4) (j := 5) (by rfl) nd rfl rfl (by decide) rfl rfl (pa_cons (pe_callD d__law_take (by omega) hr (pa_cons (pv 0) (pa_cons pe_int pa_nil))) (pa_cons (pe_lst pa_nil) pa_nil)) (by rfl))
      (pss_cons (ps_for PassesOwn.never rfl (pi_enum (by rfl) mb_enumerate (pa_cons (pe_lst (pa_cons pe_int (pa_cons pe_int (pa_cons pe_int (pa_cons pe_int (pa_cons pe_int pa_nil)))))) pa_nil)) (pg_tup rfl (pgs_cons (pg_name (i := 6) nd rfl (.inl rfl)) (pgs_cons (pg_name (i := 7) nd rfl (.inl rfl)) pgs_nil))) (pss_cons (ps_set (i := 8) nd rfl (Or.inl rfl) (pe_op op_mulStr (pe_ix ix_str (pv 1) (pe_op op_modN (pe_op op_add (pv 4) (pv 6)) pe_int) (fun _ _ => rfl)) (pe_callD d__law_of (by omega) hr (pa_cons (pv 0) (pa_cons (pe_lst (pa_cons pe_int (pa_cons pe_int (pa_cons pe_int (pa_cons pe_int pa_nil))))) pa_nil)))))
      (pss_one (ps_expr (pe_bm PySem.F.plainAttrs_list PySem.F.slot_list_append PySem.F.type_list_append mt_append (pv 5) (pa_cons (pe_tup (pa_cons (pe_op op_add_str (pe_op op_add_str (pe_callD d__law_of (by omega) hr (pa_cons (pv 0) (pa_cons (pv 2) pa_nil))) pe_str) (pv 8)) (pa_cons (pv 7) pa_nil))) pa_nil))))))
      (pss_one (ps_ret (pv 5))))))), ?_⟩
  walk_at "go"
  refine fun D hD => lc_range (lo := 0) (n := 2) (fun i H1 => Kp [a] H H1 ∧ Hand (n + 2 * i) H1 a ∧ ∃ ls : List Str, H1 D = some (.lst (ls.map V.str)) ∧ ls.length = i ∧ ∀ l ∈ ls, Nm l)
    ⟨Kp.new hD, hh.new hD, [], upd_same, rfl, by simp⟩ ?_ ?_
  · rintro i H1 hi ⟨kp, hd, ls, hD1, hl, hls⟩
    refine ⟨rfl, ?_⟩
    refine ⟨_, rfl, _, rfl, ?_⟩
    refine ⟨a, .str AB, n + 2 * i, rfl, hd, by omega, .inr ⟨AB, rfl, by rw [ab_len]; decide, by rw [ab_len]; decide, fun c H2 hc kp2 hd2 => ?_⟩⟩
    refine ⟨_, rfl, szLe rfl, fun b hb => ?_⟩
    refine ⟨a, .ref b, n + 2 * i + 1, rfl, hd2.new hb, by omega, .inl ⟨b, _, rfl, ((hd2.ne hb)).symm, upd_same, by simp, by decide, fun j x H3 hx kp3 hd3 => ?_⟩⟩
    obtain ⟨m, rfl, hm⟩ := timesV hx
    obtain ⟨c0, c1⟩ := ab_in c hc
    have kAll : Kp [a] H1 H3 := kp2.trans ((Kp.new hb).trans kp3)
    have hDa : D ∉ [a] := by simpa using hd.neL hD1 (strNo (f := id) ls)
    refine ⟨_, _, rfl, rfl, mulOk1 hm, _, kAll _ _ hDa hD1, ?_, (kp.trans kAll).put0 hD, ?_, ls ++ [Txt.mul ⟨#[c]⟩ m], ?_, ?_, ?_⟩
    · exact small1000 (by rw [List.length_map]; omega)
    · exact (hd3.more (by omega)).put (by simpa using hDa)
    · rw [upd_same, List.map_append]; rfl
    · rw [List.length_append, hl]; rfl
    · intro l hm2
      rcases List.mem_append.mp hm2 with h | h
      · exact hls l h
      · rw [List.mem_singleton.mp h]; exact mulNm hm c0 c1
  · rintro H1 ⟨kp, hd, ls, hD1, hl, hls⟩
    have lstr : ∀ ls : List Str, ∀ g d c : Int, ls.map V.str ≠ [V.int g, .int d, .int c] := fun ls => strNo (f := id) ls
    have hDa : D ≠ a := hd.neL hD1 (lstr ls)
    refine ⟨_, rfl, a, 26, n + 2 * 2, rfl, hd, by omega, by decide, by decide, fun r H2 r0 r1 kp2 hd2 => ?_⟩
    refine ⟨szLe rfl, fun F hF => ?_⟩
    refine ⟨_, _, rfl, ?_⟩
    refine ⟨szLe rfl, fun G hG => ?_⟩
    have nFa : F ≠ a := fun e => by have := hd2.ne hF; exact this e.symm
    have hF0 : H F = none := kp.free (kp2.free hF (by simpa using nFa)) (by simpa using nFa)
    have nGa : G ≠ a := fun e => (hd2.new hF (o := .lst [])).ne hG e.symm
    have hG2 : H2 G = none := Kp.free (ms := []) (Kp.new hF) hG (by simp)
    have nGF : G ≠ F := fun e => by rw [e, upd_same] at hG; cases hG
    have nDF : D ≠ F := ne_of_none (kp2 _ _ (by simpa using hDa) hD1) hF
    have nDG : D ≠ G := ne_of_none (kp2 _ _ (by simpa using hDa) hD1) hG2
    refine ⟨_, _, rfl, SqL.of upd_same, ?_⟩
    refine for_it (walk_enum (K := K) (a := G) (xs := arit)) (fun i σ H3 => (∃ x6 x7 x8 : Option V, σ = [some (.ref a), some (.str AB), some (.ref D), none, some (.int r), some (.ref F), x6, x7, x8]) ∧
      Kp [a] H H3 ∧ Hand (n + 5 + 2 * i) H3 a ∧ H3 D = some (.lst (ls.map V.str)) ∧ H3 G = some (.lst arit) ∧
      ∃ ts : List Addr, H3 F = some (.lst (ts.map V.ref)) ∧ ts.length = i ∧ ∀ (j : Nat) (t : Addr), ts[j]? = some t → ∃ f m, arit[j]? = some (.int m) ∧ NameAt H3 t f m) ?_ ?_ ?_ ?_
    · refine ⟨⟨none, none, none, rfl⟩, ((kp.trans kp2).trans (Kp.new hF)).trans (Kp.new hG), (hd2.new hF).new hG, ?_, upd_same, [], ?_, rfl, by simp⟩
      · rw [upd_ne nDG, upd_ne nDF]; exact kp2 _ _ (by simpa using hDa) hD1
      · rw [upd_ne nGF.symm, upd_same]; rfl
    · rintro i σ H3 _ ⟨_, _, _, _, hG3, _⟩; exact SqL.of hG3
    · rintro i x σ H3 H4 hi ⟨⟨x6, x7, x8, rfl⟩, k3, hd3, hD3, hG3, ts, hF3, hts, hall⟩ ⟨T, x', y', rfl, hT, rfl, ex, ey⟩
      cases ex
      have hi5 : i < 5 := hi
      obtain ⟨m, rfl, m0, m1⟩ := aritAt ey
      refine ⟨_, _, rfl, SqT.of upd_same, rfl, ?_⟩
      have hdT := hd3.new hT (o := .tup [.int ((i : Nat) : Int), .int m])
      obtain ⟨c, hc, hm, _⟩ := atI_in (xs := AB.cps.toList) (k := (r + ((i : Nat) : Int)).fmod 26) (fm0 (by decide)) (fm1 (by decide))
      obtain ⟨c0, c1⟩ := ab_in c hm
      walk_at "go"
      refine ⟨_, _, _, rfl, rfl, szLe rfl, hc, _, rfl, szLe rfl, fun b hb => ?_⟩
      refine ⟨a, .ref b, n + 5 + 2 * i, rfl, hdT.new hb, by omega, .inl ⟨b, _, rfl, (hdT.ne hb).symm, upd_same, by simp, by decide, fun j x H5 hx kp5 hd5 => ?_⟩⟩
      obtain ⟨mm, rfl, hmm⟩ := timesV hx
      refine ⟨_, _, rfl, rfl, mulOk1 hmm, ?_⟩
      have k35 : Kp [a] H3 H5 := (Kp.new hT).trans ((Kp.new hb).trans kp5)
      have hD5 : H5 D = some (.lst (ls.map V.str)) := k35 _ _ (by simpa using hDa) hD3
      have hF5 : H5 F = some (.lst (ts.map V.ref)) := k35 _ _ (by simpa using nFa) hF3
      refine ⟨_, rfl, .inl ⟨rfl, _, SqL.of hF5⟩, ?_⟩
      refine ⟨_, rfl, _, rfl, a, .ref D, n + 5 + 2 * i + 1, rfl, hd5, by omega, .inl ⟨D, _, rfl, hDa, hD5, ?_, ?_, fun j2 x H6 hx kp6 hd6 => ?_⟩⟩
      · intro e; rw [List.map_eq_nil_iff.mp e] at hl; cases hl
      · rw [List.length_map, hl]; decide
      rw [List.getElem?_map] at hx
      obtain ⟨l, hl2, rfl⟩ := Option.map_eq_some_iff.mp hx
      have hNl := hls l (List.mem_of_getElem? hl2)
      have hNo := mulNm (c := c) hmm c0 c1
      have dot1 : (("." : Str)).length = 1 := rfl
      refine ⟨_, _, rfl, rfl, ?_, _, rfl, _, _, rfl, rfl, ?_, _, rfl, szLe rfl, fun U hU => ?_⟩
      · exact Nat.le_trans (by have := hNl.2.1; rw [dot1]; omega) (szLe (n := 9) rfl)
      · exact Nat.le_trans (by have := hNl.2.1; have := hNo.2.1; rw [strLen, dot1]; omega) (szLe (n := 17) rfl)
      have k36 : Kp [a] H3 H6 := k35.trans kp6
      have hF6 : H6 F = some (.lst (ts.map V.ref)) := kp6 _ _ (by simpa using nFa) hF5
      have nFU : F ≠ U := ne_of_none hF6 hU
      have nGU : G ≠ U := ne_of_none (k36 _ _ (by simpa using nGa) hG3) hU
      have nDU : D ≠ U := ne_of_none (kp6 _ _ (by simpa using hDa) hD5) hU
      refine ⟨_, _, _, rfl, rfl, by rw [upd_ne nFU]; exact hF6, small1000 (by rw [List.length_map]; omega), ?_⟩
      refine ⟨⟨_, _, _, rfl⟩, (((k3.trans k36).trans (Kp.new hU)).put0 hF0), ((hd6.more (by omega)).new hU).put nFa, ?_, ?_, ts ++ [U], ?_, ?_, ?_⟩
      · rw [upd_ne nDF, upd_ne nDU]; exact kp6 _ _ (by simpa using hDa) hD5
      · rw [upd_ne nGF, upd_ne nGU]; exact k36 _ _ (by simpa using nGa) hG3
      · rw [upd_same, List.map_append]; rfl
      · rw [List.length_append, hts]; rfl
      · intro j t ht
        have nt : ∀ x ∈ [a], ∀ xs, H3 x ≠ some (.tup xs) := fun x hx => by rw [List.mem_singleton.mp hx]; exact hd3.noTup
        rcases getSnoc ht with ⟨hj, e⟩ | ⟨hj, rfl⟩
        · obtain ⟨f, m', e1, e2⟩ := hall j t e
          refine ⟨f, m', e1, ?_⟩
          have e3 : NameAt H6 t f m' := e2.keep k36 nt
          exact ⟨by rw [upd_ne (ne_of e3.1 hF6 (by intro z; cases z)), upd_ne (ne_of_none e3.1 hU)]; exact e3.1, e3.2⟩
        · rw [hj, hts]
          exact ⟨_, m, ey, by rw [upd_ne nFU.symm, upd_same], ⟨l, _, hNl, hNo, rfl⟩, m0, m1⟩
    · rintro σ H3 ⟨⟨x6, x7, x8, rfl⟩, k3, hd3, hD3, hG3, ts, hF3, hts, hall⟩
      refine ⟨_, rfl, q _ _ hF0 k3 (hd3.more ?_) ⟨ts, hF3, by rw [hts]; decide, ?_, ?_⟩⟩
      · show n + 5 + 2 * 5 ≤ n + 20; omega
      · obtain ⟨t0, r0, rfl⟩ : ∃ t0 r0, ts = t0 :: r0 := by
          cases ts with
          | nil => cases hts
          | cons t r => exact ⟨_, _, rfl⟩
        obtain ⟨f, m, e1, e2⟩ := hall 0 t0 rfl
        cases e1
        exact ⟨t0, by simp, f, e2⟩
      · intro t ht
        obtain ⟨j, hj⟩ := List.getElem?_of_mem ht
        obtain ⟨f, m, _, e⟩ := hall j t hj
        exact ⟨f, m, e⟩
end
end Ah
namespace Ah
open PySem PySem.Spec PyProof.Rows L2
local macro_rules | `(tactic| walk_at "side") => `(tactic| first | omega | decide | (dsimp only; omega) | (unfold CDivN; omega) | (unfold CMul; omega) | (unfold CPow; omega) | (unfold CPow; decide) | (unfold CMulW; decide) | exact szLe rfl | rfl)
local macro_rules | `(tactic| walk_at "here") => `(tactic| first | assumption | exact upd_same)
local macro_rules | `(tactic| walk_at "go") => `(tactic| repeat (first
  | (refine ⟨_, rfl, ?_⟩)
  | (refine ⟨_, _, rfl, rfl, ?_⟩)
  | (refine ⟨_, _, _, _, rfl, rfl, SqL.of (by walk_at "here"), rfl, ?_⟩)
  | (refine ⟨_, _, _, _, rfl, rfl, (by walk_at "here"), rfl, ?_⟩)
  | (refine ⟨_, _, rfl, ?_⟩)
  | (refine And.intro (by walk_at "side") ?_)))

abbrev s__law_called : Stmt := topS 9
abbrev N__law_called : List Str := ["hand", "lots"]
theorem sc__law_called : FnScope N__law_called ["hand"] (defScope s__law_called) :=
  ⟨rfl, rfl, rfl, by decide +kernel, rfl, by decide +kernel, by decide +kernel⟩
theorem po__law_called : Posi "_law_called" s__law_called ["hand"] := fun _ _ _ _ _ _ us hl => match us, hl with | [_], _ => rfl

def spCalled : Sp := fun vs H Q _ => ∃ (a : Addr) (n : Nat), vs = [.ref a] ∧ Hand n H a ∧ n < 900000 ∧
  ∀ (r : Addr) (H' : Hp) (zs : List Str), H r = none → Kp [a] H H' → Hand (n + 1) H' a → H' r = some (.lst (zs.map V.str)) → Holes zs → Q (.ref r) H'
section
variable {P : Program} {w : World} {K : PySem.W.Frag} {mg : Str → Option Value} {base : Heap}
def lots : List (List Str) := [["x", "y", "z"], ["a", "b", "c"], ["b", "a"], ["aa", "a", "ab", "b"], ["z", "zzzzzzzz", "y"], ["c"]]
instance (z : Str) : Decidable (Nm z) := by unfold Nm; infer_instance
instance (zs : List Str) : Decidable (Holes zs) := by unfold Holes; infer_instance
theorem lots_ok : ∀ zs ∈ lots, Holes zs := by decide +kernel
theorem h_called (T : At K mg "_law_called" s__law_called) (d__law_of : Has P w K mg base 2 "_law_of" s__law_of ["hand", "some"] spOf) :
    Has P w K mg base 3 "_law_called" s__law_called ["hand"] spCalled := by
  refine T.has sc__law_called po__law_called (fun vs H Q E h => ?_) (fun f cdv A outer s H vs Q E hr h => ?_)
  · obtain ⟨a, n, rfl, _⟩ := h; rfl
  obtain ⟨a, n, rfl, hh, hn, q⟩ := h
  have nd := sc__law_called.nd
  refine ⟨_, (pss_cons (ps_set (i := 1) nd rfl (Or.inl rfl) (pe_lst (pa_cons (pe_lst (pa_cons pe_str (pa_cons pe_str (pa_cons pe_str pa_nil)))) (pa_cons (pe_lst (pa_cons pe_str (pa_cons pe_str (pa_cons pe_str pa_nil)))) (pa_cons (pe_lst (pa_cons pe_str (pa_cons pe_str pa_nil))) (pa_cons (pe_lst (pa_cons pe_str (pa_cons pe_str (pa_cons pe_str (pa_cons pe_str pa_nil))))) (pa_cons (pe_lst (pa_cons pe_str (pa_cons pe_str (pa_cons pe_str pa_nil)))) (pa_cons (pe_lst (pa_cons pe_str pa_nil)) pa_nil))))))))
      (pss_one (ps_ret (pe_callD d__law_of (by omega) hr (pa_cons (pv 0) (pa_cons (pv 1) pa_nil)))))), ?_⟩
  refine ⟨szLe rfl, fun p1 h1 => ⟨szLe rfl, fun p2 h2 => ⟨szLe rfl, fun p3 h3 => ⟨szLe rfl, fun p4 h4 => ⟨szLe rfl, fun p5 h5 => ⟨szLe rfl, fun p6 h6 => ⟨szLe rfl, fun p h0 => ?_⟩⟩⟩⟩⟩⟩⟩
  have s1 := Kp.new (ms := []) (o := .lst ((["x", "y", "z"] : List Str).map V.str)) h1
  have s2 := Kp.new (ms := []) (o := .lst ((["a", "b", "c"] : List Str).map V.str)) h2
  have s3 := Kp.new (ms := []) (o := .lst ((["b", "a"] : List Str).map V.str)) h3
  have s4 := Kp.new (ms := []) (o := .lst ((["aa", "a", "ab", "b"] : List Str).map V.str)) h4
  have s5 := Kp.new (ms := []) (o := .lst ((["z", "zzzzzzzz", "y"] : List Str).map V.str)) h5
  have s6 := Kp.new (ms := []) (o := .lst ((["c"] : List Str).map V.str)) h6
  have s0 := Kp.new (ms := []) (o := .lst ([p1, p2, p3, p4, p5, p6].map V.ref)) h0
  have t5 := s5.trans s6
  have t4 := s4.trans t5
  have t3 := s3.trans t4
  have t2 := s2.trans t3
  have all := s1.trans t2
  have hd6 := hh.keep all (by simp)
  have nn : ∀ b : Addr, b ∉ ([] : List Addr) := fun b z => by cases z
  have e1 := (t2.trans s0) p1 _ (nn _) upd_same
  have e2 := (t3.trans s0) p2 _ (nn _) upd_same
  have e3 := (t4.trans s0) p3 _ (nn _) upd_same
  have e4 := (t5.trans s0) p4 _ (nn _) upd_same
  have e5 := (s6.trans s0) p5 _ (nn _) upd_same
  have e6 := s0 p6 _ (nn _) upd_same
  have g1 := h1
  have g2 := s1.free h2 (nn _)
  have g3 := (s1.trans s2).free h3 (nn _)
  have g4 := ((s1.trans s2).trans s3).free h4 (nn _)
  have g5 := (((s1.trans s2).trans s3).trans s4).free h5 (nn _)
  have g6 := ((((s1.trans s2).trans s3).trans s4).trans s5).free h6 (nn _)
  have fin : ∀ (b : Addr) (zs : List Str) (Hf H' : Hp), Kp [] H Hf → Hf b = some (.lst (zs.map V.str)) → zs ∈ lots → H b = none → Kp [a] Hf H' → Hand (n + 1) H' a → Q (.ref b) H' := by
    intro b zs Hf H' hk hb2 hz hb kp hd'
    have nba : b ≠ a := fun e => hh.ne hb e.symm
    exact q b H' zs hb ((hk.wide (by simp)).trans kp) hd' (kp _ _ (by simpa using nba) hb2) (lots_ok zs hz)
  refine ⟨_, rfl, _, rfl, a, .ref p, n, rfl, hd6.new h0, by omega, .inl ⟨p, _, rfl, (hd6.ne h0).symm, upd_same, by simp, by show 6 < 1000000; decide, fun i x H' hx kp hd' => ?_⟩⟩
  have hm := List.mem_of_getElem? hx
  simp only [List.mem_cons, List.not_mem_nil, or_false] at hm
  rcases hm with rfl | rfl | rfl | rfl | rfl | rfl
  · exact fin _ ["x", "y", "z"] _ _ (all.trans s0) e1 (by decide +kernel) g1 kp hd'
  · exact fin _ ["a", "b", "c"] _ _ (all.trans s0) e2 (by decide +kernel) g2 kp hd'
  · exact fin _ ["b", "a"] _ _ (all.trans s0) e3 (by decide +kernel) g3 kp hd'
  · exact fin _ ["aa", "a", "ab", "b"] _ _ (all.trans s0) e4 (by decide +kernel) g4 kp hd'
  · exact fin _ ["z", "zzzzzzzz", "y"] _ _ (all.trans s0) e5 (by decide +kernel) g5 kp hd'
  · exact fin _ ["c"] _ _ (all.trans s0) e6 (by decide +kernel) g6 kp hd'
end
abbrev s__law_tree : Stmt := topS 8
abbrev N__law_tree : List Str := ["hand", "names", "holes", "deep", "name", "many", "one", "k"]
theorem sc__law_tree : FnScope N__law_tree ["hand", "names", "holes", "deep"] (defScope s__law_tree) :=
  ⟨rfl, rfl, rfl, by decide +kernel, rfl, by decide +kernel, by decide +kernel⟩
theorem po__law_tree : Posi "_law_tree" s__law_tree ["hand", "names", "holes", "deep"] := fun _ _ _ _ _ _ us hl => match us, hl with | [_, _, _, _], _ => rfl

def cost : Nat → Nat
  | 0 => 2
  | d + 1 => 2 + 3 * cost d
def most : Nat → Nat
  | 0 => 1
  | d + 1 => 1 + 3 * most d
def spTree (K : PySem.W.Frag) (d : Nat) : Sp := fun vs H Q _ => ∃ (a nm hl : Addr) (zs : List Str) (n : Nat), vs = [.ref a, .ref nm, .ref hl, .int d] ∧ Hand n H a ∧ Names H nm ∧
  H hl = some (.lst (zs.map V.str)) ∧ zs.length ≤ 4 ∧ (∀ z ∈ zs, Nm z) ∧ n + cost d < 900000 ∧ d ≤ 3 ∧
  ∀ (v : V) (H' : Hp) (t : Tr), Kp [a] H H' → Hand (n + cost d) H' a → Dp K H' v t.data → t.ok zs → t.deep ≤ d + 1 → t.size ≤ most d → Q v H'
section
variable {P : Program} {w : World} {K : PySem.W.Frag} {mg : Str → Option Value} {base : Heap}
theorem h_tree1 (d : Nat) (T : At K mg "_law_tree" s__law_tree) (d__law_take : Has P w K mg base 1 "_law_take" s__law_take ["hand", "many"] spTake)
    (d__law_of : Has P w K mg base 2 "_law_of" s__law_of ["hand", "some"] spOf) (mb_range : mg "range" = none) (mb_tuple : mg "tuple" = none) (sp : Sp)
    (hsp : ∀ d', d = d' + 1 → sp = spTree K d')
    (d__law_tree : Has P w K mg base (2 + d) "_law_tree" s__law_tree ["hand", "names", "holes", "deep"] sp) :
    Has P w K mg base (3 + d) "_law_tree" s__law_tree ["hand", "names", "holes", "deep"] (spTree K d) := by
  have e3 : 3 + d = (2 + d) + 1 := by omega
  rw [e3]
  refine T.has sc__law_tree po__law_tree (fun vs H Q E h => ?_) (fun f cdv A outer s H vs Q E hr h => ?_)
  · obtain ⟨a, nm, hl, zs, n, rfl, _⟩ := h; rfl
  obtain ⟨a, nm, hl, zs, n, rfl, hh, hN, hZ, hz4, hZN, hn, hd3, q⟩ := h
  have nd := sc__law_tree.nd
  refine ⟨_, (pss_cons (ps_if (PW.pt (pw_and (pt_cmpR (op_neD hr.units) (pv 2) (pe_lst pa_nil) (nomark _)) (pw_and1 (pt_cmpR op_eq (pe_callD d__law_take (by omega) hr (pa_cons (pv 0) (pa_cons pe_int pa_nil))) pe_int (nomark _))))) (pss_one (ps_ret (pe_callD d__law_of (by omega) hr (pa_cons (pv 0) (pa_cons (pv 2) pa_nil))))) pss_nil)
      (pss_cons (ps_asg (pe_callD d__law_of (by omega) hr (pa_cons (pv 0) (pa_cons (pe_lc (own := [("one", 6)]) (by rfl) nd (pi_list (pv 1)) (blkOk_by (own := [("one", 6)]) (N := N__law_tree) (sc := defScope s__law_tree) (by decide +kernel)) (fun _ _ _ _ _ => (pg_name (i := 6) nd rfl (.inl rfl))) (fun _ _ _ _ _ => (pts_one (PW.pt (pw_or (pt_cmpR op_eq (pe_ix (ixT K) (pv 6) pe_int (fun _ _ => rfl)) pe_int (nomark _)) (pw_or1 (pt_cmpR op_gt (pv 3) pe_int (nomark _))))))) (fun _ _ _ _ _ => (pv 6))) pa_nil))) (pg_tup rfl (pgs_cons (pg_name (i := 4) nd rfl (.inl rfl)) (pgs_cons (pg_name (i := 5) nd rfl (.inl rfl)) pgs_nil))))
      (pss_one (ps_ret (pe_op op_catT (pe_tup (pa_cons (pv 4) pa_nil)) (pe_callTy call_tuple_of (by rfl) mb_tuple (by decide +kernel) (pa_cons (pe_lc (own := [("k", 7)]) (by rfl) nd (pi_range1 (by rfl) mb_range (pa_cons (pv 5) pa_nil)) (blkOk_by (own := [("k", 7)]) (N := N__law_tree) (sc := defScope s__law_tree) (by decide +kernel)) (fun _ _ _ _ _ => (pg_name (i := 7) nd rfl (.inl rfl))) (fun _ _ _ _ _ => pts_nil) (fun _ _ _ _ _ => (pe_callD d__law_tree (by omega) hr (pa_cons (pv 0) (pa_cons (pv 1) (pa_cons (pv 2) (pa_cons (pe_op op_sub (pv 3) pe_int) pa_nil))))))) pa_nil))))))), ?_⟩
  refine ⟨_, rfl, ?_⟩
  refine ⟨szLe rfl, fun e he => ?_⟩
  have fz : Fine 1 36 (.list (zs.map PyData.str)) := by
    refine (finesStrs (m := 8) (fun z hz => ⟨(hZN z hz).sm, (hZN z hz).2.1⟩) 0).list.up (Nat.le_refl _) ?_
    omega
  refine ⟨_, .list [], .lst (SqL.of (Eq.trans (upd_ne (ne_of_none hZ he)) hZ)) (dpStrs zs), .lst (SqL.of upd_same) .nil, fz.shaped (by decide), by decide, _, rfl, ?_⟩
  refine ite2 (fun t1 => ?_) (fun t1 => ?_)
  · have hne : zs ≠ [] := by
      rintro rfl
      simp [PyData.eqv, PyData.eqvAll] at t1
    have nah : ∀ ys, H a ≠ some (.tup ys) := hh.noTup
    have hla0 : hl ≠ a := hh.neL hZ (strNo (f := id) zs)
    refine ⟨_, rfl, a, 3, n, rfl, hh.new he, by omega, by decide, by decide, fun r H1 r0 r1 k1' hd1 => ?_⟩
    have k1 : Kp [a] H H1 := (Kp.new he).trans k1'
    refine ⟨rfl, _, rfl, ite2 (fun c => ?_) (fun c => ?_)⟩
    · have hZ1 : H1 hl = some (.lst (zs.map V.str)) := k1 _ _ (by simpa using hla0) hZ
      refine ⟨_, rfl, _, rfl, a, .ref hl, n + 1, rfl, hd1, by omega, .inl ⟨hl, _, rfl, hla0, hZ1, by simpa using hne, by rw [List.length_map]; omega, fun i x H2 hx k2 hd2 => ?_⟩⟩
      rw [List.getElem?_map] at hx
      obtain ⟨z, hz, rfl⟩ := Option.map_eq_some_iff.mp hx
      have c2 : 2 ≤ cost d := by cases d <;> simp [cost]
      have m2 : 1 ≤ most d := by cases d <;> simp [most]
      refine q _ _ (.h z) (k1.trans k2) (hd2.more (by omega)) ?_ (List.mem_of_getElem? hz) (Nat.zero_le _) (by rw [size_h]; exact m2)
      rw [Tr.data]; exact .str z
    obtain ⟨n1, hn1, hn1'⟩ : ∃ n1, n1 = n + 1 ∧ n1 ≤ n + 1 := ⟨n + 1, rfl, Nat.le_refl _⟩
    rw [← hn1] at hd1
    obtain ⟨ts, hT, hlen, ⟨t0, ht0, f0, hf0⟩, hall⟩ := hN
    have nat : ∀ x ∈ [a], ∀ xs, H x ≠ some (.tup xs) := fun x hx => by rw [List.mem_singleton.mp hx]; exact hh.noTup
    have nma : nm ≠ a := hh.neL hT (refNo ts)
    have hla : hl ≠ a := hh.neL hZ (strNo (f := id) zs)
    have hT1 : H1 nm = some (.lst (ts.map V.ref)) := k1 _ _ (by simpa using nma) hT
    have all1 : ∀ t ∈ ts, ∃ f m, NameAt H1 t f m := fun t ht => by
      obtain ⟨f, m, h⟩ := hall t ht
      exact ⟨f, m, h.keep k1 nat⟩
    have z1 : NameAt H1 t0 f0 0 := hf0.keep k1 nat
    refine ⟨_, rfl, _, rfl, _, rfl, ⟨_, SqL.of hT1⟩, fun D hD => ?_⟩
    refine lc_list (K := K) (a := nm) (xs := ts.map V.ref) (fun i H2 => Kp [] H1 H2 ∧ ∃ us : List Addr, H2 D = some (.lst (us.map V.ref)) ∧ us.length ≤ i ∧ (∀ u ∈ us, u ∈ ts) ∧
      (∀ u ∈ us, ∀ f m, NameAt H1 u f m → m = 0 ∨ 0 < d) ∧ (∀ j, j < i → ts[j]? = some t0 → t0 ∈ us)) ?_ ?_ ?_ ?_
    · exact ⟨Kp.new hD, [], upd_same, Nat.le_refl _, by simp, by simp, by intro j hj; omega⟩
    · rintro i H2 hi ⟨k2, _⟩; exact SqL.of (k2 _ _ (by simp) hT1)
    · rintro i x H2 hx ⟨k2, us, hD2, hul, hu1, hu2, hu3⟩
      rw [List.getElem?_map] at hx
      obtain ⟨t, ht, rfl⟩ := Option.map_eq_some_iff.mp hx
      have htm := List.mem_of_getElem? ht
      have hi : i < 5 := Nat.lt_of_lt_of_le (List.getElem?_eq_some_iff.mp ht).1 hlen
      obtain ⟨f, m, hnm⟩ := all1 t htm
      have hnm2 : H2 t = some (.tup [.str f, .int m]) := k2 _ _ (by simp) hnm.1
      have keepIt : m = 0 ∨ 0 < d → ∃ acc, H2 D = some (.lst acc) ∧ acc.length < sizeLine ∧ Kp [] H1 (upd H2 D (.lst (acc ++ [V.ref t]))) ∧ ∃ us : List Addr, upd H2 D (.lst (acc ++ [V.ref t])) D = some (.lst (us.map V.ref)) ∧ us.length ≤ i + 1 ∧ (∀ u ∈ us, u ∈ ts) ∧
          (∀ u ∈ us, ∀ f m, NameAt H1 u f m → m = 0 ∨ 0 < d) ∧ (∀ j, j < i + 1 → ts[j]? = some t0 → t0 ∈ us) := by
        intro hm
        refine ⟨_, hD2, small1000 (by rw [List.length_map]; omega), k2.put0 hD, us ++ [t], by rw [upd_same, List.map_append]; rfl, by rw [List.length_append, List.length_singleton]; omega, ?_, ?_, ?_⟩
        · intro u hu
          rcases List.mem_append.mp hu with h | h
          · exact hu1 u h
          · rw [List.mem_singleton.mp h]; exact htm
        · intro u hu f' m' h'
          rcases List.mem_append.mp hu with h | h
          · exact hu2 u h f' m' h'
          · rw [List.mem_singleton.mp h] at h'
            have e := h'.1
            rw [hnm.1] at e
            cases e
            exact hm
        · intro j hj e
          rcases Nat.lt_succ_iff_lt_or_eq.mp hj with h | rfl
          · exact List.mem_append_left _ (hu3 j h e)
          · rw [ht] at e; cases e; simp
      refine ⟨rfl, ?_⟩
      refine ⟨_, rfl, _, _, _, _, rfl, rfl, SqT.of hnm2, rfl, rfl, _, rfl, ite2 (fun c1 => ?_) (fun c1 => ?_)⟩
      · have m0 : m = 0 := by simpa using of_decide_eq_true c1
        exact ⟨_, rfl, keepIt (.inl m0)⟩
      · refine ⟨_, rfl, _, _, rfl, rfl, _, rfl, ?_⟩
        refine ite2 (fun c2 => ?_) (fun c2 => ?_)
        · have d0 : (0 : Int) < ((d : Nat) : Int) := of_decide_eq_true c2
          exact ⟨_, rfl, keepIt (.inr (by omega))⟩
        · have m0 : m ≠ 0 := by
            intro e; subst e; exact c1 (by simp)
          refine ⟨k2, us, hD2, by omega, hu1, hu2, fun j hj e => ?_⟩
          rcases Nat.lt_succ_iff_lt_or_eq.mp hj with h | rfl
          · exact hu3 j h e
          · rw [ht] at e; cases e
            have e := hnm.1
            rw [z1.1] at e
            cases e
            exact (m0 rfl).elim
    rintro H2 ⟨k2, us, hD2, hul, hu1, hu2, hu3⟩
    have hne : us ≠ [] := by
      obtain ⟨j, hj⟩ := List.getElem?_of_mem ht0
      have hjl : j < (ts.map V.ref).length := by rw [List.length_map]; exact (List.getElem?_eq_some_iff.mp hj).1
      have := hu3 j hjl hj
      intro e; rw [e] at this; cases this
    have hd2 := hd1.keep k2 (by simp)
    have hDa : D ≠ a := hd2.neL hD2 (refNo us)
    have hlD : hl ≠ D := ne_of_none (k1 _ _ (by simpa using hla) hZ) hD
    have nmD : nm ≠ D := ne_of_none hT1 hD
    refine ⟨a, .ref D, n1, rfl, hd2, by omega, .inl ⟨D, _, rfl, hDa, hD2, by simpa using hne, by rw [List.length_map] at hul ⊢; omega, fun j x H3 hx k3 hd3 => ?_⟩⟩
    rw [List.getElem?_map] at hx
    obtain ⟨u, hu, rfl⟩ := Option.map_eq_some_iff.mp hx
    have hum := List.mem_of_getElem? hu
    obtain ⟨f, m, hnm⟩ := all1 u (hu1 u hum)
    have hmd := hu2 u hum f m hnm
    have hnm2 : H2 u = some (.tup [.str f, .int m]) := k2 _ _ (by simp) hnm.1
    have hnm3 : H3 u = some (.tup [.str f, .int m]) := k3.tup (fun x hx => by rw [List.mem_singleton.mp hx]; exact hd2.noTup) hnm2
    have m0 := hnm.2.2.1
    have m3 := hnm.2.2.2
    refine ⟨_, _, rfl, SqT.of hnm3, rfl, _, _, rfl, _, _, rfl, rfl, ?_⟩
    refine ⟨_, rfl, szLe rfl, fun p hp => ?_⟩
    refine ⟨_, rfl, _, rfl, by omega, by omega, fun D2 hD2n => ?_⟩
    have k23 : Kp [a] H H3 := k1.trans ((k2.wide (by simp)).trans k3)
    have hN3 : Names H3 nm := Names.keep ⟨ts, hT, hlen, ⟨t0, ht0, f0, hf0⟩, hall⟩ k23 (by simpa using nma) nat
    have hZ3 : H3 hl = some (.lst (zs.map V.str)) := k23 _ _ (by simpa using hla) hZ
    have hdp := hd3.new hp (o := .tup [.str f])
    have pa : p ≠ a := (hd3.ne hp).symm
    have D2p : D2 ≠ p := fun e => by rw [e, upd_same] at hD2n; cases hD2n
    have hD23 : H3 D2 = none := Kp.free (ms := []) (Kp.new hp) hD2n (by simp)
    have D2a : D2 ≠ a := (hd3.ne hD23).symm
    have hlp : hl ≠ p := ne_of_none hZ3 hp
    have hlD2 : hl ≠ D2 := ne_of_none hZ3 hD23
    obtain ⟨ts3, hT3, rest3⟩ := id hN3
    have nmp : nm ≠ p := ne_of_none hT3 hp
    have nmD2 : nm ≠ D2 := ne_of_none hT3 hD23
    refine lc_range (lo := 0) (n := m.toNat) (fun i H4 => Kp [a] (upd H3 p (.tup [.str f])) H4 ∧ Hand (n1 + 1 + i * cost (d - 1)) H4 a ∧ ∃ (vs : List V) (us : List Tr), H4 D2 = some (.lst vs) ∧ us.length = i ∧ DpAll K H4 vs (datas us) ∧ oks zs us ∧ deeps us ≤ d ∧ sizes us ≤ i * most (d - 1)) ?_ ?_ ?_
    · refine ⟨Kp.new hD2n, (hdp.new hD2n).more (by omega), [], [], upd_same, rfl, .nil, trivial, Nat.zero_le _, by show 0 ≤ _; omega⟩
    · rintro i H4 hi ⟨k4, hd4, vs, us4, hv4, hlen4, hdp4, hok4, hdeep4, hsz4⟩
      have hm : i < m.toNat := by simpa using hi
      have dpos : 0 < d := by rcases hmd with h | h <;> omega
      obtain ⟨d', rfl⟩ : ∃ d', d = d' + 1 := ⟨d - 1, by omega⟩
      obtain rfl := hsp d' rfl
      have hN4 : Names H4 nm := Names.keep (ms := [a]) (Names.keep (ms := []) hN3 (Kp.new hp) (by simp) (by simp)) k4 (by simpa using nma) (fun x hx => by rw [List.mem_singleton.mp hx]; exact hdp.noTup)
      have hZ4 : H4 hl = some (.lst (zs.map V.str)) := k4 _ _ (by simpa using hla) (by rw [upd_ne hlp]; exact hZ3)
      have hi3 : i < 3 := by omega
      have cost1 : cost (d' + 1) = 2 + 3 * cost d' := rfl
      have ci : i * cost d' + cost d' ≤ 3 * cost d' := by
        have := Nat.mul_le_mul_right (cost d') (show i + 1 ≤ 3 by omega)
        rw [Nat.add_mul, Nat.one_mul] at this
        exact this
      refine ⟨rfl, ?_⟩
      refine ⟨_, rfl, _, rfl, _, rfl, _, rfl, _, _, rfl, rfl, ?_⟩
      refine ⟨a, nm, hl, zs, n1 + 1 + i * cost d', ?_, hd4, hN4, hZ4, hz4, hZN, by omega, by omega, fun v H5 t k5 hd5 hv hok hdeep hsize => ?_⟩
      · show [V.ref a, V.ref nm, V.ref hl, V.int (((d' + 1 : Nat) : Int) - 1)] = _
        rw [show (((d' + 1 : Nat) : Int) - 1) = ((d' : Nat) : Int) by omega]
      have D2not : D2 ∉ [a] := by simpa using D2a
      have hv5 : H5 D2 = some (.lst vs) := k5 _ _ D2not hv4
      refine ⟨vs, hv5, small1000 (by rw [(DpAll.length hdp4), datas_map, List.length_map]; omega), (k4.trans k5).put0 hD2n, ?_, vs ++ [v], us4 ++ [t], upd_same, by rw [List.length_append, hlen4]; rfl, ?_, oks_append hok4 ⟨hok, trivial⟩, ?_, ?_⟩
      · refine (hd5.more ?_).put D2a
        show n1 + 1 + i * cost d' + cost d' ≤ n1 + 1 + (i + 1) * cost (d' + 1 - 1)
        rw [Nat.add_mul]; simp; omega
      · rw [datas_append]
        have old : DpAll K H5 vs (datas us4) := trsKp (ms := [a]) k5 (fun x hx => by rw [List.mem_singleton.mp hx]; exact hd4.loose) us4 hdp4
        exact DpAll.append (trsPut old hv5) (DpAll.one (Tr.put hv hv5))
      · rw [deeps_append]
        have : deeps [t] = t.deep := by simp [deeps]
        omega
      · rw [sizes_append, sizes_cons, sizes_nil, Nat.add_mul]
        show _ ≤ i * most d' + 1 * most d'
        have : sizes us4 ≤ i * most d' := hsz4
        omega
    · rintro H4 ⟨k4, hd4, vs, us4, hv4, hlen4, hdp4, hok4, hdeep4, hsz4⟩
      have hlenm : us4.length = m.toNat := by simpa using hlen4
      have hp4 : H4 p = some (.tup [.str f]) := k4 _ _ (by simpa using pa) upd_same
      have hvl : vs.length ≤ 3 := by rw [(DpAll.length hdp4), datas_map, List.length_map]; omega
      refine ⟨D2, vs, rfl, .inl ⟨SqL.of hv4, fun l hl4 => ?_⟩⟩
      have hpl : p ≠ l := ne_of_none hp4 hl4
      have cost0 : cost d = 2 + (if d = 0 then 0 else 3 * cost (d - 1)) := by cases d <;> simp [cost]
      have most0 : most d = 1 + (if d = 0 then 0 else 3 * most (d - 1)) := by cases d <;> simp [most]
      have em : m.toNat * cost (d - 1) ≤ (if d = 0 then 0 else 3 * cost (d - 1)) := by
        by_cases e : d = 0
        · rw [if_pos e]
          have : m = 0 := by rcases hmd with h | h <;> omega
          rw [this]; simp
        · rw [if_neg e]; exact Nat.mul_le_mul_right _ (by omega)
      have es : m.toNat * most (d - 1) ≤ (if d = 0 then 0 else 3 * most (d - 1)) := by
        by_cases e : d = 0
        · rw [if_pos e]
          have : m = 0 := by rcases hmd with h | h <;> omega
          rw [this]; simp
        · rw [if_neg e]; exact Nat.mul_le_mul_right _ (by omega)


      have hdl : Hand (n + cost d) (upd H4 l (.tup vs)) a := ((hd4.more (by omega)).new hl4)
      have kl : Kp [a] H (upd H4 l (.tup vs)) := ((k23.trans (Kp.new hp)).trans k4).trans (Kp.new hl4)
      have dpl : DpAll K (upd H4 l (.tup vs)) vs (datas us4) := trsNew hdp4 hl4
      have okT : (Tr.n f us4).ok zs := ⟨hnm.2.1, by omega, hok4⟩
      have deepT : (Tr.n f us4).deep ≤ d + 1 := Nat.succ_le_succ hdeep4
      have sizeT : (Tr.n f us4).size ≤ most d := by rw [size_n]; omega
      refine ⟨p, l, _, _, rfl, rfl, SqT.of (by rw [upd_ne hpl]; exact hp4), SqT.of upd_same, by simp, by show 1 + vs.length ≤ sizeLine; exact Nat.le_trans (by omega) (szLe (n := 4) rfl), fun e => ?_, fun e r hr4 => ?_⟩
      · refine q _ _ (.n f us4) kl hdl ?_ okT deepT sizeT
        rw [Tr.data]
        have hus : us4 = [] := by
          have := (DpAll.length hdp4)
          rw [e, datas_map, List.length_map] at this
          exact List.length_eq_zero_iff.mp this.symm
        subst hus
        exact .tup (SqT.of (by rw [upd_ne hpl]; exact hp4)) (.cons (.str f) .nil)
      · refine q _ _ (.n f us4) (kl.trans (Kp.new hr4)) (hdl.new hr4) ?_ okT deepT sizeT
        rw [Tr.data]
        exact .tup (SqT.of upd_same) (.cons (.str f) (trsNew dpl hr4))
  · have k1 : Kp [a] H (upd H e (.lst [])) := Kp.new he
    have hd1 := hh.new he (o := .lst [])
    generalize upd H e (.lst []) = H1 at k1 hd1 ⊢
    obtain ⟨n1, hn1, hn1'⟩ : ∃ n1, n1 = n ∧ n1 ≤ n + 1 := ⟨n, rfl, by omega⟩
    rw [← hn1] at hd1
    obtain ⟨ts, hT, hlen, ⟨t0, ht0, f0, hf0⟩, hall⟩ := hN
    have nat : ∀ x ∈ [a], ∀ xs, H x ≠ some (.tup xs) := fun x hx => by rw [List.mem_singleton.mp hx]; exact hh.noTup
    have nma : nm ≠ a := hh.neL hT (refNo ts)
    have hla : hl ≠ a := hh.neL hZ (strNo (f := id) zs)
    have hT1 : H1 nm = some (.lst (ts.map V.ref)) := k1 _ _ (by simpa using nma) hT
    have all1 : ∀ t ∈ ts, ∃ f m, NameAt H1 t f m := fun t ht => by
      obtain ⟨f, m, h⟩ := hall t ht
      exact ⟨f, m, h.keep k1 nat⟩
    have z1 : NameAt H1 t0 f0 0 := hf0.keep k1 nat
    refine ⟨_, rfl, _, rfl, _, rfl, ⟨_, SqL.of hT1⟩, fun D hD => ?_⟩
    refine lc_list (K := K) (a := nm) (xs := ts.map V.ref) (fun i H2 => Kp [] H1 H2 ∧ ∃ us : List Addr, H2 D = some (.lst (us.map V.ref)) ∧ us.length ≤ i ∧ (∀ u ∈ us, u ∈ ts) ∧
      (∀ u ∈ us, ∀ f m, NameAt H1 u f m → m = 0 ∨ 0 < d) ∧ (∀ j, j < i → ts[j]? = some t0 → t0 ∈ us)) ?_ ?_ ?_ ?_
    · exact ⟨Kp.new hD, [], upd_same, Nat.le_refl _, by simp, by simp, by intro j hj; omega⟩
    · rintro i H2 hi ⟨k2, _⟩; exact SqL.of (k2 _ _ (by simp) hT1)
    · rintro i x H2 hx ⟨k2, us, hD2, hul, hu1, hu2, hu3⟩
      rw [List.getElem?_map] at hx
      obtain ⟨t, ht, rfl⟩ := Option.map_eq_some_iff.mp hx
      have htm := List.mem_of_getElem? ht
      have hi : i < 5 := Nat.lt_of_lt_of_le (List.getElem?_eq_some_iff.mp ht).1 hlen
      obtain ⟨f, m, hnm⟩ := all1 t htm
      have hnm2 : H2 t = some (.tup [.str f, .int m]) := k2 _ _ (by simp) hnm.1
      have keepIt : m = 0 ∨ 0 < d → ∃ acc, H2 D = some (.lst acc) ∧ acc.length < sizeLine ∧ Kp [] H1 (upd H2 D (.lst (acc ++ [V.ref t]))) ∧ ∃ us : List Addr, upd H2 D (.lst (acc ++ [V.ref t])) D = some (.lst (us.map V.ref)) ∧ us.length ≤ i + 1 ∧ (∀ u ∈ us, u ∈ ts) ∧
          (∀ u ∈ us, ∀ f m, NameAt H1 u f m → m = 0 ∨ 0 < d) ∧ (∀ j, j < i + 1 → ts[j]? = some t0 → t0 ∈ us) := by
        intro hm
        refine ⟨_, hD2, small1000 (by rw [List.length_map]; omega), k2.put0 hD, us ++ [t], by rw [upd_same, List.map_append]; rfl, by rw [List.length_append, List.length_singleton]; omega, ?_, ?_, ?_⟩
        · intro u hu
          rcases List.mem_append.mp hu with h | h
          · exact hu1 u h
          · rw [List.mem_singleton.mp h]; exact htm
        · intro u hu f' m' h'
          rcases List.mem_append.mp hu with h | h
          · exact hu2 u h f' m' h'
          · rw [List.mem_singleton.mp h] at h'
            have e := h'.1
            rw [hnm.1] at e
            cases e
            exact hm
        · intro j hj e
          rcases Nat.lt_succ_iff_lt_or_eq.mp hj with h | rfl
          · exact List.mem_append_left _ (hu3 j h e)
          · rw [ht] at e; cases e; simp
      refine ⟨rfl, ?_⟩
      refine ⟨_, rfl, _, _, _, _, rfl, rfl, SqT.of hnm2, rfl, rfl, _, rfl, ite2 (fun c1 => ?_) (fun c1 => ?_)⟩
      · have m0 : m = 0 := by simpa using of_decide_eq_true c1
        exact ⟨_, rfl, keepIt (.inl m0)⟩
      · refine ⟨_, rfl, _, _, rfl, rfl, _, rfl, ?_⟩
        refine ite2 (fun c2 => ?_) (fun c2 => ?_)
        · have d0 : (0 : Int) < ((d : Nat) : Int) := of_decide_eq_true c2
          exact ⟨_, rfl, keepIt (.inr (by omega))⟩
        · have m0 : m ≠ 0 := by
            intro e; subst e; exact c1 (by simp)
          refine ⟨k2, us, hD2, by omega, hu1, hu2, fun j hj e => ?_⟩
          rcases Nat.lt_succ_iff_lt_or_eq.mp hj with h | rfl
          · exact hu3 j h e
          · rw [ht] at e; cases e
            have e := hnm.1
            rw [z1.1] at e
            cases e
            exact (m0 rfl).elim
    rintro H2 ⟨k2, us, hD2, hul, hu1, hu2, hu3⟩
    have hne : us ≠ [] := by
      obtain ⟨j, hj⟩ := List.getElem?_of_mem ht0
      have hjl : j < (ts.map V.ref).length := by rw [List.length_map]; exact (List.getElem?_eq_some_iff.mp hj).1
      have := hu3 j hjl hj
      intro e; rw [e] at this; cases this
    have hd2 := hd1.keep k2 (by simp)
    have hDa : D ≠ a := hd2.neL hD2 (refNo us)
    have hlD : hl ≠ D := ne_of_none (k1 _ _ (by simpa using hla) hZ) hD
    have nmD : nm ≠ D := ne_of_none hT1 hD
    refine ⟨a, .ref D, n1, rfl, hd2, by omega, .inl ⟨D, _, rfl, hDa, hD2, by simpa using hne, by rw [List.length_map] at hul ⊢; omega, fun j x H3 hx k3 hd3 => ?_⟩⟩
    rw [List.getElem?_map] at hx
    obtain ⟨u, hu, rfl⟩ := Option.map_eq_some_iff.mp hx
    have hum := List.mem_of_getElem? hu
    obtain ⟨f, m, hnm⟩ := all1 u (hu1 u hum)
    have hmd := hu2 u hum f m hnm
    have hnm2 : H2 u = some (.tup [.str f, .int m]) := k2 _ _ (by simp) hnm.1
    have hnm3 : H3 u = some (.tup [.str f, .int m]) := k3.tup (fun x hx => by rw [List.mem_singleton.mp hx]; exact hd2.noTup) hnm2
    have m0 := hnm.2.2.1
    have m3 := hnm.2.2.2
    refine ⟨_, _, rfl, SqT.of hnm3, rfl, _, _, rfl, _, _, rfl, rfl, ?_⟩
    refine ⟨_, rfl, szLe rfl, fun p hp => ?_⟩
    refine ⟨_, rfl, _, rfl, by omega, by omega, fun D2 hD2n => ?_⟩
    have k23 : Kp [a] H H3 := k1.trans ((k2.wide (by simp)).trans k3)
    have hN3 : Names H3 nm := Names.keep ⟨ts, hT, hlen, ⟨t0, ht0, f0, hf0⟩, hall⟩ k23 (by simpa using nma) nat
    have hZ3 : H3 hl = some (.lst (zs.map V.str)) := k23 _ _ (by simpa using hla) hZ
    have hdp := hd3.new hp (o := .tup [.str f])
    have pa : p ≠ a := (hd3.ne hp).symm
    have D2p : D2 ≠ p := fun e => by rw [e, upd_same] at hD2n; cases hD2n
    have hD23 : H3 D2 = none := Kp.free (ms := []) (Kp.new hp) hD2n (by simp)
    have D2a : D2 ≠ a := (hd3.ne hD23).symm
    have hlp : hl ≠ p := ne_of_none hZ3 hp
    have hlD2 : hl ≠ D2 := ne_of_none hZ3 hD23
    obtain ⟨ts3, hT3, rest3⟩ := id hN3
    have nmp : nm ≠ p := ne_of_none hT3 hp
    have nmD2 : nm ≠ D2 := ne_of_none hT3 hD23
    refine lc_range (lo := 0) (n := m.toNat) (fun i H4 => Kp [a] (upd H3 p (.tup [.str f])) H4 ∧ Hand (n1 + 1 + i * cost (d - 1)) H4 a ∧ ∃ (vs : List V) (us : List Tr), H4 D2 = some (.lst vs) ∧ us.length = i ∧ DpAll K H4 vs (datas us) ∧ oks zs us ∧ deeps us ≤ d ∧ sizes us ≤ i * most (d - 1)) ?_ ?_ ?_
    · refine ⟨Kp.new hD2n, (hdp.new hD2n).more (by omega), [], [], upd_same, rfl, .nil, trivial, Nat.zero_le _, by show 0 ≤ _; omega⟩
    · rintro i H4 hi ⟨k4, hd4, vs, us4, hv4, hlen4, hdp4, hok4, hdeep4, hsz4⟩
      have hm : i < m.toNat := by simpa using hi
      have dpos : 0 < d := by rcases hmd with h | h <;> omega
      obtain ⟨d', rfl⟩ : ∃ d', d = d' + 1 := ⟨d - 1, by omega⟩
      obtain rfl := hsp d' rfl
      have hN4 : Names H4 nm := Names.keep (ms := [a]) (Names.keep (ms := []) hN3 (Kp.new hp) (by simp) (by simp)) k4 (by simpa using nma) (fun x hx => by rw [List.mem_singleton.mp hx]; exact hdp.noTup)
      have hZ4 : H4 hl = some (.lst (zs.map V.str)) := k4 _ _ (by simpa using hla) (by rw [upd_ne hlp]; exact hZ3)
      have hi3 : i < 3 := by omega
      have cost1 : cost (d' + 1) = 2 + 3 * cost d' := rfl
      have ci : i * cost d' + cost d' ≤ 3 * cost d' := by
        have := Nat.mul_le_mul_right (cost d') (show i + 1 ≤ 3 by omega)
        rw [Nat.add_mul, Nat.one_mul] at this
        exact this
      refine ⟨rfl, ?_⟩
      refine ⟨_, rfl, _, rfl, _, rfl, _, rfl, _, _, rfl, rfl, ?_⟩
      refine ⟨a, nm, hl, zs, n1 + 1 + i * cost d', ?_, hd4, hN4, hZ4, hz4, hZN, by omega, by omega, fun v H5 t k5 hd5 hv hok hdeep hsize => ?_⟩
      · show [V.ref a, V.ref nm, V.ref hl, V.int (((d' + 1 : Nat) : Int) - 1)] = _
        rw [show (((d' + 1 : Nat) : Int) - 1) = ((d' : Nat) : Int) by omega]
      have D2not : D2 ∉ [a] := by simpa using D2a
      have hv5 : H5 D2 = some (.lst vs) := k5 _ _ D2not hv4
      refine ⟨vs, hv5, small1000 (by rw [(DpAll.length hdp4), datas_map, List.length_map]; omega), (k4.trans k5).put0 hD2n, ?_, vs ++ [v], us4 ++ [t], upd_same, by rw [List.length_append, hlen4]; rfl, ?_, oks_append hok4 ⟨hok, trivial⟩, ?_, ?_⟩
      · refine (hd5.more ?_).put D2a
        show n1 + 1 + i * cost d' + cost d' ≤ n1 + 1 + (i + 1) * cost (d' + 1 - 1)
        rw [Nat.add_mul]; simp; omega
      · rw [datas_append]
        have old : DpAll K H5 vs (datas us4) := trsKp (ms := [a]) k5 (fun x hx => by rw [List.mem_singleton.mp hx]; exact hd4.loose) us4 hdp4
        exact DpAll.append (trsPut old hv5) (DpAll.one (Tr.put hv hv5))
      · rw [deeps_append]
        have : deeps [t] = t.deep := by simp [deeps]
        omega
      · rw [sizes_append, sizes_cons, sizes_nil, Nat.add_mul]
        show _ ≤ i * most d' + 1 * most d'
        have : sizes us4 ≤ i * most d' := hsz4
        omega
    · rintro H4 ⟨k4, hd4, vs, us4, hv4, hlen4, hdp4, hok4, hdeep4, hsz4⟩
      have hlenm : us4.length = m.toNat := by simpa using hlen4
      have hp4 : H4 p = some (.tup [.str f]) := k4 _ _ (by simpa using pa) upd_same
      have hvl : vs.length ≤ 3 := by rw [(DpAll.length hdp4), datas_map, List.length_map]; omega
      refine ⟨D2, vs, rfl, .inl ⟨SqL.of hv4, fun l hl4 => ?_⟩⟩
      have hpl : p ≠ l := ne_of_none hp4 hl4
      have cost0 : cost d = 2 + (if d = 0 then 0 else 3 * cost (d - 1)) := by cases d <;> simp [cost]
      have most0 : most d = 1 + (if d = 0 then 0 else 3 * most (d - 1)) := by cases d <;> simp [most]
      have em : m.toNat * cost (d - 1) ≤ (if d = 0 then 0 else 3 * cost (d - 1)) := by
        by_cases e : d = 0
        · rw [if_pos e]
          have : m = 0 := by rcases hmd with h | h <;> omega
          rw [this]; simp
        · rw [if_neg e]; exact Nat.mul_le_mul_right _ (by omega)
      have es : m.toNat * most (d - 1) ≤ (if d = 0 then 0 else 3 * most (d - 1)) := by
        by_cases e : d = 0
        · rw [if_pos e]
          have : m = 0 := by rcases hmd with h | h <;> omega
          rw [this]; simp
        · rw [if_neg e]; exact Nat.mul_le_mul_right _ (by omega)


      have hdl : Hand (n + cost d) (upd H4 l (.tup vs)) a := ((hd4.more (by omega)).new hl4)
      have kl : Kp [a] H (upd H4 l (.tup vs)) := ((k23.trans (Kp.new hp)).trans k4).trans (Kp.new hl4)
      have dpl : DpAll K (upd H4 l (.tup vs)) vs (datas us4) := trsNew hdp4 hl4
      have okT : (Tr.n f us4).ok zs := ⟨hnm.2.1, by omega, hok4⟩
      have deepT : (Tr.n f us4).deep ≤ d + 1 := Nat.succ_le_succ hdeep4
      have sizeT : (Tr.n f us4).size ≤ most d := by rw [size_n]; omega
      refine ⟨p, l, _, _, rfl, rfl, SqT.of (by rw [upd_ne hpl]; exact hp4), SqT.of upd_same, by simp, by show 1 + vs.length ≤ sizeLine; exact Nat.le_trans (by omega) (szLe (n := 4) rfl), fun e => ?_, fun e r hr4 => ?_⟩
      · refine q _ _ (.n f us4) kl hdl ?_ okT deepT sizeT
        rw [Tr.data]
        have hus : us4 = [] := by
          have := (DpAll.length hdp4)
          rw [e, datas_map, List.length_map] at this
          exact List.length_eq_zero_iff.mp this.symm
        subst hus
        exact .tup (SqT.of (by rw [upd_ne hpl]; exact hp4)) (.cons (.str f) .nil)
      · refine q _ _ (.n f us4) (kl.trans (Kp.new hr4)) (hdl.new hr4) ?_ okT deepT sizeT
        rw [Tr.data]
        exact .tup (SqT.of upd_same) (.cons (.str f) (trsNew dpl hr4))
theorem h_tree (T : At K mg "_law_tree" s__law_tree) (d__law_take : Has P w K mg base 1 "_law_take" s__law_take ["hand", "many"] spTake)
    (d__law_of : Has P w K mg base 2 "_law_of" s__law_of ["hand", "some"] spOf) (mb_range : mg "range" = none) (mb_tuple : mg "tuple" = none) :
    ∀ d : Nat, Has P w K mg base (3 + d) "_law_tree" s__law_tree ["hand", "names", "holes", "deep"] (spTree K d)
  | 0 => h_tree1 0 T d__law_take d__law_of mb_range mb_tuple (fun _ _ _ _ => False) (fun d' e => by omega) (Has.none T po__law_tree fun _ _ _ _ h => h)
  | d + 1 => h_tree1 (d + 1) T d__law_take d__law_of mb_range mb_tuple (spTree K d) (fun d' e => by cases e; rfl)
      ((h_tree T d__law_take d__law_of mb_range mb_tuple d).up (by omega))
end
end Ah
namespace Ah
open PySem PySem.Spec PyProof.Rows L2
local macro_rules | `(tactic| walk_at "side") => `(tactic| first | omega | decide | (dsimp only; omega) | (unfold CDivN; omega) | (unfold CMul; omega) | (unfold CPow; omega) | (unfold CPow; decide) | (unfold CMulW; decide) | exact szLe rfl | rfl)
local macro_rules | `(tactic| walk_at "here") => `(tactic| first | assumption | exact upd_same)
local macro_rules | `(tactic| walk_at "go") => `(tactic| repeat (first
  | (refine ⟨_, rfl, ?_⟩)
  | (refine ⟨_, _, rfl, rfl, ?_⟩)
  | (refine ⟨_, _, _, _, rfl, rfl, SqL.of (by walk_at "here"), rfl, ?_⟩)
  | (refine ⟨_, _, _, _, rfl, rfl, (by walk_at "here"), rfl, ?_⟩)
  | (refine ⟨_, _, rfl, ?_⟩)
  | (refine And.intro (by walk_at "side") ?_)))

abbrev s_is_hole : Stmt := topS 1
abbrev N_is_hole : List Str := ["tree"]
theorem sc_is_hole : FnScope N_is_hole ["tree"] (defScope s_is_hole) :=
  ⟨rfl, rfl, rfl, by decide +kernel, rfl, by decide +kernel, by decide +kernel⟩
theorem po_is_hole : Posi "is_hole" s_is_hole ["tree"] := fun _ _ _ _ _ _ us hl => match us, hl with | [_], _ => rfl

def isH : Tr → Bool
  | .h _ => true
  | .n _ _ => false
def spIsHole (K : PySem.W.Frag) : Sp := fun vs H Q _ => ∃ (v : V) (t : Tr), vs = [v] ∧ Dp K H v t.data ∧ Q (.bl (isH t)) H
section
variable {P : Program} {w : World} {K : PySem.W.Frag} {mg : Str → Option Value} {base : Heap}
theorem h_is_hole (T : At K mg "is_hole" s_is_hole) (mb_type : mg "type" = none) (mb_str : mg "str" = none) :
    Has P w K mg base 1 "is_hole" s_is_hole ["tree"] (spIsHole K) := by
  refine T.has sc_is_hole po_is_hole (fun vs H Q E h => ?_) (fun f cdv A outer s H vs Q E hr h => ?_)
  · obtain ⟨a, n, rfl, _⟩ := h; rfl
  obtain ⟨v, t, rfl, hv, q⟩ := h
  have nd := sc_is_hole.nd
  refine ⟨_, (pss_one (ps_ret (pe_cmpR op_isTyB (pe_callTy call_type1 (by rfl) mb_type (by decide +kernel) (pa_cons (pv 0) pa_nil)) (pe_ty_str mb_str) (nomark _)))), ?_⟩
  cases t with
  | h z =>
    rw [Tr.data] at hv
    cases hv
    exact ⟨_, rfl, _, "str", rfl, .str z, _, _, rfl, rfl, q⟩
  | n f ps =>
    rw [Tr.data] at hv
    cases hv with
    | tup h1 h2 => exact ⟨_, rfl, _, "tuple", rfl, .tup h1, _, _, rfl, rfl, q⟩
end
end Ah
namespace Ah
open PySem PySem.Spec PyProof.Rows L2
local macro_rules | `(tactic| walk_at "side") => `(tactic| first | omega | decide | (dsimp only; omega) | (unfold CDivN; omega) | (unfold CMul; omega) | (unfold CPow; omega) | (unfold CPow; decide) | (unfold CMulW; decide) | exact szLe rfl | rfl)
local macro_rules | `(tactic| walk_at "here") => `(tactic| first | assumption | exact upd_same)
local macro_rules | `(tactic| walk_at "go") => `(tactic| repeat (first
  | (refine ⟨_, rfl, ?_⟩)
  | (refine ⟨_, _, rfl, rfl, ?_⟩)
  | (refine ⟨_, _, _, _, rfl, rfl, SqL.of (by walk_at "here"), rfl, ?_⟩)
  | (refine ⟨_, _, _, _, rfl, rfl, (by walk_at "here"), rfl, ?_⟩)
  | (refine ⟨_, _, rfl, ?_⟩)
  | (refine And.intro (by walk_at "side") ?_)))

abbrev s_tree_at : Stmt := topS 2
abbrev N_tree_at : List Str := ["tree", "place", "here", "number"]
theorem sc_tree_at : FnScope N_tree_at ["tree", "place"] (defScope s_tree_at) :=
  ⟨rfl, rfl, rfl, by decide +kernel, rfl, by decide +kernel, by decide +kernel⟩
theorem po_tree_at : Posi "tree_at" s_tree_at ["tree", "place"] := fun _ _ _ _ _ _ us hl => match us, hl with | [_, _], _ => rfl

def spTreeAt (K : PySem.W.Frag) : Sp := fun vs H Q _ => ∃ (v x : V) (t : Tr), vs = [v, x] ∧ Dp K H v t.data ∧
  ((∃ d, Dp K H x d ∧ ∀ r, AtV K H r (atD t d) → Q r H) ∨ (∃ p kvs, x = .ref p ∧ H p = some (.dK kvs) ∧ Q .non H))
section
variable {P : Program} {w : World} {K : PySem.W.Frag} {mg : Str → Option Value} {base : Heap}
theorem h_tree_at (T : At K mg "tree_at" s_tree_at) (d_is_hole : Has P w K mg base 1 "is_hole" s_is_hole ["tree"] (spIsHole K))
    (mb_type : mg "type" = none) (mb_tuple : mg "tuple" = none) (mb_int : mg "int" = none) (mb_len : mg "len" = none) :
    Has P w K mg base 2 "tree_at" s_tree_at ["tree", "place"] (spTreeAt K) := by
  refine T.has sc_tree_at po_tree_at (fun vs H Q E h => ?_) (fun f cdv A outer s H vs Q E hr h => ?_)
  · obtain ⟨v, x, t, rfl, _⟩ := h; rfl
  obtain ⟨v, x, t, rfl, hv, h⟩ := h
  have nd := sc_tree_at.nd
  refine ⟨_, (pss_cons (ps_if (pt_cmpR op_notTyB (pe_callTy call_type1 (by rfl) mb_type (by decide +kernel) (pa_cons (pv 1) pa_nil)) (pe_ty_tuple mb_tuple) (nomark _)) (pss_one (ps_ret pe_non)) pss_nil)
      (pss_cons (ps_set (i := 2) nd rfl (Or.inl rfl) (pv 0))
      (pss_cons (ps_for PassesOwn.never rfl (pi_tup (pv 1)) (pg_name (i := 3) nd rfl (.inl rfl)) (pss_cons (ps_if (PW.pt (pw_or (pt_cmpR op_notTyB (pe_callTy call_type1 (by rfl) mb_type (by decide +kernel) (pa_cons (pv 3) pa_nil)) (pe_ty_int mb_int) (nomark _)) (pw_or (pt_val (pe_callD d_is_hole (by omega) hr (pa_cons (pv 2) pa_nil))) (pw_or1 (pt_not (pt_chain op_le op_lt pe_int (pv 3) (pe_op op_sub (pe_callB call_len_seq (by rfl) mb_len (by decide +kernel) (pa_cons (pv 2) pa_nil)) pe_int))))))) (pss_one (ps_ret pe_non)) pss_nil)
      (pss_one (ps_set (i := 2) nd rfl (Or.inl rfl) (pe_ix ix_tup (pv 2) (pe_op op_add (pv 3) pe_int) (fun _ _ => rfl))))))
      (pss_one (ps_ret (pv 2)))))), ?_⟩
  rcases h with ⟨d, hd, q⟩ | ⟨p, kvs, rfl, hp, q⟩
  · cases hk : decide (kindD d = "tuple") with
    | false =>
      have hk' : kindD d ≠ "tuple" := of_decide_eq_false hk
      refine ⟨_, rfl, _, _, rfl, tyD hd, _, _, rfl, rfl, _, rfl, ?_⟩
      rw [hk]
      refine q .non ?_
      cases d <;> first | rfl | exact (hk' rfl).elim
    | true =>
      have hk' : kindD d = "tuple" := of_decide_eq_true hk
      refine ⟨_, rfl, _, _, rfl, tyD hd, _, _, rfl, rfl, _, rfl, ?_⟩
      rw [hk]
      cases hd with
      | non => simp [kindD] at hk'
      | bl => simp [kindD] at hk'
      | int => simp [kindD] at hk'
      | str => simp [kindD] at hk'
      | lst => simp [kindD] at hk'
      | @tup a xs ds h1 h2 =>
        refine ⟨_, rfl, ?_⟩
        refine ⟨_, rfl, a, rfl, ⟨_, h1⟩, ?_⟩
        refine for_tup (K := K) (a := a) (xs := xs) (fun i σ H2 => H2 = H ∧ ∃ (here : V) (u : Tr) (x3 : Option V), σ = [some v, some (.ref a), some here, x3] ∧ Dp K H here u.data ∧ walk t ds = walk u (ds.drop i)) ?_ ?_ ?_ ?_
        · exact ⟨rfl, v, t, none, rfl, hv, rfl⟩
        · rintro i σ H2 _ ⟨rfl, _⟩; exact h1
        · rintro i y σ H2 hy ⟨rfl, here, u, x3, rfl, hu, hw⟩
          obtain ⟨e, he, hye⟩ := DpAll.get h2 hy
          have hi := (List.getElem?_eq_some_iff.mp he).1
          have hdrop : ds.drop i = e :: ds.drop (i + 1) := by
            rw [List.drop_eq_getElem_cons hi, (List.getElem?_eq_some_iff.mp he).2]
          rw [hdrop] at hw
          refine ⟨_, rfl, _, _, rfl, tyD hye, _, _, rfl, rfl, _, rfl, ?_⟩
          cases ht : decide (kindD e = "int") with
          | false =>
            have hk2 : kindD e ≠ "int" := of_decide_eq_false ht
            refine q .non ?_
            have : walk u (e :: ds.drop (i + 1)) = none := by
              cases u <;> cases e <;> first | rfl | exact (hk2 rfl).elim
            show AtV K H2 .non (walk t ds)
            rw [hw, this]; rfl
          | true =>
            have hk2 : kindD e = "int" := of_decide_eq_true ht
            obtain ⟨n, rfl⟩ : ∃ n, e = .int n := by
              cases e <;> first | exact ⟨_, rfl⟩ | simp [kindD] at hk2
            cases hye
            refine ⟨_, rfl, here, u, rfl, hu, _, rfl, ?_⟩
            cases u with
            | h z =>
              refine q .non ?_
              show AtV K H2 .non (walk t ds)
              rw [hw]; rfl
            | n f ps =>
              rw [Tr.data] at hu
              cases hu with
              | @tup b ys _ g1 g2 =>
                cases g2 with
                | @cons _ ws _ _ g3 g4 =>
                  cases g3
                  have hwl : ws.length = ps.length := by rw [DpAll.length g4, datas_map, List.length_map]
                  refine ⟨_, rfl, _, _, rfl, rfl, _, rfl, ?_⟩
                  refine ite2 (fun c => ?_) (fun c => ?_)
                  · have n0 : 0 ≤ n := of_decide_eq_true c
                    refine ⟨_, rfl, b, _, rfl, .inr g1, _, _, rfl, rfl, _, _, rfl, rfl, _, rfl, ?_⟩
                    have el : (((V.str f :: ws).length : Nat) : Int) - 1 = (ws.length : Int) := by rw [List.length_cons]; omega
                    rw [el]
                    by_cases hlt : n < (ws.length : Int)
                    · rw [decide_eq_true hlt]
                      have hn : n.toNat < ps.length := by omega
                      have hnw : n.toNat < ws.length := by omega
                      have eat : atI (V.str f :: ws) (n + 1) = some ws[n.toNat] := by
                        have z : (n + 1 : Int) = ((n.toNat + 1 : Nat) : Int) := by omega
                        rw [z]
                        exact atI_nat (by rw [List.getElem?_cons_succ, List.getElem?_eq_getElem hnw])
                      refine ⟨_, rfl, _, rfl, _, _, rfl, rfl, b, _, _, _, rfl, rfl, g1, eat, ?_⟩
                      obtain ⟨e2, he2, hx2⟩ := DpAll.get g4 (List.getElem?_eq_getElem hnw)
                      rw [datas_map, List.getElem?_map, List.getElem?_eq_getElem hn] at he2
                      cases he2
                      refine ⟨rfl, _, ps[n.toNat], _, rfl, hx2, ?_⟩
                      rw [hw]
                      show (if 0 ≤ n then match ps[n.toNat]? with | some u => walk u (ds.drop (i + 1)) | none => none else none) = _
                      rw [if_pos n0, List.getElem?_eq_getElem hn]
                    · rw [decide_eq_false hlt]
                      refine q .non ?_
                      show AtV K H2 .non (walk t ds)
                      rw [hw]
                      show AtV K H2 .non (if 0 ≤ n then match ps[n.toNat]? with | some u => walk u (ds.drop (i + 1)) | none => none else none)
                      rw [if_pos n0, List.getElem?_eq_none_iff.mpr (by omega)]; rfl
                  · have n0 : ¬ 0 ≤ n := of_decide_eq_false (Bool.eq_false_iff.mpr c)
                    refine ⟨_, rfl, q .non ?_⟩
                    show AtV K H2 .non (walk t ds)
                    rw [hw]
                    show AtV K H2 .non (if 0 ≤ n then match ps[n.toNat]? with | some u => walk u (ds.drop (i + 1)) | none => none else none)
                    rw [if_neg n0]; rfl
        · rintro σ H2 ⟨rfl, here, u, x3, rfl, hu, hw⟩
          have hl : xs.length = ds.length := DpAll.length h2
          rw [hl, List.drop_length] at hw
          refine ⟨_, rfl, q here ?_⟩
          show AtV K H2 here (walk t ds)
          rw [hw]
          cases u <;> exact hu
  · refine ⟨_, rfl, _, _, rfl, .dK hp, _, _, rfl, rfl, _, rfl, q⟩
end
end Ah
namespace Ah
open PySem PySem.Spec PyProof.Rows L2
local macro_rules | `(tactic| walk_at "side") => `(tactic| first | omega | decide | (dsimp only; omega) | (unfold CDivN; omega) | (unfold CMul; omega) | (unfold CPow; omega) | (unfold CPow; decide) | (unfold CMulW; decide) | exact szLe rfl | rfl)
local macro_rules | `(tactic| walk_at "here") => `(tactic| first | assumption | exact upd_same)
local macro_rules | `(tactic| walk_at "go") => `(tactic| repeat (first
  | (refine ⟨_, rfl, ?_⟩)
  | (refine ⟨_, _, rfl, rfl, ?_⟩)
  | (refine ⟨_, _, _, _, rfl, rfl, SqL.of (by walk_at "here"), rfl, ?_⟩)
  | (refine ⟨_, _, _, _, rfl, rfl, (by walk_at "here"), rfl, ?_⟩)
  | (refine ⟨_, _, rfl, ?_⟩)
  | (refine And.intro (by walk_at "side") ?_)))

abbrev s__law_places : Stmt := topS 10
abbrev N__law_places : List Str := ["shape", "found", "k", "limb", "spot", "one"]
theorem sc__law_places : FnScope N__law_places ["shape"] (defScope s__law_places) :=
  ⟨rfl, rfl, rfl, by decide +kernel, rfl, by decide +kernel, by decide +kernel⟩
theorem po__law_places : Posi "_law_places" s__law_places ["shape"] := fun _ _ _ _ _ _ us hl => match us, hl with | [_], _ => rfl

def spPlaces (K : PySem.W.Frag) (d : Nat) : Sp := fun vs H Q _ => ∃ (v : V) (t : Tr), vs = [v] ∧ Dp K H v t.data ∧ t.deep ≤ d ∧ t.size ≤ 1000 ∧
  ∀ (r : Addr) (H' : Hp) (us : List V), H r = none → Kp [] H H' → H' r = some (.lst us) → DpAll K H' us (t.spots.map pairD) → Q (.ref r) H'
section
variable {P : Program} {w : World} {K : PySem.W.Frag} {mg : Str → Option Value} {base : Heap}
theorem kpsN {ds : List (List Nat × Tr)} {vs : List V} {H H' : Hp} (h : DpAll K H vs (ds.map pairD)) (k : Kp [] H H') : DpAll K H' vs (ds.map pairD) :=
  Dps.kpF k (fun m z => by cases z) _ (noLs_all fun d hd => by obtain ⟨q, _, rfl⟩ := List.mem_map.mp hd; exact pairD_noL q) h
theorem kpsP {ds : List (List Nat × Tr)} {vs l : List V} {H : Hp} {o : HO} {p : Addr} (h : DpAll K H vs (ds.map pairD)) (hp : H p = some (.lst l)) : DpAll K (upd H p o) vs (ds.map pairD) :=
  Dps.kpF (ms := [p]) (Kp.put (by simp)) (fun m z => by rw [List.mem_singleton.mp z]; exact .lst hp) _ (noLs_all fun d hd => by obtain ⟨q, _, rfl⟩ := List.mem_map.mp hd; exact pairD_noL q) h
theorem h_places1 (d : Nat) (T : At K mg "_law_places" s__law_places) (mb_isinstance : mg "isinstance" = none) (mb_str : mg "str" = none) (mb_enumerate : mg "enumerate" = none) (sp : Sp)
    (hsp : ∀ d', d = d' + 1 → sp = spPlaces K d')
    (d__law_places : Has P w K mg base d "_law_places" s__law_places ["shape"] sp) :
    Has P w K mg base (d + 1) "_law_places" s__law_places ["shape"] (spPlaces K d) := by
  refine T.has sc__law_places po__law_places (fun vs H Q E h => ?_) (fun f cdv A outer s H vs Q E hr h => ?_)
  · obtain ⟨v, t, rfl, _⟩ := h; rfl
  obtain ⟨v, t, rfl, hv, hdeep, hsize, q⟩ := h
  have nd := sc__law_places.nd
  refine ⟨_, (pss_cons (ps_set (i := 1) nd rfl (Or.inl rfl) (pe_lst (pa_cons (pe_tup (pa_cons (pe_tup pa_nil) (pa_cons (pv 0) pa_nil))) pa_nil)))
      (pss_cons (ps_if (pt_val (pe_callB call_isi (by rfl) mb_isinstance (by decide +kernel) (pa_cons (pv 0) (pa_cons (pe_ty_str mb_str) pa_nil)))) (pss_one (ps_ret (pv 1))) pss_nil)
      (pss_cons (ps_for PassesOwn.never rfl (pi_enumT (by rfl) mb_enumerate (pa_cons (pe_slice sl_tup (pv 0) (po_some pe_int) po_none) pa_nil)) (pg_tup rfl (pgs_cons (pg_name (i := 2) nd rfl (.inr rfl)) (pgs_cons (pg_name (i := 3) nd rfl (.inl rfl)) pgs_nil))) (pss_one (ps_expr (pe_bm PySem.F.plainAttrs_list PySem.F.slot_list_extend PySem.F.type_list_extend mt_extend (pv 1) (pa_cons (pe_lc (own := [("spot", 4), ("one", 5)]) (by rfl) nd (pi_list (pe_callD d__law_places (by omega) hr (pa_cons (pv 3) pa_nil))) (blkOk_by (own := [("spot", 4), ("one", 5)]) (N := N__law_places) (sc := defScope s__law_places) (by decide +kernel)) (fun _ _ _ _ _ => (pgTup K 2 rfl (pgs_cons (pg_name (i := 4) nd rfl (.inl rfl)) (pgs_cons (pg_name (i := 5) nd rfl (.inl rfl)) pgs_nil)))) (fun _ _ _ _ _ => pts_nil) (fun _ _ _ _ _ => (pe_tup (pa_cons (pe_op (catA K) (pe_tup (pa_cons (pv 2) pa_nil)) (pv 4)) (pa_cons (pv 5) pa_nil))))) pa_nil)))))
      (pss_one (ps_ret (pv 1)))))), ?_⟩
  have ne0 : ∀ b : Addr, b ∉ ([] : List Addr) := fun b z => by cases z
  refine ⟨szLe rfl, fun e he => ⟨_, rfl, szLe rfl, fun p hp => ⟨szLe rfl, fun F hF => ?_⟩⟩⟩
  have k1 : Kp [] H (upd (upd (upd H e (.tup [])) p (.tup [.ref e, v])) F (.lst [.ref p])) := ((Kp.new he).trans (Kp.new hp)).trans (Kp.new hF)
  have ep : e ≠ p := fun z => by rw [← z, upd_same] at hp; cases hp
  have hF0 : H F = none := Kp.free (ms := []) ((Kp.new (ms := []) he).trans (Kp.new hp)) hF (ne0 _)
  have he1 := (Kp.new (ms := []) (o := .lst [.ref p]) hF) e (.tup []) (ne0 _) (by rw [upd_ne ep, upd_same])
  have hp1 := (Kp.new (ms := []) (o := .lst [.ref p]) hF) p (.tup [.ref e, v]) (ne0 _) upd_same
  have hv1 : Dp K _ v t.data := Tr.kp (ms := []) k1 (fun m z => by cases z) t hv
  have hF1 : upd (upd (upd H e (.tup [])) p (.tup [.ref e, v])) F (.lst [.ref p]) F = some (.lst [.ref p]) := upd_same
  generalize upd (upd (upd H e (.tup [])) p (.tup [.ref e, v])) F (.lst [.ref p]) = H1 at k1 he1 hp1 hF1 hv1 ⊢
  have dp0 : DpAll K H1 [.ref p] ([([], t)].map pairD) := .cons (.tup (SqT.of hp1) (.cons (.tup (SqT.of he1) .nil) (.cons hv1 .nil))) .nil
  cases t with
  | h z =>
    rw [Tr.data] at hv1
    cases hv1
    refine ⟨_, rfl, _, _, _, _, true, rfl, .ty "str", .base (.str z), kStr, _, rfl, ?_⟩
    exact ⟨_, rfl, q F _ _ hF0 k1 hF1 dp0⟩
  | n f ps =>
    obtain ⟨d', rfl⟩ : ∃ d', d = d' + 1 := ⟨d - 1, by have : deeps ps + 1 ≤ d := hdeep; omega⟩
    obtain rfl := hsp d' rfl
    rw [Tr.data] at hv1
    cases hv1 with
    | @tup b _ _ h1 h2 =>
      cases h2 with
      | @cons _ ws _ _ h3 h4 =>
        cases h3
        refine ⟨_, rfl, _, _, _, _, false, rfl, .ty "str", tyTup h1, kTup, _, rfl, ?_⟩
        refine ⟨_, rfl, _, rfl, b, _, rfl, h1, cut1ne _ _, fun B hB => ?_⟩
        rw [cut1]
        have hFB : F ≠ B := ne_of_none hF1 hB
        refine ⟨B, ws, rfl, SqT.of upd_same, ?_⟩
        refine for_it (walk_enumT (K := K) (a := B) (xs := ws)) (fun i σ H2 => (∃ x2 x3 : Option V, σ = [some (.ref b), some (.ref F), x2, x3, none, none]) ∧ Kp [] H H2 ∧ H2 B = some (.tup ws) ∧ DpAll K H2 ws (datas ps) ∧
          ∃ us : List V, H2 F = some (.lst us) ∧ DpAll K H2 us ((([], Tr.n f ps) :: spotsL 0 (ps.take i)).map pairD)) ?_ ?_ ?_ ?_
        · refine ⟨⟨none, none, rfl⟩, k1.trans (Kp.new hB), upd_same, trsNew h4 hB, _, by rw [upd_ne hFB]; exact hF1, ?_⟩
          show DpAll K _ _ ([([], Tr.n f ps)].map pairD)
          exact kpsN dp0 (Kp.new hB)
        · rintro i σ H2 _ ⟨_, _, h, _⟩; exact SqT.of h
        · rintro i y σ H2 H3 hi ⟨⟨x2, x3, rfl⟩, k2, hB2, hw2, us, hF2, hus2⟩ ⟨T, x', y', rfl, hT, rfl, ex, ey⟩
          cases ex
          obtain ⟨dd, hdd, hx1⟩ := DpAll.get hw2 ey
          rw [datas_map, List.getElem?_map] at hdd
          obtain ⟨u, hu1, rfl⟩ := Option.map_eq_some_iff.mp hdd
          have um := List.mem_of_getElem? hu1
          have hsz : u.size ≤ sizes ps := size_le um
          have hdp : u.deep ≤ deeps ps := deep_le um
          have e1 : (Tr.n f ps).size = sizes ps + 1 := rfl
          have e2 : (Tr.n f ps).deep = deeps ps + 1 := rfl
          have ilt : i < ps.length := (List.getElem?_eq_some_iff.mp hu1).1
          refine ⟨_, _, rfl, SqT.of upd_same, rfl, ?_⟩
          have kT := Kp.new (ms := []) (o := .tup [.int ((i : Nat) : Int), y']) hT
          have hB3 := kT B _ (ne0 _) hB2
          have hF3 := kT F _ (ne0 _) hF2
          have hw3 := trsKp (ms := []) kT (fun m z => by cases z) ps hw2
          have hx3 := Tr.kp (ms := []) kT (fun m z => by cases z) u hx1
          have hus3 := kpsN hus2 kT
          have k3 := k2.trans kT
          generalize upd H2 T (.tup [.int ((i : Nat) : Int), y']) = H3 at hB3 hF3 hw3 hx3 hus3 k3 ⊢
          refine ⟨_, _, rfl, _, _, rfl, rfl, ?_⟩
          refine ⟨_, rfl, .inl ⟨rfl, _, SqL.of hF3⟩, ?_⟩
          refine ⟨_, rfl, y', u, rfl, hx3, by omega, by omega, fun r H4 us4 hr4 k4 hr' hus4 => ?_⟩
          have hF4 := k4 F _ (ne0 _) hF3
          have hB4 := k4 B _ (ne0 _) hB3
          have hw4 := trsKp (ms := []) k4 (fun m z => by cases z) ps hw3
          have hus4F := kpsN hus3 k4
          refine ⟨r, rfl, ⟨_, SqL.of hr'⟩, fun D hD => ?_⟩
          have hDF : F ≠ D := ne_of_none hF4 hD
          refine lc_list (K := K) (a := r) (xs := us4) (fun j G => Kp [] H4 G ∧ ∃ vs5 : List V, G D = some (.lst vs5) ∧ DpAll K G vs5 (((u.spots.take j).map fun q => (i :: q.1, q.2)).map pairD)) ?_ ?_ ?_ ?_
          · exact ⟨Kp.new hD, [], upd_same, .nil⟩
          · rintro j G _ ⟨k, _⟩; exact SqL.of (k _ _ (ne0 _) hr')
          · rintro j x G hx ⟨k, vs5, hDG, h5⟩
            obtain ⟨e0, he0, hx0⟩ := DpAll.get hus4 hx
            rw [List.getElem?_map] at he0
            obtain ⟨pq, hpq, rfl⟩ := Option.map_eq_some_iff.mp he0
            have hxG := Dp.kpF (ms := []) k (fun m z => by cases z) _ (pairD_noL pq) hx0
            have jlt : j < u.spots.length := (List.getElem?_eq_some_iff.mp hpq).1
            rw [Tr.spots_len] at jlt
            have ht : u.spots.take (j + 1) = u.spots.take j ++ [pq] := by rw [List.take_add_one, hpq]; rfl
            rw [pairD] at hxG
            cases hxG with
            | @tup pa _ _ g1 g2 =>
              cases g2 with
              | @cons v1 _ _ _ g3 g4 =>
                cases g4 with
                | @cons v2 _ _ _ g5 g6 =>
                  cases g6
                  rw [spD] at g3
                  cases g3 with
                  | @tup sa ss _ g7 g8 =>
                    refine ⟨pa, _, rfl, g1, rfl, _, _, rfl, _, _, rfl, rfl, ?_⟩
                    refine ⟨rfl, ?_⟩
                    have fin : ∀ (z : Addr) (G1 : Hp), Kp [] G G1 → Dp K G1 (.ref z) (spD (i :: pq.1)) → ∀ p7, G1 p7 = none →
                        ∃ acc, upd G1 p7 (.tup [.ref z, v2]) D = some (.lst acc) ∧ acc.length < sizeLine ∧ Kp [] H4 (upd (upd G1 p7 (.tup [.ref z, v2])) D (.lst (acc ++ [.ref p7]))) ∧
                          ∃ vs5 : List V, upd (upd G1 p7 (.tup [.ref z, v2])) D (.lst (acc ++ [.ref p7])) D = some (.lst vs5) ∧
                            DpAll K (upd (upd G1 p7 (.tup [.ref z, v2])) D (.lst (acc ++ [.ref p7]))) vs5 (((u.spots.take (j + 1)).map fun q => (i :: q.1, q.2)).map pairD) := by
                      intro z G1 kz hz p7 hp7
                      have kp7 := Kp.new (ms := []) (o := .tup [.ref z, v2]) hp7
                      have hD7 := kp7 D _ (ne0 _) (kz D _ (ne0 _) hDG)
                      have hv7 : Dp K _ v2 pq.2.data := Tr.kp (ms := []) (kz.trans kp7) (fun m z => by cases z) pq.2 g5
                      have hz7 := Dp.kpF (ms := []) kp7 (fun m z => by cases z) _ (spD_noL _) hz
                      have h57 := kpsN h5 (kz.trans kp7)
                      have hp7' : upd G1 p7 (.tup [.ref z, v2]) p7 = some (.tup [.ref z, v2]) := upd_same
                      have k7 := (k.trans kz).trans kp7
                      have new : DpAll K (upd G1 p7 (.tup [.ref z, v2])) [.ref p7] ([(i :: pq.1, pq.2)].map pairD) :=
                        .cons (.tup (SqT.of hp7') (.cons hz7 (.cons hv7 .nil))) .nil
                      refine ⟨_, hD7, small1000 ?_, k7.put0 hD, _, upd_same, ?_⟩
                      · rw [DpAll.length h5, List.length_map, List.length_map, List.length_take]; omega
                      · rw [ht, List.map_append, List.map_append]
                        exact DpAll.append (kpsP h57 hD7) (kpsP new hD7)
                    refine ⟨_, rfl, szLe rfl, fun p6 hp6 => ?_⟩
                    have kp6 := Kp.new (ms := []) (o := .tup [.int ((i : Nat) : Int)]) hp6
                    have g76 : SqT K _ sa ss := SqT.kp (ms := []) kp6 (fun m z => by cases z) g7
                    have g86 := Dps.kpF (ms := []) kp6 (fun m z => by cases z) _ (noLs_all fun d hd => by obtain ⟨i, _, rfl⟩ := List.mem_map.mp hd; rw [noL]) g8
                    have ssl : ss.length = pq.1.length := by rw [DpAll.length g8, List.length_map]
                    refine ⟨_, rfl, p6, sa, _, ss, rfl, rfl, SqT.of upd_same, g76, ?_, (fun z => by cases z), (fun _ hs => ?_), (fun _ hs p8 hp8 => ?_)⟩
                    · have := Tr.spots_deep u pq (List.mem_of_getElem? hpq)
                      have := Tr.deep_size u
                      exact Nat.le_trans (show 1 + ss.length ≤ 1001 by omega) (by decide)
                    · refine ⟨_, rfl, szLe rfl, fun p7 hp7 => fin p6 _ kp6 ?_ p7 hp7⟩
                      have e : pq.1 = [] := List.length_eq_zero_iff.mp (by rw [← ssl, hs]; rfl)
                      rw [e, spD]
                      exact .tup (SqT.of upd_same) (.cons (.int _) .nil)
                    · have kp8 := Kp.new (ms := []) (o := .tup ([V.int ((i : Nat) : Int)] ++ ss)) hp8
                      refine ⟨_, rfl, szLe rfl, fun p7 hp7 => fin p8 _ (kp6.trans kp8) ?_ p7 hp7⟩
                      rw [spD]
                      refine .tup (SqT.of upd_same) (.cons (.int _) ?_)
                      exact Dps.kpF (ms := []) kp8 (fun m z => by cases z) _ (noLs_all fun d hd => by obtain ⟨i, _, rfl⟩ := List.mem_map.mp hd; rw [noL]) g86
          · rintro G ⟨k, vs5, hDG, h5⟩
            have l4 : us4.length = u.spots.length := by rw [DpAll.length hus4, List.length_map]
            rw [l4, List.take_length] at h5
            have hFG := k F _ (ne0 _) hF4
            have hBG := k B _ (ne0 _) hB4
            have hwG := trsKp (ms := []) k (fun m z => by cases z) ps hw4
            have husG := kpsN hus4F k
            have lF : us.length ≤ 1000 := by
              rw [DpAll.length hus2, List.length_map, List.length_cons, spotsL_len]
              have := sizes_take ps i
              omega
            have l5 : vs5.length ≤ 1000 := by
              rw [DpAll.length h5, List.length_map, List.length_map, Tr.spots_len]; omega
            refine ⟨F, D, _, _, rfl, rfl, hFG, hDG, Nat.le_trans (show us.length + vs5.length ≤ 2000 by omega) (by decide), ?_⟩
            have et : ps.take (i + 1) = ps.take i ++ [u] := by rw [List.take_add_one, hu1]; rfl
            have il : (ps.take i).length = i := by rw [List.length_take]; omega
            have es : spotsL 0 (ps.take (i + 1)) = spotsL 0 (ps.take i) ++ u.spots.map (fun q => (i :: q.1, q.2)) := by
              rw [et, spotsL_append, il, spotsL, spotsL, List.append_nil, Nat.zero_add]
            refine ⟨⟨_, _, rfl⟩, ((k3.trans k4).trans k).put0 hF0, by rw [upd_ne hFB.symm]; exact hBG, ?_, _, upd_same, ?_⟩
            · exact trsPut hwG hFG
            · rw [es, ← List.cons_append, List.map_append]
              exact DpAll.append (kpsP husG hFG) (kpsP h5 hFG)
        · rintro σ H2 ⟨⟨x2, x3, rfl⟩, k2, hB2, hw2, us, hF2, hus2⟩
          have hl : ws.length = ps.length := by rw [DpAll.length h4, datas_map, List.length_map]
          rw [hl, List.take_length] at hus2
          refine ⟨_, rfl, q F H2 us hF0 k2 hF2 ?_⟩
          rw [Tr.spots]; exact hus2
theorem h_places (T : At K mg "_law_places" s__law_places) (mb_isinstance : mg "isinstance" = none) (mb_str : mg "str" = none) (mb_enumerate : mg "enumerate" = none) :
    ∀ d : Nat, Has P w K mg base (d + 1) "_law_places" s__law_places ["shape"] (spPlaces K d)
  | 0 => h_places1 0 T mb_isinstance mb_str mb_enumerate (fun _ _ _ _ => False) (fun d' e => by omega) (Has.none T po__law_places fun _ _ _ _ h => h)
  | d + 1 => h_places1 (d + 1) T mb_isinstance mb_str mb_enumerate (spPlaces K d) (fun d' e => by cases e; rfl) (h_places T mb_isinstance mb_str mb_enumerate d)
end
end Ah
namespace Ah
open PySem PySem.Spec PyProof.Rows L2
local macro_rules | `(tactic| walk_at "side") => `(tactic| first | omega | decide | (dsimp only; omega) | (unfold CDivN; omega) | (unfold CMul; omega) | (unfold CPow; omega) | (unfold CPow; decide) | (unfold CMulW; decide) | exact szLe rfl | rfl)
local macro_rules | `(tactic| walk_at "here") => `(tactic| first | assumption | exact upd_same)
local macro_rules | `(tactic| walk_at "go") => `(tactic| repeat (first
  | (refine ⟨_, rfl, ?_⟩)
  | (refine ⟨_, _, rfl, rfl, ?_⟩)
  | (refine ⟨_, _, _, _, rfl, rfl, SqL.of (by walk_at "here"), rfl, ?_⟩)
  | (refine ⟨_, _, _, _, rfl, rfl, (by walk_at "here"), rfl, ?_⟩)
  | (refine ⟨_, _, rfl, ?_⟩)
  | (refine And.intro (by walk_at "side") ?_)))

abbrev s__law_near : Stmt := topS 11
abbrev N__law_near : List Str := ["hand", "spot", "at", "odd", "some"]
theorem sc__law_near : FnScope N__law_near ["hand", "spot"] (defScope s__law_near) :=
  ⟨rfl, rfl, rfl, by decide +kernel, rfl, by decide +kernel, by decide +kernel⟩
theorem po__law_near : Posi "_law_near" s__law_near ["hand", "spot"] := fun _ _ _ _ _ _ us hl => match us, hl with | [_, _], _ => rfl

def spNear (K : PySem.W.Frag) : Sp := fun vs H Q _ => ∃ (a s : Addr) (idx : List Nat) (n : Nat), vs = [.ref a, .ref s] ∧ Hand n H a ∧ SqT K H s (idx.map fun i => V.int ((i : Nat) : Int)) ∧
  idx.length ≤ 20 ∧ (∀ i ∈ idx, i < 1000) ∧ n < 900000 ∧
  ∀ (r : V) (H' : Hp) (d : PyData), Kp [a] H H' → Hand (n + 3) H' a → Apart K H H' r d → Fi 4 2000 d → Q r H'
section
variable {P : Program} {w : World} {K : PySem.W.Frag} {mg : Str → Option Value} {base : Heap}
theorem h_near (T : At K mg "_law_near" s__law_near) (d__law_take : Has P w K mg base 1 "_law_take" s__law_take ["hand", "many"] spTake)
    (d__law_of : Has P w K mg base 2 "_law_of" s__law_of ["hand", "some"] spOf) (mb_len : mg "len" = none) (mb_list : mg "list" = none) :
    Has P w K mg base 3 "_law_near" s__law_near ["hand", "spot"] (spNear K) := by
  refine T.has sc__law_near po__law_near (fun vs H Q E h => ?_) (fun f cdv A outer s H vs Q E hr h => ?_)
  · obtain ⟨a, s, idx, n, rfl, _⟩ := h; rfl
  obtain ⟨a, sp, idx, n, rfl, hh, hS, hil, hib, hn, q⟩ := h
  have nd := sc__law_near.nd
  refine ⟨_, (pss_cons (ps_set (i := 2) nd rfl (Or.inl rfl) (pe_callD d__law_take (by omega) hr (pa_cons (pv 0) (pa_cons (pe_op op_add (pe_callB call_len_seq (by rfl) mb_len (by decide +kernel) (pa_cons (pv 1) pa_nil)) pe_int) pa_nil))))
      (pss_cons (ps_set (i := 3) nd rfl (Or.inl rfl) (pe_callD d__law_of (by omega) hr (pa_cons (pv 0) (pa_cons (pe_lst (pa_cons (pe_un un_neg pe_int) (pa_cons pe_int (pa_cons pe_int (pa_cons pe_int (pa_cons pe_int (pa_cons pe_bl (pa_cons pe_bl (pa_cons pe_non (pa_cons pe_str (pa_cons (pe_tup (pa_cons pe_int pa_nil)) (pa_cons (pe_lst pa_nil) (pa_cons (pe_un un_neg pe_int) (pa_cons (pe_op op_pow pe_int pe_int) pa_nil)))))))))))))) pa_nil))))
      (pss_cons (ps_set (i := 4) nd rfl (Or.inl rfl) (pe_lst (pa_cons (pe_op op_catU (pe_op op_catU (pe_slice sl_tupU (pv 1) po_none (po_some (pv 2))) (pe_tup (pa_cons (pv 3) pa_nil))) (pe_slice sl_tupU (pv 1) (po_some (pv 2)) po_none)) (pa_cons (pe_op op_catU (pe_op op_catU (pe_slice sl_tupU (pv 1) po_none (po_some (pv 2))) (pe_tup (pa_cons (pv 3) pa_nil))) (pe_slice sl_tupU (pv 1) (po_some (pe_op op_add (pv 2) pe_int)) po_none)) (pa_cons (pe_callTy call_list_of (by rfl) mb_list (by decide +kernel) (pa_cons (pv 1) pa_nil)) (pa_cons (pe_op op_catU (pv 1) (pe_op op_repT (pe_tup (pa_cons pe_int pa_nil)) pe_int)) pa_nil))))))
      (pss_one (ps_ret (pe_callD d__law_of (by omega) hr (pa_cons (pv 0) (pa_cons (pe_op op_cat (pv 4) (pe_lst (pa_cons (pe_tup (pa_cons (pv 1) pa_nil)) (pa_cons (pe_op op_catU (pe_slice sl_tupU (pv 1) po_none (po_some (pv 2))) (pe_slice sl_tupU (pv 1) (po_some (pe_op op_add (pv 2) pe_int)) po_none)) (pa_cons (pe_backT (pv 1)) pa_nil))))) pa_nil)))))))), ?_⟩
  have ne0 : ∀ b : Addr, b ∉ ([] : List Addr) := fun b z => by cases z
  have a0 : H a ≠ none := by obtain ⟨xs, q⟩ := hh.there; rw [q]; simp
  have ml : (idx.map fun i => V.int ((i : Nat) : Int)).length = idx.length := List.length_map _
  refine ⟨_, rfl, _, rfl, _, _, rfl, .inr hS, ?_⟩
  refine ⟨_, _, rfl, rfl, a, _, n, rfl, hh, by omega, by omega, by omega, fun r H1 r0 r1 k1 hd1 => ?_⟩
  have nl1 : ∀ m ∈ [a], Loose H m := fun m hm => by rw [List.mem_singleton.mp hm]; exact hh.loose
  have hS1 : SqT K H1 sp _ := SqT.kp k1 nl1 hS
  walk_at "go"
  intro p hp
  walk_at "go"
  intro b hb
  walk_at "go"
  intro L hL
  have kp := Kp.new (ms := []) (o := .tup [.int 0]) hp
  have kb := Kp.new (ms := []) (o := .lst []) hb
  have hb1 : H1 b = none := Kp.free kp hb (ne0 _)
  have ba : b ≠ a := (hd1.ne hb1).symm
  have hb0 : H b = none := Kp.free k1 hb1 (by simpa using ba)
  have hL1 : H1 L = none := Kp.free (kp.trans kb) hL (ne0 _)
  have hdL := (hd1.keep (kp.trans kb) (ne0 _)).new hL (o := .lst [.int (-1), .int 3, .int 0, .int 1, .int 2, .bl true, .bl false, .non, .str "0", .ref p, .ref b, .int (-3), .int (10 ^ 20)])
  refine ⟨a, .ref L, n + 1, rfl, hdL, by omega, .inl ⟨L, _, rfl, (hd1.ne hL1).symm, upd_same, by simp, by show 13 < 1000000; decide, fun i x H2 hx k2 hd2 => ?_⟩⟩
  have kL := Kp.new (ms := []) (o := .lst [.int (-1), .int 3, .int 0, .int 1, .int 2, .bl true, .bl false, .non, .str "0", .ref p, .ref b, .int (-3), .int (10 ^ 20)]) hL
  have kall : Kp [a] H1 H2 := ((kp.trans (kb.trans kL)).wide (by simp)).trans k2
  have nlL : ∀ m ∈ [a], Loose _ m := fun m hm => by rw [List.mem_singleton.mp hm]; exact hdL.loose
  have bigp := kL p _ (ne0 _) (kb p _ (ne0 _) upd_same)
  have bigb := kL b _ (ne0 _) upd_same
  have odd : ∃ d, Apart K H H2 x d ∧ Fi 1 30 d := by
    have hm := List.mem_of_getElem? hx
    simp only [List.mem_cons, List.not_mem_nil, or_false] at hm
    have numz : ∀ j : Int, j.natAbs < 10 ^ 12 → ∃ d, Apart K H H2 (.int j) d ∧ Fi 1 30 d := fun j hj => ⟨.int j, fun _ _ => .int _, (Fi.int hj 1).up (by decide) (by decide)⟩
    rcases hm with rfl | rfl | rfl | rfl | rfl | rfl | rfl | rfl | rfl | rfl | rfl | rfl | rfl
    · exact numz _ (by decide)
    · exact numz _ (by decide)
    · exact numz _ (by decide)
    · exact numz _ (by decide)
    · exact numz _ (by decide)
    · exact ⟨.bool true, fun _ _ => .bl _, (Fi.bool _ 1).up (by decide) (by decide)⟩
    · exact ⟨.bool false, fun _ _ => .bl _, (Fi.bool _ 1).up (by decide) (by decide)⟩
    · exact ⟨.none, fun _ _ => .non, (Fi.none 1).up (by decide) (by decide)⟩
    · exact ⟨.str "0", fun _ _ => .str _, (Fi.str ⟨by decide, by decide⟩ 1).up (by decide) (by decide)⟩
    · refine ⟨.tuple [.int 0], Aparts.tup (.cons (fun _ _ => .int 0) .nil) (SqT.kp k2 nlL (SqT.of bigp)), ?_⟩
      exact (Fis.tuple (Fis.cons (Fi.int (by decide) 0) (Fis.nil 0 0))).up (by decide) (by decide)
    · have : H2 b = some (.lst []) := k2 _ _ (by simpa using ba) bigb
      exact ⟨.list [], Aparts.lst .nil this hb0, (Fis.list (Fis.nil 0 0)).up (by decide) (by decide)⟩
    · exact numz _ (by decide)
    · exact ⟨.int (10 ^ 20), fun _ _ => .int _, (Fi.e20 1).up (by decide) (by decide)⟩
  obtain ⟨dO, hO, fO⟩ := odd
  have hS2 : SqT K H2 sp _ := SqT.kp kall (fun m hm => by rw [List.mem_singleton.mp hm]; exact hd1.loose) hS1
  have k02 : Kp [a] H H2 := k1.trans kall
  have some02 : ∀ b, H b ≠ none → H2 b ≠ none := by
    intro c hc z
    by_cases e : c = a
    · subst e; obtain ⟨xs, q⟩ := hd2.there; rw [q] at z; cases z
    · cases q : H c with
      | none => exact hc q
      | some o => rw [k02 c o (by simpa using e) q] at z; cases z
  generalize hOs : (idx.map fun i => V.int ((i : Nat) : Int)) = ss at hS2 ml
  have hA : ∀ G : Hp, Aparts K H G ss (idx.map fun i => PyData.int ((i : Nat) : Int)) := fun G => by rw [← hOs]; exact spotA idx
  have fiI : ∀ e ∈ (idx.map fun i => PyData.int ((i : Nat) : Int)), Fi 1 30 e := by
    intro e he
    obtain ⟨i, hi, rfl⟩ := List.mem_map.mp he
    have := hib i hi
    exact (Fi.int (by omega) 1).up (by decide) (by decide)
  clear hx hd1 hh hb hp hL hdL k2 nlL bigp bigb kp kb kL kall
  have nil1 : ∀ {G : Hp}, ∀ m ∈ ([] : List Addr), Loose G m := fun m z => by cases z
  have cl : ∀ lo hi, (cutV ss lo hi).length ≤ 20 := fun lo hi => Nat.le_trans (cutV_length ss lo hi) (by omega)
  have goodT : ∀ ds : List PyData, (∀ e ∈ ds, Fi 1 30 e) → ds.length ≤ 60 → Fi 4 2000 (.tuple ds) := fun ds h l => (fisAll h).tuple.up (by decide) (by omega)
  have goodL : ∀ ds : List PyData, (∀ e ∈ ds, Fi 1 30 e) → ds.length ≤ 60 → Fi 4 2000 (.list ds) := fun ds h l => (fisAll h).list.up (by decide) (by omega)
  generalize hds : (idx.map fun i => PyData.int ((i : Nat) : Int)) = ds at hA fiI
  have dl : ds.length = idx.length := by rw [← hds, List.length_map]
  have cutI : ∀ i j, ∀ e ∈ ((ds.drop i).take j), Fi 1 30 e := fun i j e he => fiI e (List.mem_of_mem_drop (List.mem_of_mem_take he))
  have cutL : ∀ i j, ((ds.drop i).take j).length ≤ 20 := fun i j => by rw [List.length_take, List.length_drop]; omega
  have L41 : ∀ {n : Nat}, n ≤ 100 → n ≤ sizeLine := fun h => Nat.le_trans h (by decide)
  -- the odd one put in
  walk_at "go"
  refine ⟨sp, ss, rfl, hS2, fun u1 H3 k3 h3 => ?_⟩
  refine ⟨_, rfl, szLe rfl, fun p4 hp4 => ?_⟩
  have k4 := k3.trans (Kp.new (ms := []) (o := .tup [x]) hp4)
  refine ⟨u1, p4, _, _, rfl, rfl, SqT.kp (Kp.new hp4) nil1 h3, SqT.of upd_same, L41 (by have := cl none (some r); rw [List.length_singleton]; omega), fun u2 H5 k5 h5 => ?_⟩
  have k5 := k4.trans k5
  clear h3 hp4 k4 k3
  walk_at "go"
  refine ⟨sp, ss, rfl, SqT.kp k5 nil1 hS2, fun u3 H6 k6 h6 => ?_⟩
  refine ⟨u2, u3, _, _, rfl, rfl, SqT.kp k6 nil1 h5, h6, L41 (by have := cl none (some r); have := cl (some r) none; rw [List.length_append, List.length_singleton]; omega), fun u4 H7 k7 h7 => ?_⟩
  have k7 := (k5.trans k6).trans k7
  clear h5 h6 k5 k6
  have gA : ∃ d, Apart K H H7 (.ref u4) d ∧ Fi 4 2000 d := by
    refine ⟨_, Aparts.tup (Aparts.append (Aparts.append ((hA H7).cut _ _) (.cons (hO.new k7) .nil)) ((hA H7).cut _ _)) h7, goodT _ (fun e he => ?_) ?_⟩
    · rcases List.mem_append.mp he with h | h
      · rcases List.mem_append.mp h with h | h
        · exact cutI _ _ e h
        · rw [List.mem_singleton.mp h]; exact fO
      · exact cutI _ _ e h
    · rw [List.length_append, List.length_append, List.length_singleton]
      have := cutL (HT.sIx ss.length 0 none) (HT.sIx ss.length ss.length (some r) - HT.sIx ss.length 0 none)
      have := cutL (HT.sIx ss.length 0 (some r)) (HT.sIx ss.length ss.length none - HT.sIx ss.length 0 (some r))
      omega
  clear h7
  -- the odd one in the place of another
  walk_at "go"
  have hS7 := SqT.kp k7 nil1 hS2
  have hO7 := hO.new k7
  refine ⟨sp, ss, rfl, hS7, fun v1 G3 j3 h3 => ?_⟩
  refine ⟨_, rfl, szLe rfl, fun p5 hp5 => ?_⟩
  have j4 := j3.trans (Kp.new (ms := []) (o := .tup [x]) hp5)
  refine ⟨v1, p5, _, _, rfl, rfl, SqT.kp (Kp.new hp5) nil1 h3, SqT.of upd_same, L41 (by have := cl none (some r); rw [List.length_singleton]; omega), fun v2 G5 j5 h5 => ?_⟩
  have j5 := j4.trans j5
  clear h3 hp5 j4 j3
  walk_at "go"
  refine ⟨sp, ss, rfl, SqT.kp j5 nil1 hS7, fun v3 G6 j6 h6 => ?_⟩
  refine ⟨v2, v3, _, _, rfl, rfl, SqT.kp j6 nil1 h5, h6, L41 (by have := cl none (some r); have := cl (some (r + 1)) none; rw [List.length_append, List.length_singleton]; omega), fun v4 G7 j7 h7 => ?_⟩
  have j7 := (j5.trans j6).trans j7
  clear h5 h6 j5 j6
  have gB : ∃ d, Apart K H G7 (.ref v4) d ∧ Fi 4 2000 d := by
    refine ⟨_, Aparts.tup (Aparts.append (Aparts.append ((hA G7).cut _ _) (.cons (hO7.new j7) .nil)) ((hA G7).cut _ _)) h7, goodT _ (fun e he => ?_) ?_⟩
    · rcases List.mem_append.mp he with h | h
      · rcases List.mem_append.mp h with h | h
        · exact cutI _ _ e h
        · rw [List.mem_singleton.mp h]; exact fO
      · exact cutI _ _ e h
    · rw [List.length_append, List.length_append, List.length_singleton]
      have := cutL (HT.sIx ss.length 0 none) (HT.sIx ss.length ss.length (some r) - HT.sIx ss.length 0 none)
      have := cutL (HT.sIx ss.length 0 (some (r + 1))) (HT.sIx ss.length ss.length none - HT.sIx ss.length 0 (some (r + 1)))
      omega
  clear h7
  have hSG := SqT.kp j7 nil1 hS7
  have gA' : ∃ d, Apart K H G7 (.ref u4) d ∧ Fi 4 2000 d := gA.imp fun d h => ⟨h.1.new j7, h.2⟩
  -- as a list; with noughts behind
  refine ⟨_, rfl, sp, ss, rfl, .inr hSG, fun l hl => ?_⟩
  have m1 := Kp.new (ms := []) (o := .lst ss) hl
  refine ⟨_, rfl, szLe rfl, fun z hz => ?_⟩
  have m2 := Kp.new (ms := []) (o := .tup [V.int 0]) hz
  refine ⟨z, 19, _, rfl, rfl, SqT.of upd_same, by simp, by decide, by decide, by decide, fun z2 hz2 => ?_⟩
  have m3 := Kp.new (ms := []) (o := .tup (List.replicate (Int.toNat 19) [V.int 0]).flatten) hz2
  refine ⟨sp, z2, _, _, rfl, rfl, SqT.kp ((m1.trans m2).trans m3) nil1 hSG, SqT.of upd_same, L41 (by show ss.length + 19 ≤ 100; omega), fun z3 G8 m4 h8 => ?_⟩
  have m4 := ((m1.trans m2).trans m3).trans m4
  have gC : ∃ d, Apart K H G8 (.ref l) d ∧ Fi 4 2000 d := by
    have : G8 l = some (.lst ss) := ((m2.trans m3).trans ‹Kp [] _ G8›) l _ (ne0 _) upd_same
    refine ⟨_, Aparts.lst (hA G8) this ?_, goodL _ fiI (by omega)⟩
    exact Classical.byContradiction fun h => j7.some l (k7.some l (some02 l h)) hl
  have gD : ∃ d, Apart K H G8 (.ref z3) d ∧ Fi 4 2000 d := by
    refine ⟨_, Aparts.tup (Aparts.append (hA G8) (spotA (List.replicate 19 0))) h8, goodT _ (fun e he => ?_) ?_⟩
    · rcases List.mem_append.mp he with h | h
      · exact fiI e h
      · obtain ⟨i, hi, rfl⟩ := List.mem_map.mp h
        rw [List.eq_of_mem_replicate hi]
        exact (Fi.int (by decide) 1).up (by decide) (by decide)
    · rw [List.length_append, List.length_map, List.length_replicate]; omega
  have gA8 : ∃ d, Apart K H G8 (.ref u4) d ∧ Fi 4 2000 d := gA'.imp fun d h => ⟨h.1.new m4, h.2⟩
  have gB8 : ∃ d, Apart K H G8 (.ref v4) d ∧ Fi 4 2000 d := gB.imp fun d h => ⟨h.1.new m4, h.2⟩
  have hS8 := SqT.kp m4 nil1 hSG
  have k28 := (k7.trans j7).trans m4
  clear gA gA' gB m1 m2 m3 h8 hz2 hz hl
  refine ⟨szLe rfl, fun S hS' => ?_⟩
  -- three more
  refine ⟨_, rfl, _, rfl, _, rfl, szLe rfl, fun w1 hw1 => ?_⟩
  have kS := Kp.new (ms := []) (o := .lst [.ref u4, .ref v4, .ref l, .ref z3]) hS'
  have kw1 := Kp.new (ms := []) (o := .tup [V.ref sp]) hw1
  have hS9 := SqT.kp (kS.trans kw1) nil1 hS8
  walk_at "go"
  refine ⟨sp, ss, rfl, hS9, fun w2 G9 n1 g1 => ?_⟩
  walk_at "go"
  refine ⟨sp, ss, rfl, SqT.kp n1 nil1 hS9, fun w3 G10 n2 g2 => ?_⟩
  refine ⟨w2, w3, _, _, rfl, rfl, SqT.kp n2 nil1 g1, g2, L41 (by have := cl none (some r); have := cl (some (r + 1)) none; omega), fun w4 G11 n3 g3 => ?_⟩
  have gF : ∃ d, Apart K H G11 (.ref w4) d ∧ Fi 4 2000 d := by
    refine ⟨_, Aparts.tup (Aparts.append ((hA G11).cut _ _) ((hA G11).cut _ _)) g3, goodT _ (fun e he => ?_) ?_⟩
    · rcases List.mem_append.mp he with h | h
      · exact cutI _ _ e h
      · exact cutI _ _ e h
    · rw [List.length_append]
      have := cutL (HT.sIx ss.length 0 none) (HT.sIx ss.length ss.length (some r) - HT.sIx ss.length 0 none)
      have := cutL (HT.sIx ss.length 0 (some (r + 1))) (HT.sIx ss.length ss.length none - HT.sIx ss.length 0 (some (r + 1)))
      omega
  have n13 := (n1.trans n2).trans n3
  have hS11 := SqT.kp n13 nil1 hS9
  have hw11 := n13 w1 _ (ne0 _) upd_same
  refine ⟨_, rfl, sp, ss, rfl, hS11, fun w5 hw5 => ?_⟩
  have kw5 := Kp.new (ms := []) (o := .tup ss.reverse) hw5
  refine ⟨szLe rfl, fun R hR => ?_⟩
  have kR := Kp.new (ms := []) (o := .lst [.ref w1, .ref w4, .ref w5]) hR
  have kS12 := (kw1.trans n13).trans (kw5.trans kR)
  have hS12 := kS12 S _ (ne0 _) upd_same
  refine ⟨S, R, _, _, rfl, rfl, hS12, upd_same, szLe rfl, fun M hM => ?_⟩
  have k8e := (kS.trans kS12).trans (Kp.new (ms := []) (o := .lst ([V.ref u4, .ref v4, .ref l, .ref z3] ++ [.ref w1, .ref w4, .ref w5])) hM)
  have k11e := (kw5.trans kR).trans (Kp.new (ms := []) (o := .lst ([V.ref u4, .ref v4, .ref l, .ref z3] ++ [.ref w1, .ref w4, .ref w5])) hM)
  have k5e := kR.trans (Kp.new (ms := []) (o := .lst ([V.ref u4, .ref v4, .ref l, .ref z3] ++ [.ref w1, .ref w4, .ref w5])) hM)
  have hw5e := k5e w5 _ (ne0 _) upd_same
  have hM2 : G8 M = none := Kp.free (kS.trans kS12) hM (ne0 _)
  have hMe : upd (upd (upd G11 w5 (.tup ss.reverse)) R (.lst [.ref w1, .ref w4, .ref w5])) M (.lst ([V.ref u4, .ref v4, .ref l, .ref z3] ++ [.ref w1, .ref w4, .ref w5])) M = some (.lst [V.ref u4, .ref v4, .ref l, .ref z3, .ref w1, .ref w4, .ref w5]) := upd_same
  generalize upd (upd (upd G11 w5 (.tup ss.reverse)) R (.lst [.ref w1, .ref w4, .ref w5])) M (.lst ([V.ref u4, .ref v4, .ref l, .ref z3] ++ [.ref w1, .ref w4, .ref w5])) = GE at k8e k11e hw5e hMe ⊢
  have hSe := SqT.kp k8e nil1 hS8
  have hw1e := k11e w1 _ (ne0 _) hw11
  have k2e := k28.trans k8e
  have hde := hd2.keep k2e (ne0 _)
  have Ma : M ≠ a := fun e => by
    obtain ⟨xs, q⟩ := (hd2.keep k28 (ne0 _)).there
    rw [e, q] at hM2; cases hM2
  have good : ∀ y ∈ [V.ref u4, .ref v4, .ref l, .ref z3, .ref w1, .ref w4, .ref w5], ∃ d, Apart K H GE y d ∧ Fi 4 2000 d := by
    intro y hy
    simp only [List.mem_cons, List.not_mem_nil, or_false] at hy
    rcases hy with rfl | rfl | rfl | rfl | rfl | rfl | rfl
    · exact gA8.imp fun d h => ⟨h.1.new k8e, h.2⟩
    · exact gB8.imp fun d h => ⟨h.1.new k8e, h.2⟩
    · exact gC.imp fun d h => ⟨h.1.new k8e, h.2⟩
    · exact gD.imp fun d h => ⟨h.1.new k8e, h.2⟩
    · refine ⟨.tuple [.tuple ds], Aparts.tup (.cons (Aparts.tup (hA GE) hSe) .nil) (SqT.of hw1e), ?_⟩
      have f1 : Fi 2 620 (.tuple ds) := (fisAll fiI).tuple.up (by decide) (by omega)
      exact (Fis.tuple (Fis.cons f1 (Fis.nil 2 0))).up (by decide) (by decide)
    · exact gF.imp fun d h => ⟨h.1.new k11e, h.2⟩
    · refine ⟨.tuple ds.reverse, Aparts.tup (hA GE).reverse (SqT.of hw5e), goodT _ (fun e he => fiI e (List.mem_reverse.mp he)) (by rw [List.length_reverse]; omega)⟩
  refine ⟨a, .ref M, n + 2, rfl, hde, by omega, .inl ⟨M, _, rfl, Ma, hMe, by simp, by show 7 < 1000000; decide, fun i y H' hy k' hd' => ?_⟩⟩
  obtain ⟨d, g1, g2⟩ := good y (List.mem_of_getElem? hy)
  exact q y H' d ((k02.trans (k2e.wide (by simp))).trans k') hd' (g1.kp k' a0 hde.loose) g2
end
end Ah
namespace Ah
open PySem PySem.Spec PyProof.Rows L2
local macro_rules | `(tactic| walk_at "side") => `(tactic| first | omega | decide | (dsimp only; omega) | (unfold CDivN; omega) | (unfold CMul; omega) | (unfold CPow; omega) | (unfold CPow; decide) | (unfold CMulW; decide) | exact szLe rfl | rfl)
local macro_rules | `(tactic| walk_at "here") => `(tactic| first | assumption | exact upd_same)
local macro_rules | `(tactic| walk_at "go") => `(tactic| repeat (first
  | (refine ⟨_, rfl, ?_⟩)
  | (refine ⟨_, _, rfl, rfl, ?_⟩)
  | (refine ⟨_, _, _, _, rfl, rfl, SqL.of (by walk_at "here"), rfl, ?_⟩)
  | (refine ⟨_, _, _, _, rfl, rfl, (by walk_at "here"), rfl, ?_⟩)
  | (refine ⟨_, _, rfl, ?_⟩)
  | (refine And.intro (by walk_at "side") ?_)))

abbrev s__law_due : Stmt := topS 12
abbrev N__law_due : List Str := ["places", "thing", "spot", "shape"]
theorem sc__law_due : FnScope N__law_due ["places", "thing"] (defScope s__law_due) :=
  ⟨rfl, rfl, rfl, by decide +kernel, rfl, by decide +kernel, by decide +kernel⟩
theorem po__law_due : Posi "_law_due" s__law_due ["places", "thing"] := fun _ _ _ _ _ _ us hl => match us, hl with | [_, _], _ => rfl

/-- what is asked for: data, or an empty dict -/
def Thing (K : PySem.W.Frag) (H : Hp) (x : V) (o : Option PyData) : Prop :=
  (∃ d, o = some d ∧ Dp K H x d ∧ Fi 4 2000 d) ∨ (o = none ∧ ∃ p, x = .ref p ∧ H p = some (.dK []))
/-- what is due there -/
def dueT (t : Tr) : Option PyData → Option Tr
  | some d => atD t d
  | none => none
def shownT : Option PyData → Str
  | some d => d.shown
  | none => "{}"
def spDue (K : PySem.W.Frag) : Sp := fun vs H Q _ => ∃ (r : Addr) (x : V) (us : List V) (t : Tr) (o : Option PyData), vs = [.ref r, x] ∧ H r = some (.lst us) ∧ DpAll K H us (t.spots.map pairD) ∧
  t.size ≤ 1000 ∧ t.deep ≤ 20 ∧ Thing K H x o ∧ ∀ v, AtV K H v (dueT t o) → Q v H
section
variable {P : Program} {w : World} {K : PySem.W.Frag} {mg : Str → Option Value} {base : Heap}
theorem Thing.repr {H : Hp} {x : V} {o : Option PyData} {Q : VK} (h : Thing K H x o) (q : Q (.str (shownT o)) H) : rReprE K [x] H Q := by
  rcases h with ⟨d, rfl, hd, f⟩ | ⟨rfl, p, rfl, hp⟩
  · obtain ⟨s1, s2, s3⟩ := showFi f (by decide) (by decide)
    exact .inl ⟨x, d, rfl, hd, s1, s2, s3, q⟩
  · exact .inr ⟨p, rfl, hp, q⟩
theorem h_due (T : At K mg "_law_due" s__law_due) (mb_repr : mg "repr" = none) :
    HasG P w K mg base 1 "_law_due" s__law_due ["places", "thing"] (spDue K) := by
  refine T.hasG sc__law_due po__law_due (fun vs H Q E h => ?_) (fun f cdv A outer s H vs Q E hG hr h => ?_)
  · obtain ⟨r, x, us, t, o, rfl, _⟩ := h; rfl
  obtain ⟨r, x, us, t, o, rfl, hus, hdp, hsz, hdeep, hT, q⟩ := h
  have nd := sc__law_due.nd
  refine ⟨_, (pss_cons (ps_for PassesOwn.never rfl (pi_list (pv 0)) (pg_tup rfl (pgs_cons (pg_name (i := 2) nd rfl (.inl rfl)) (pgs_cons (pg_name (i := 3) nd rfl (.inl rfl)) pgs_nil))) (pss_one (ps_if (pt_cmpR op_eq (pe_callB (call_reprD hG hr.units) (by rfl) mb_repr (by decide +kernel) (pa_cons (pv 2) pa_nil)) (pe_callB (call_reprE hG hr.units) (by rfl) mb_repr (by decide +kernel) (pa_cons (pv 1) pa_nil)) (nomark _)) (pss_one (ps_ret (pv 3))) pss_nil)))
      (pss_one (ps_ret pe_non))), ?_⟩
  refine ⟨_, rfl, r, rfl, ⟨_, SqL.of hus⟩, ?_⟩
  refine for_list (K := K) (a := r) (xs := us) (fun i σ H2 => H2 = H ∧ (∃ x2 x3 : Option V, σ = [some (.ref r), some x, x2, x3]) ∧ ∀ qq ∈ t.spots.take i, (spD qq.1).shown ≠ shownT o) ?_ ?_ ?_ ?_
  · exact ⟨rfl, ⟨none, none, rfl⟩, by simp⟩
  · rintro i σ H2 _ ⟨rfl, _⟩; exact SqL.of hus
  · rintro i y σ H2 hy ⟨rfl, ⟨x2, x3, rfl⟩, hno⟩
    obtain ⟨e0, he0, hx0⟩ := DpAll.get hdp hy
    rw [List.getElem?_map] at he0
    obtain ⟨pq, hpq, rfl⟩ := Option.map_eq_some_iff.mp he0
    have hm := List.mem_of_getElem? hpq
    have ht : t.spots.take (i + 1) = t.spots.take i ++ [pq] := by rw [List.take_add_one, hpq]; rfl
    rw [pairD] at hx0
    cases hx0 with
    | @tup pa _ _ g1 g2 =>
      cases g2 with
      | @cons v1 _ _ _ g3 g4 =>
        cases g4 with
        | @cons v2 _ _ _ g5 g6 =>
          cases g6
          refine ⟨pa, _, rfl, g1, rfl, _, _, rfl, _, _, rfl, rfl, ?_⟩
          have fs := fiSpot (fun j hj => Nat.lt_of_lt_of_le ((spots_lt pq.1 hm).1 j hj) hsz) (Nat.le_trans (Tr.spots_deep t pq hm) (by omega))
          obtain ⟨s1, s2, s3⟩ := showFi fs (by decide) (by decide)
          refine ⟨_, rfl, _, _, rfl, g3, s1, s2, s3, _, rfl, hT.repr ?_⟩
          refine ⟨rfl, _, rfl, ?_⟩
          refine ite2 (fun c => ?_) (fun c => ?_)
          · have e : (spD pq.1).shown = shownT o := by simpa [eqV] using c
            refine ⟨_, rfl, q v2 ?_⟩
            cases o with
            | none => exact (spot_notDict pq.1 e).elim
            | some d =>
              show AtV K H2 v2 (atD t d)
              rw [at_of_shown hm e]; exact g5
          · have e : (spD pq.1).shown ≠ shownT o := by simpa [eqV] using c
            refine ⟨rfl, ⟨_, _, rfl⟩, fun qq hq => ?_⟩
            rw [ht] at hq
            rcases List.mem_append.mp hq with h | h
            · exact hno qq h
            · rw [List.mem_singleton.mp h]; exact e
  · rintro σ H2 ⟨rfl, ⟨x2, x3, rfl⟩, hno⟩
    rw [DpAll.length hdp, List.length_map, List.take_length] at hno
    refine q .non ?_
    cases o with
    | none => rfl
    | some d => 
      show AtV K H2 .non (atD t d)
      rw [at_none hno]; rfl
end
end Ah
namespace Ah
open PySem PySem.Spec PyProof.Rows L2
local macro_rules | `(tactic| walk_at "side") => `(tactic| first | omega | decide | (dsimp only; omega) | (unfold CDivN; omega) | (unfold CMul; omega) | (unfold CPow; omega) | (unfold CPow; decide) | (unfold CMulW; decide) | exact szLe rfl | rfl)
local macro_rules | `(tactic| walk_at "here") => `(tactic| first | assumption | exact upd_same)
local macro_rules | `(tactic| walk_at "go") => `(tactic| repeat (first
  | (refine ⟨_, rfl, ?_⟩)
  | (refine ⟨_, _, rfl, rfl, ?_⟩)
  | (refine ⟨_, _, _, _, rfl, rfl, SqL.of (by walk_at "here"), rfl, ?_⟩)
  | (refine ⟨_, _, _, _, rfl, rfl, (by walk_at "here"), rfl, ?_⟩)
  | (refine ⟨_, _, rfl, ?_⟩)
  | (refine And.intro (by walk_at "side") ?_)))

theorem kw_tree_at : Keyw "tree_at" s_tree_at ["tree", "place"] ["place", "tree"] swp := fun _ _ _ _ _ _ ws hl => match ws, hl with | [_, _], _ => rfl
abbrev s__law_right : Stmt := topS 13
abbrev N__law_right : List Str := ["hand", "shape", "places", "spot", "one", "things", "turn", "thing", "held"]
theorem sc__law_right : FnScope N__law_right ["hand"] (defScope s__law_right) :=
  ⟨rfl, rfl, rfl, by decide +kernel, rfl, by decide +kernel, by decide +kernel⟩
theorem po__law_right : Posi "_law_right" s__law_right ["hand"] := fun _ _ _ _ _ _ us hl => match us, hl with | [_], _ => rfl

section
variable {P : Program} {w : World} {K : PySem.W.Frag} {mg : Str → Option Value} {base : Heap}
theorem newAt {H : Hp} {p : Addr} {o : HO} (_ : H p = none) : upd H p o p = some o := upd_same
theorem cost_le {d : Nat} (h : d ≤ 3) : cost d ≤ 80 ∧ most d ≤ 40 := by
  have : d = 0 ∨ d = 1 ∨ d = 2 ∨ d = 3 := by omega
  rcases this with rfl | rfl | rfl | rfl <;> decide
theorem h_right (T : At K mg "_law_right" s__law_right) (d__law_take : Has P w K mg base 1 "_law_take" s__law_take ["hand", "many"] spTake)
    (d__law_of : Has P w K mg base 2 "_law_of" s__law_of ["hand", "some"] spOf)
    (d__law_words : Has P w K mg base 3 "_law_words" s__law_words ["hand"] spWords)
    (d__law_called : Has P w K mg base 3 "_law_called" s__law_called ["hand"] spCalled)
    (d__law_tree : Has P w K mg base 6 "_law_tree" s__law_tree ["hand", "names", "holes", "deep"] (fun vs H Q E => ∃ d, d ≤ 3 ∧ spTree K d vs H Q E))
    (d__law_places : Has P w K mg base 5 "_law_places" s__law_places ["shape"] (spPlaces K 4))
    (d__law_near : Has P w K mg base 3 "_law_near" s__law_near ["hand", "spot"] (spNear K))
    (d__law_due : HasG P w K mg base 1 "_law_due" s__law_due ["places", "thing"] (spDue K))
    (d_tree_at : Has P w K mg base 2 "tree_at" s_tree_at ["tree", "place"] (spTreeAt K))
    (mb_range : mg "range" = none) (mb_repr : mg "repr" = none) :
    HasG P w K mg base 7 "_law_right" s__law_right ["hand"] spRight := by
  refine T.hasG sc__law_right po__law_right (fun vs H Q E h => ?_) (fun f cdv A outer s H vs Q E hG hr h => ?_)
  · obtain ⟨a, rfl, _⟩ := h; rfl
  obtain ⟨a, rfl, hh, q⟩ := h
  have nd := sc__law_right.nd
  have hu := hu_of hr
  refine ⟨_, (pss_cons (ps_set (i := 1) nd rfl (Or.inl rfl) (pe_callD d__law_tree (by omega) hr (pa_cons (pv 0) (pa_cons (pe_callD d__law_words (by omega) hr (pa_cons (pv 0) pa_nil)) (pa_cons (pe_callD d__law_called (by omega) hr (pa_cons (pv 0) pa_nil)) (pa_cons (pe_callD d__law_take (by omega) hr (pa_cons (pv 0) (pa_cons pe_int pa_nil))) pa_nil))))))
      (pss_cons (ps_set (i := 2) nd rfl (Or.inr rfl) (pe_callD d__law_places (by omega) hr (pa_cons (pv 1) pa_nil)))
      (pss_cons (ps_for PassesOwn.never rfl (pi_list (pv 2)) (pg_tup rfl (pgs_cons (pg_name (i := 3) nd rfl (.inl rfl)) (pgs_cons (pg_name (i := 4) nd rfl (.inl rfl)) pgs_nil))) (pss_one (ps_if (pt_cmpR op_ne (pe_callB (call_reprD hG hr.units) (by rfl) mb_repr (by decide +kernel) (pa_cons (pe_lst (pa_cons (pe_callD d_tree_at (by omega) hr (pa_cons (pv 1) (pa_cons (pv 3) pa_nil))) (pa_cons (pe_callD0 swp d_tree_at kw_tree_at relSwp (by omega) hr (pk_cons (pv 3) (pk_cons (pv 1) pk_nil))) pa_nil))) pa_nil)) (pe_callB (call_reprD hG hr.units) (by rfl) mb_repr (by decide +kernel) (pa_cons (pe_lst (pa_cons (pv 4) (pa_cons (pv 4) pa_nil))) pa_nil)) (nomark _)) (pss_one (ps_ret pe_bl)) pss_nil)))
      (pss_cons (ps_set (i := 5) nd rfl (Or.inl rfl) (pe_lst (pa_cons pe_non (pa_cons pe_int (pa_cons pe_bl (pa_cons pe_str (pa_cons pe_str (pa_cons (pe_lst pa_nil) (pa_cons pe_dnewK (pa_cons (pe_tup pa_nil) (pa_cons (pe_tup (pa_cons (pe_tup pa_nil) pa_nil)) (pa_cons (pe_tup (pa_cons pe_non pa_nil)) (pa_cons (pe_tup (pa_cons pe_int pa_nil)) (pa_cons (pe_tup (pa_cons pe_bl pa_nil)) (pa_cons (pe_tup (pa_cons pe_bl pa_nil)) (pa_cons (pe_lst (pa_cons pe_int pa_nil)) pa_nil))))))))))))))))
      (pss_cons (ps_expr (pe_bm PySem.F.plainAttrs_list PySem.F.slot_list_extend PySem.F.type_list_extend mt_extend (pv 5) (pa_cons (pe_lc (own := [("turn", 6)]) (by rfl) nd (pi_range1 (by rfl) mb_range (pa_cons pe_int pa_nil)) (blkOk_by (own := [("turn", 6)]) (N := N__law_right) (sc := defScope s__law_right) (by decide +kernel)) (fun _ _ _ _ _ => (pg_name (i := 6) nd rfl (.inl rfl))) (fun _ _ _ _ _ => pts_nil) (fun _ _ _ _ _ => (pe_callD d__law_near (by omega) hr (pa_cons (pv 0) (pa_cons (pe_ix (ixT K) (pe_callD d__law_of (by omega) hr (pa_cons (pv 0) (pa_cons (pv 2) pa_nil))) pe_int (fun _ _ => rfl)) pa_nil))))) pa_nil)))
      (pss_cons (ps_for PassesOwn.never rfl (pi_list (pv 5)) (pg_name (i := 7) nd rfl (.inl rfl)) (pss_cons (ps_set (i := 8) nd rfl (Or.inl rfl) (pe_callB (call_reprE hG hr.units) (by rfl) mb_repr (by decide +kernel) (pa_cons (pv 7) pa_nil)))
      (pss_one (ps_if (PW.pt (pw_or (pt_cmpR op_ne (pe_callB (call_reprD hG hr.units) (by rfl) mb_repr (by decide +kernel) (pa_cons (pe_callD d_tree_at (by omega) hr (pa_cons (pv 1) (pa_cons (pv 7) pa_nil))) pa_nil)) (pe_callB (call_reprD hG hr.units) (by rfl) mb_repr (by decide +kernel) (pa_cons (pe_callDG d__law_due hG (by omega) hr (pa_cons (pv 2) (pa_cons (pv 7) pa_nil))) pa_nil)) (nomark _)) (pw_or1 (pt_cmpR op_ne (pe_callB (call_reprE hG hr.units) (by rfl) mb_repr (by decide +kernel) (pa_cons (pv 7) pa_nil)) (pv 8) (nomark _))))) (pss_one (ps_ret pe_bl)) pss_nil))))
      (pss_one (ps_ret pe_bl)))))))), ?_⟩
  have nt : ∀ (n : Nat) (G : Hp), Hand n G a → ∀ x ∈ [a], ∀ xs, G x ≠ some (.tup xs) := fun n G h x hx => by rw [List.mem_singleton.mp hx]; exact h.noTup
  have ne0 : ∀ b : Addr, b ∉ ([] : List Addr) := fun b z => by cases z
  have nil1 : ∀ {G : Hp}, ∀ m ∈ ([] : List Addr), Loose G m := fun m z => by cases z
  refine ⟨_, rfl, _, rfl, a, 0, rfl, hh, by decide, fun nm H1 hr1 k1 hd1 hN1 => ?_⟩
  have nma : nm ≠ a := by obtain ⟨ts, h, _⟩ := hN1; exact hd1.neL h (refNo ts)
  refine ⟨_, rfl, a, 20, rfl, hd1, by omega, fun r H3 zs hr3 k3 hd3 hz hHz => ?_⟩
  have hN3 := hN1.keep k3 (by simpa using nma) (nt _ _ hd1)
  have ra : r ≠ a := (hd1.ne hr3).symm
  refine ⟨_, rfl, a, 4, _, rfl, hd3, by omega, by decide, by decide, fun r4 H5 r40 r41 k5 hd5 => ?_⟩
  have hN5 := hN3.keep k5 (by simpa using nma) (nt _ _ hd3)
  have hz5 := k5 r _ (by simpa using ra) hz
  have cst := cost_le (d := r4.toNat) (by omega)
  refine ⟨r4.toNat, by omega, a, nm, r, zs, _, ?_, hd5, hN5, hz5, hHz.2.1, hHz.2.2.2, by omega, by omega, fun v H6 t k6 hd6 hv hok hdeep hsize => ?_⟩
  · show [V.ref a, V.ref nm, V.ref r, V.int r4] = [V.ref a, V.ref nm, V.ref r, V.int ((r4.toNat : Nat) : Int)]
    rw [Int.toNat_of_nonneg r40]
  have dp4 : t.deep ≤ 4 := by omega
  have sz40 : t.size ≤ 40 := by omega
  have hd6' : Hand 200 H6 a := hd6.more (by omega)
  have k06 : Kp [a] H H6 := ((k1.trans k3).trans k5).trans k6
  have finT := fun (u : Tr) (hu : u.ok zs) => Tr.fine hHz.2.2.2 u hu
  clear hN5 hz5 hN3 hz hd6 hd5 hd3 hd1 hN1
  -- the places
  refine ⟨_, rfl, v, t, rfl, hv, dp4, by omega, fun pl H7 us hpl k7 hus hdp => ?_⟩
  have hv7 := Tr.kp (ms := []) k7 (fun m z => by cases z) t hv
  have hd7 := hd6'.keep k7 (ne0 _)
  have fin : ∀ qq ∈ t.spots, Fine 4 1000 qq.2.data := fun qq hq => (finT qq.2 (spots_ok qq.1 hq hok)).up (by have := (spots_lt qq.1 hq).2.2; omega) (by have := (spots_lt qq.1 hq).2.1; omega)
  refine ⟨_, rfl, pl, rfl, ⟨_, SqL.of hus⟩, ?_⟩
  refine for_list (K := K) (a := pl) (xs := us) (fun i σ G => (∃ x3 x4 : Option V, σ = [some (.ref a), some v, some (.ref pl), x3, x4, none, none, none, none]) ∧ Kp [] H7 G) ?_ ?_ ?_ ?_
  · exact ⟨⟨none, none, rfl⟩, Kp.refl _ _⟩
  · rintro i σ G _ ⟨_, k⟩; exact SqL.of (k _ _ (ne0 _) hus)
  · rintro i y σ G hy ⟨⟨x3, x4, rfl⟩, kG⟩
    have hdpG := kpsN hdp kG
    have hvG := Tr.kp (ms := []) kG (fun m z => by cases z) t hv7
    obtain ⟨e0, he0, hx0⟩ := DpAll.get hdpG hy
    rw [List.getElem?_map] at he0
    obtain ⟨pq, hpq, rfl⟩ := Option.map_eq_some_iff.mp he0
    have hm := List.mem_of_getElem? hpq
    rw [pairD] at hx0
    cases hx0 with
    | @tup pa _ _ g1 g2 =>
      cases g2 with
      | @cons v1 _ _ _ g3 g4 =>
        cases g4 with
        | @cons v2 _ _ _ g5 g6 =>
          cases g6
          have at1 : ∀ rr, AtV K G rr (atD t (spD pq.1)) → Dp K G rr pq.2.data := fun rr h => by rw [at_of_shown hm rfl] at h; exact h
          have fl := fineTwo (fin pq hm) (fin pq hm)
          obtain ⟨c1, c2, c3⟩ := showAll fl (by decide) (by decide)
          refine ⟨pa, _, rfl, g1, rfl, _, _, rfl, _, _, rfl, rfl, ?_⟩
          refine ⟨_, rfl, _, rfl, v, v1, t, rfl, hvG, .inl ⟨_, g3, fun r1 h1 => ?_⟩⟩
          refine ⟨_, rfl, _, rfl, rfl, rfl, v, v1, t, rfl, hvG, .inl ⟨_, g3, fun r2 h2 => ?_⟩⟩
          refine ⟨szLe rfl, fun p hp => ?_⟩
          refine ⟨_, _, rfl, .lst (SqL.of upd_same) (.cons (Tr.new (at1 _ h1) hp) (.cons (Tr.new (at1 _ h2) hp) .nil)), c1, c2, c3, ?_⟩
          refine ⟨_, rfl, _, rfl, szLe rfl, fun p2 hp2 => ?_⟩
          have g5' := Tr.new (o := .lst [r1, r2]) g5 hp
          refine ⟨_, _, rfl, .lst (SqL.of upd_same) (.cons (Tr.new g5' hp2) (.cons (Tr.new g5' hp2) .nil)), c1, c2, c3, rfl, _, rfl, ?_⟩
          refine ite2 (fun c => by simp at c) (fun _ => ?_)
          exact ⟨⟨_, _, rfl⟩, (kG.trans (Kp.new hp)).trans (Kp.new hp2)⟩
  rintro σ G ⟨⟨x3, x4, rfl⟩, kG⟩
  have hdG := hd7.keep kG (ne0 _)
  have hus' := kG pl _ (ne0 _) hus
  have hdpG := kpsN hdp kG
  have hvG := Tr.kp (ms := []) kG (fun m z => by cases z) t hv7
  have k0G : Kp [a] H G := k06.trans ((k7.trans kG).wide (by simp))
  clear hdp hv7 hd7 kG k7 k06
  -- the things
  refine ⟨szLe rfl, fun b1 hb1 d1 hd1' => ⟨szLe rfl, fun t1 ht1 => ⟨szLe rfl, fun t2 ht2 => ⟨szLe rfl, fun t3 ht3 => ⟨szLe rfl, fun t4 ht4 => ⟨szLe rfl, fun t5 ht5 => ⟨szLe rfl, fun t6 ht6 => ⟨szLe rfl, fun t7 ht7 => ⟨szLe rfl, fun l2 hl2 => ⟨szLe rfl, fun L hL => ?_⟩⟩⟩⟩⟩⟩⟩⟩⟩⟩
  have s1 := Kp.new (ms := []) (o := .lst []) hb1
  have s2 := Kp.new (ms := []) (o := .dK []) hd1'
  have s3 := Kp.new (ms := []) (o := .tup []) ht1
  have s4 := Kp.new (ms := []) (o := .tup []) ht2
  have s5 := Kp.new (ms := []) (o := .tup [.ref t2]) ht3
  have s6 := Kp.new (ms := []) (o := .tup [.non]) ht4
  have s7 := Kp.new (ms := []) (o := .tup [.int 0]) ht5
  have s8 := Kp.new (ms := []) (o := .tup [.bl true]) ht6
  have s9 := Kp.new (ms := []) (o := .tup [.bl false]) ht7
  have s10 := Kp.new (ms := []) (o := .lst [.int 0]) hl2
  have u9 := s9.trans s10
  have u8 := s8.trans u9
  have u7 := s7.trans u8
  have u6 := s6.trans u7
  have u5 := s5.trans u6
  have u4 := s4.trans u5
  have u3 := s3.trans u4
  have u2 := s2.trans u3
  have u1 := s1.trans u2
  have e1 := u2 b1 _ (ne0 _) upd_same
  have e2 := u3 d1 _ (ne0 _) upd_same
  have e3 := u4 t1 _ (ne0 _) upd_same
  have e4 := u5 t2 _ (ne0 _) upd_same
  have e5 := u6 t3 _ (ne0 _) upd_same
  have e6 := u7 t4 _ (ne0 _) upd_same
  have e7 := u8 t5 _ (ne0 _) upd_same
  have e8 := u9 t6 _ (ne0 _) upd_same
  have e9 := s10 t7 _ (ne0 _) upd_same
  have b1a : b1 ∉ [a] := by simpa using (hdG.ne hb1).symm
  have d1a : d1 ∉ [a] := by simpa using ((hdG.keep s1 (ne0 _)).ne hd1').symm
  have l2a : l2 ∉ [a] := by simpa using ((hdG.keep (((((((((s1.trans s2).trans s3).trans s4).trans s5).trans s6).trans s7).trans s8)).trans s9) (ne0 _)).ne hl2).symm
  have hdL := hdG.keep u1 (ne0 _)
  have hpl := u1 pl _ (ne0 _) hus'
  have e10 := newAt (o := .lst [.int 0]) hl2
  have k0L := k0G.trans (u1.wide (by simp))
  have hdpL := kpsN hdpG u1
  have hvL := Tr.kp (ms := []) u1 (fun m z => by cases z) t hvG
  clear u1 u2 u3 u4 u5 u6 u7 u8 u9 s1 s2 s3 s4 s5 s6 s7 s8 s9 s10
  clear hdG hus' hdpG hvG k0G
  generalize upd _ l2 (HO.lst [V.int 0]) = GF at e1 e2 e3 e4 e5 e6 e7 e8 e9 e10 hdL hpl k0L hdpL hvL hL ⊢
  have th0 : ∀ x ∈ [V.non, .int 0, .bl true, .str "", .str "0", .ref b1, .ref d1, .ref t1, .ref t3, .ref t4, .ref t5, .ref t6, .ref t7, .ref l2], Th2 K [a] GF x := by
    intro x hx
    simp only [List.mem_cons, List.not_mem_nil, or_false] at hx
    have one : ∀ d : PyData, Fi 0 0 d → Fi 4 2000 (.tuple [d]) := fun d h => (Fis.tuple (Fis.cons h (Fis.nil 0 0))).up (by decide) (by decide)
    rcases hx with rfl | rfl | rfl | rfl | rfl | rfl | rfl | rfl | rfl | rfl | rfl | rfl | rfl | rfl
    · exact .inl ⟨.none, .non, (Fi.none 0).up (by decide) (by decide)⟩
    · exact .inl ⟨.int 0, .int 0, (Fi.int (by decide) 0).up (by decide) (by decide)⟩
    · exact .inl ⟨.bool true, .bl _, (Fi.bool _ 0).up (by decide) (by decide)⟩
    · exact .inl ⟨.str "", .str _, (Fi.str ⟨by decide, by decide⟩ 0).up (by decide) (by decide)⟩
    · exact .inl ⟨.str "0", .str _, (Fi.str ⟨by decide, by decide⟩ 0).up (by decide) (by decide)⟩
    · exact .inl ⟨.list [], .lst b1a e1 .nil, (Fis.list (Fis.nil 0 0)).up (by decide) (by decide)⟩
    · exact .inr ⟨d1, rfl, d1a, e2⟩
    · exact .inl ⟨.tuple [], .tup (SqT.of e3) .nil, (Fis.tuple (Fis.nil 0 0)).up (by decide) (by decide)⟩
    · exact .inl ⟨.tuple [.tuple []], .tup (SqT.of e5) (.cons (.tup (SqT.of e4) .nil) .nil), (Fis.tuple (Fis.cons (Fis.tuple (Fis.nil 0 0)) (Fis.nil 1 0))).up (by decide) (by decide)⟩
    · exact .inl ⟨.tuple [.none], .tup (SqT.of e6) (.cons .non .nil), one _ (Fi.none 0)⟩
    · exact .inl ⟨.tuple [.int 0], .tup (SqT.of e7) (.cons (.int 0) .nil), one _ (Fi.int (by decide) 0)⟩
    · exact .inl ⟨.tuple [.bool true], .tup (SqT.of e8) (.cons (.bl _) .nil), one _ (Fi.bool _ 0)⟩
    · exact .inl ⟨.tuple [.bool false], .tup (SqT.of e9) (.cons (.bl _) .nil), one _ (Fi.bool _ 0)⟩
    · exact .inl ⟨.list [.int 0], .lst l2a e10 (.cons (.int 0) .nil), (Fis.list (Fis.cons (Fi.int (by decide) 0) (Fis.nil 0 0))).up (by decide) (by decide)⟩
  generalize hxs : [V.non, .int 0, .bl true, .str "", .str "0", .ref b1, .ref d1, .ref t1, .ref t3, .ref t4, .ref t5, .ref t6, .ref t7, .ref l2] = xs at th0 ⊢
  have xl : xs.length = 14 := by rw [← hxs]; rfl
  clear e1 e2 e3 e4 e5 e6 e7 e8 e9 e10 hb1 hd1' ht1 ht2 ht3 ht4 ht5 ht6 ht7 hl2 b1a d1a l2a hxs
  have kL := Kp.new (ms := []) (o := .lst xs) hL
  have La : L ≠ a := (hdL.ne hL).symm
  have th1 : ∀ x ∈ xs, Th2 K [L, a] (upd GF L (.lst xs)) x := fun x hx => ((th0 x hx).more hL).new kL
  have hL1 := newAt (o := .lst xs) hL
  have hd1 := hdL.keep kL (ne0 _)
  have hpl1 := kL pl _ (ne0 _) hpl
  have hdp1 := kpsN hdpL kL
  have hv1 := Tr.kp (ms := []) kL (fun m z => by cases z) t hvL
  have k01 := k0L.trans (kL.wide (by simp))
  have Lpl : pl ≠ L := ne_of_none hpl hL
  have hL0 : H L = none := k0L.free hL (by simpa using La)
  clear th0 hdL hpl k0L hdpL hvL kL hL
  generalize upd GF L (.lst xs) = GL at th1 hL1 hd1 hpl1 hdp1 hv1 k01 ⊢
  -- more of them
  refine ⟨_, rfl, .inl ⟨rfl, _, SqL.of hL1⟩, ?_⟩
  walk_at "go"
  intro D hD
  have Da : D ≠ a := (hd1.ne hD).symm
  have DL : D ≠ L := (ne_of_none hL1 hD).symm
  have Dpl : D ≠ pl := (ne_of_none hpl1 hD).symm
  have pla : pl ≠ a := by
    rintro rfl
    obtain ⟨g, d, c, h, _⟩ := hd1
    rw [h] at hpl1
    cases hpl1
    cases t with
    | h z => rw [Tr.spots, List.map_cons, pairD] at hdp1; cases hdp1 with | cons a b => cases a
    | n f ps => rw [Tr.spots, List.map_cons, pairD] at hdp1; cases hdp1 with | cons a b => cases a
  have usl : us.length = t.size := by rw [DpAll.length hdp1, List.length_map, Tr.spots_len]
  have tpos : 1 ≤ t.size := by cases t <;> (first | (rw [size_h]) | (rw [size_n])) <;> omega
  refine lc_range (lo := 0) (n := 12) (fun i G2 => Kp [a] GL G2 ∧ Hand (200 + 4 * i) G2 a ∧ ∃ ys : List V, G2 D = some (.lst ys) ∧ ys.length = i ∧ ∀ y ∈ ys, Th2 K [D, L, a] G2 y) ?_ ?_ ?_
  · exact ⟨Kp.new hD, (hd1.new hD).more (by omega), [], upd_same, rfl, by simp⟩
  · rintro i G2 hi ⟨k2, hd2, ys, hD2, hyl, hys⟩
    have hi' : i < 12 := hi
    refine ⟨rfl, ?_⟩
    have hpl2 := k2 pl _ (by simpa using pla) hpl1
    have hdp2 : DpAll K G2 us (t.spots.map pairD) := Dps.kpF k2 (fun m z => by rw [List.mem_singleton.mp z]; exact hd1.loose) _ (noLs_all fun d hd => by obtain ⟨q, _, rfl⟩ := List.mem_map.mp hd; exact pairD_noL q) hdp1
    refine ⟨_, rfl, _, rfl, _, rfl, a, .ref pl, 200 + 4 * i, rfl, hd2, by omega, .inl ⟨pl, us, rfl, pla, hpl2, by intro e; rw [e] at usl; simp at usl; omega, by omega, fun j y G3 hy k3 hd3 => ?_⟩⟩
    have hdp3 : DpAll K G3 us (t.spots.map pairD) := Dps.kpF k3 (fun m z => by rw [List.mem_singleton.mp z]; exact hd2.loose) _ (noLs_all fun d hd => by obtain ⟨q, _, rfl⟩ := List.mem_map.mp hd; exact pairD_noL q) hdp2
    obtain ⟨e0, he0, hx0⟩ := DpAll.get hdp3 hy
    rw [List.getElem?_map] at he0
    obtain ⟨pq, hpq, rfl⟩ := Option.map_eq_some_iff.mp he0
    have hm := List.mem_of_getElem? hpq
    rw [pairD] at hx0
    cases hx0 with
    | @tup pa _ _ g1 g2 =>
      cases g2 with
      | @cons v1 _ _ _ g3 g4 =>
        rw [spD] at g3
        cases g3 with
        | @tup sa ss _ g7 g8 =>
          rw [spotV g8] at g7
          have lt := (spots_lt pq.1 hm).1
          refine ⟨_, _, _, _, rfl, rfl, g1, atI0, ?_⟩
          refine ⟨a, sa, pq.1, 200 + 4 * i + 1, rfl, hd3, g7, ?_, ?_, by omega, fun rr G4 d k4 hd4 hap hfi => ?_⟩
          · have := Tr.spots_deep t pq hm; omega
          · intro i hi; have := lt i hi; omega
          have hD3 := k3 D _ (by simpa using Da) hD2
          have hD4 := k4 D _ (by simpa using Da) hD3
          have k24 := k3.trans k4
          have hL3 : G3 L = some (.lst xs) := k3 L _ (by simpa using La) (k2 L _ (by simpa using La) hL1)
          refine ⟨ys, hD4, small1000 (by omega), (k2.trans k24).put0 hD, (hd4.more (by omega)).put Da, ys ++ [rr], upd_same, by rw [List.length_append, hyl]; rfl, ?_⟩
          intro y hy
          have put : ∀ y, Th2 K [D, L, a] G4 y → Th2 K [D, L, a] (upd G4 D (.lst (ys ++ [rr]))) y := fun y h =>
            h.kp (ns := [D]) (Kp.put (by simp)) (fun b hb => by rw [List.mem_singleton.mp hb]; simp) (fun m z => by rw [List.mem_singleton.mp z]; exact .lst hD4)
          rcases List.mem_append.mp hy with h | h
          · exact put y ((hys y h).kp (ns := [a]) k24 (fun b hb => by rw [List.mem_singleton.mp hb]; simp) (fun m z => by rw [List.mem_singleton.mp z]; exact hd2.loose))
          · rw [List.mem_singleton.mp h]
            refine put rr (.inl ⟨d, hap _ ?_, hfi⟩)
            intro m hm
            simp only [List.mem_cons, List.not_mem_nil, or_false] at hm
            rcases hm with rfl | rfl | rfl
            · rw [hD3]; simp
            · rw [hL3]; simp
            · obtain ⟨l, q⟩ := hd3.there; rw [q]; simp
  rintro G2 ⟨k2, hd2, ys, hD2, hyl, hys⟩
  have hL2 := k2 L _ (by simpa using La) hL1
  have hpl2 := k2 pl _ (by simpa using pla) hpl1
  have hdp2 : DpAll K G2 us (t.spots.map pairD) := Dps.kpF k2 (fun m z => by rw [List.mem_singleton.mp z]; exact hd1.loose) _ (noLs_all fun d hd => by obtain ⟨q, _, rfl⟩ := List.mem_map.mp hd; exact pairD_noL q) hdp1
  have hv2 := Tr.kp k2 (fun m z => by rw [List.mem_singleton.mp z]; exact hd1.loose) t hv1
  refine ⟨L, D, _, _, rfl, rfl, hL2, hD2, Nat.le_trans (show xs.length + ys.length ≤ 100 by rw [xl, hyl]; decide) (by decide), ?_⟩
  have th2 : ∀ x ∈ xs ++ ys, Th2 K [L] (upd G2 L (.lst (xs ++ ys))) x := by
    have weak : ∀ (ms : List Addr) (G : Hp) x, L ∈ ms → Th2 K ms G x → Th2 K [L] G x := by
      intro ms G x hm h
      have sub : ∀ b ∈ [L], b ∈ ms := fun b hb => by rw [List.mem_singleton.mp hb]; exact hm
      rcases h with ⟨d, h, f⟩ | ⟨p, e, hp, q⟩
      · exact .inl ⟨d, h.weak sub, f⟩
      · exact .inr ⟨p, e, fun z => hp (sub _ z), q⟩
    have put : ∀ x, Th2 K [L] G2 x → Th2 K [L] (upd G2 L (.lst (xs ++ ys))) x := fun x h =>
      h.kp (ns := [L]) (Kp.put (by simp)) (fun b hb => hb) (fun m z => by rw [List.mem_singleton.mp z]; exact .lst hL2)
    intro x hx
    refine put x ?_
    rcases List.mem_append.mp hx with h | h
    · exact weak [L, a] _ x (by simp) ((th1 x h).kp (ns := [a]) k2 (fun b hb => by rw [List.mem_singleton.mp hb]; simp) (fun m z => by rw [List.mem_singleton.mp z]; exact hd1.loose))
    · exact weak [D, L, a] _ x (by simp) (hys x h)
  have kU : Kp [L] G2 (upd G2 L (.lst (xs ++ ys))) := Kp.put (by simp)
  have lsU : ∀ m ∈ [L], Loose G2 m := fun m z => by rw [List.mem_singleton.mp z]; exact .lst hL2
  have hpl3 := kU pl _ (by simpa using Lpl) hpl2
  have hdp3 : DpAll K _ us (t.spots.map pairD) := Dps.kpF kU lsU _ (noLs_all fun d hd => by obtain ⟨q, _, rfl⟩ := List.mem_map.mp hd; exact pairD_noL q) hdp2
  have hv3 := Tr.kp kU lsU t hv2
  have hL3 : upd G2 L (.lst (xs ++ ys)) L = some (.lst (xs ++ ys)) := upd_same
  have kHU : Kp [a] H (upd G2 L (.lst (xs ++ ys))) := (k01.trans k2).put0 hL0
  generalize upd G2 L (.lst (xs ++ ys)) = GU at th2 hpl3 hdp3 hv3 hL3 kU kHU ⊢
  -- each thing
  refine ⟨_, rfl, L, rfl, ⟨_, SqL.of hL3⟩, ?_⟩
  refine for_list (K := K) (a := L) (xs := xs ++ ys) (fun i σ G => (∃ x7 x8 : Option V, σ = [some (.ref a), some v, some (.ref pl), x3, x4, some (.ref L), none, x7, x8]) ∧ Kp [] GU G) ?_ ?_ ?_ ?_
  · exact ⟨⟨none, none, rfl⟩, Kp.refl _ _⟩
  · rintro i σ G _ ⟨_, k⟩; exact SqL.of (k _ _ (ne0 _) hL3)
  · rintro i x σ G hx ⟨⟨x7, x8, rfl⟩, kG⟩
    have hplG := kG pl _ (ne0 _) hpl3
    have hdpG := kpsN hdp3 kG
    have hvG := Tr.kp (ms := []) kG (fun m z => by cases z) t hv3
    obtain ⟨o, hT⟩ : ∃ o, Thing K G x o := by
      rcases (th2 x (List.mem_of_getElem? hx)).new kG with ⟨d, h, f⟩ | ⟨p, e, hp, q⟩
      · exact ⟨some d, .inl ⟨d, rfl, h.dp, f⟩⟩
      · exact ⟨none, .inr ⟨rfl, p, e, q⟩⟩
    have ask : ∀ (Q : VK) (E : XK), (∀ r, AtV K G r (dueT t o) → Q r G) → spTreeAt K [v, x] G Q E := by
      intro Q E h
      refine ⟨v, x, t, rfl, hvG, ?_⟩
      rcases id hT with ⟨d, rfl, hd, f⟩ | ⟨rfl, p, rfl, hp⟩
      · exact .inl ⟨d, hd, h⟩
      · exact .inr ⟨p, [], rfl, hp, h .non rfl⟩
    obtain ⟨dd, fd, hdd⟩ : ∃ dd, Fine 4 1000 dd ∧ ∀ r, AtV K G r (dueT t o) → Dp K G r dd := by
      cases e : dueT t o with
      | none => exact ⟨.none, (Fine.none 4).up (by decide) (by decide), fun r h => by cases h; exact .non⟩
      | some u =>
        refine ⟨u.data, ?_, fun r h => h⟩
        cases o with
        | none => cases e
        | some d =>
          cases d with
          | tuple ds =>
            obtain ⟨s, _, hm⟩ := spot_of_walk ds e
            exact fin (s, u) hm
          | none => cases e
          | bool b => cases e
          | int x => cases e
          | str x => cases e
          | list x => cases e
          | dict x => cases e
    obtain ⟨c1, c2, c3⟩ := showAll fd (by decide) (by decide)
    refine ⟨_, rfl, hT.repr ?_⟩
    refine ⟨_, rfl, _, rfl, ask _ E0 fun r1 h1 => ?_⟩
    refine ⟨_, _, rfl, hdd _ h1, c1, c2, c3, ?_⟩
    refine ⟨_, rfl, _, rfl, pl, x, us, t, o, rfl, hplG, hdpG, by omega, by omega, hT, fun r2 h2 => ?_⟩
    refine ⟨_, _, rfl, hdd _ h2, c1, c2, c3, rfl, _, rfl, ?_⟩
    refine ite2 (fun c => by simp at c) (fun _ => ?_)
    refine ⟨_, rfl, hT.repr ?_⟩
    refine ⟨_, rfl, rfl, _, rfl, ?_⟩
    refine ite2 (fun c => by simp at c) (fun _ => ?_)
    exact ⟨⟨_, _, rfl⟩, kG⟩
  · rintro σ G ⟨⟨x7, x8, rfl⟩, kG⟩
    exact q G (kHU.trans (kG.wide (by simp)))
end
end Ah
namespace Ah
open PySem PySem.Spec PyProof.Rows L2
local macro_rules | `(tactic| walk_at "side") => `(tactic| first | omega | decide | (dsimp only; omega) | (unfold CDivN; omega) | (unfold CMul; omega) | (unfold CPow; omega) | (unfold CPow; decide) | (unfold CMulW; decide) | exact szLe rfl | rfl)
local macro_rules | `(tactic| walk_at "here") => `(tactic| first | assumption | exact upd_same)
local macro_rules | `(tactic| walk_at "go") => `(tactic| repeat (first
  | (refine ⟨_, rfl, ?_⟩)
  | (refine ⟨_, _, rfl, rfl, ?_⟩)
  | (refine ⟨_, _, _, _, rfl, rfl, SqL.of (by walk_at "here"), rfl, ?_⟩)
  | (refine ⟨_, _, _, _, rfl, rfl, (by walk_at "here"), rfl, ?_⟩)
  | (refine ⟨_, _, rfl, ?_⟩)
  | (refine And.intro (by walk_at "side") ?_)))

abbrev s_law : Stmt := topS 14
abbrev N_law : List Str := ["script", "k"]
theorem sc_law : FnScope N_law ["script"] (defScope s_law) :=
  ⟨rfl, rfl, rfl, by decide +kernel, rfl, by decide +kernel, by decide +kernel⟩
theorem po_law : Posi "law" s_law ["script"] := fun _ _ _ _ _ _ us hl => match us, hl with | [_], _ => rfl

section
variable {P : Program} {w : World} {K : PySem.W.Frag} {mg : Str → Option Value} {base : Heap}
theorem h_law {j : Nat} (hj : j ≤ 100) (T : At K mg "law" s_law) (d__law_hand : Has P w K mg base 1 "_law_hand" s__law_hand ["script", "k"] (spHand K))
    (d__law_right : HasG P w K mg base j "_law_right" s__law_right ["hand"] spRight)
    (mb_range : mg "range" = none) (mb_max : mg "max" = none) (mb_min : mg "min" = none) (mb_len : mg "len" = none) :
    HasG P w K mg base 101 "law" s_law ["script"] (spLaw K) := by
  refine T.hasG sc_law po_law (fun vs H Q E h => ?_) (fun f cdv A outer s H vs Q E hG hr h => ?_)
  · obtain ⟨a, ns, rfl, _⟩ := h; rfl
  obtain ⟨a, ns, rfl, hS, h63, q⟩ := h
  have nd := sc_law.nd
  refine ⟨_, (pss_cons (ps_for PassesOwn.never rfl (pi_range1 (by rfl) mb_range (pa_cons (pe_callB (call_max2 rfl) (by rfl) mb_max (by decide +kernel) (pa_cons pe_int (pa_cons (pe_callB (call_min2 rfl) (by rfl) mb_min (by decide +kernel) (pa_cons pe_int (pa_cons (pe_callB call_len_seq (by rfl) mb_len (by decide +kernel) (pa_cons (pv 0) pa_nil)) pa_nil))) pa_nil))) pa_nil)) (pg_name (i := 1) nd rfl (.inl rfl)) (pss_one (ps_if (pt_not (pt_val (pe_callDG d__law_right hG (by omega) hr (pa_cons (pe_callD d__law_hand (by omega) hr (pa_cons (pv 0) (pa_cons (pv 1) pa_nil))) pa_nil)))) (pss_one (ps_ret pe_bl)) pss_nil)))
      (pss_one (ps_ret pe_bl))), ?_⟩
  refine ⟨_, rfl, _, _, rfl, .inl hS, 3, _, rfl, 1, _, rfl, ?_⟩
  rw [List.length_map]
  have small : ∀ n : Nat, n ≤ 63 → 1 ≤ (if (if ((n : Nat) : Int) < 3 then ((n : Nat) : Int) else 3) > 1 then (if ((n : Nat) : Int) < 3 then ((n : Nat) : Int) else 3) else 1) ∧
      (if (if ((n : Nat) : Int) < 3 then ((n : Nat) : Int) else 3) > 1 then (if ((n : Nat) : Int) < 3 then ((n : Nat) : Int) else 3) else 1) ≤ 3 := by
    intro n _
    constructor <;> (split <;> (try split) <;> omega)
  obtain ⟨s1, s3⟩ := small ns.length h63
  refine ⟨_, rfl, by omega, by omega, ?_⟩
  generalize (if (if ((ns.length : Nat) : Int) < 3 then ((ns.length : Nat) : Int) else 3) > 1 then (if ((ns.length : Nat) : Int) < 3 then ((ns.length : Nat) : Int) else 3) else 1) = n at s1 s3 ⊢
  refine for_range (lo := 0) (n := n.toNat) (fun i σ H2 => (∃ x1 : Option V, σ = [some (.ref a), x1]) ∧ SqL K H2 a (ns.map V.int)) ?_ ?_ ?_
  · exact ⟨⟨none, rfl⟩, hS⟩
  · rintro i σ H2 hi ⟨⟨x1, rfl⟩, hS2⟩
    refine ⟨_, rfl, _, rfl, a, ns, i, by simp, hS2, by omega, fun r H3 hr3 k3 hd3 => ?_⟩
    refine ⟨r, rfl, hd3, fun H4 k4 => ?_⟩
    refine ⟨_, rfl, ⟨_, rfl⟩, ?_⟩
    exact SqL.kp (ms := [r]) ((k3.wide (by simp)).trans k4) (fun m hm => by rw [List.mem_singleton.mp hm]; exact hr3) hS2
  · rintro σ H2 ⟨⟨x1, rfl⟩, hS2⟩
    exact q H2
end
end Ah
namespace Ah
open PySem PySem.Spec PyProof.Rows L2
section
variable {P : Program} {w : World} {K : PySem.W.Frag} {mg : Str → Option Value} {fa : Addr}
theorem all_mk (hfa : mg "law" = some (.ref fa)) (T_is_hole : At K mg "is_hole" s_is_hole) (T_tree_at : At K mg "tree_at" s_tree_at) (T__law_hand : At K mg "_law_hand" s__law_hand) (T__law_take : At K mg "_law_take" s__law_take) (T__law_of : At K mg "_law_of" s__law_of) (T__law_words : At K mg "_law_words" s__law_words) (T__law_tree : At K mg "_law_tree" s__law_tree) (T__law_called : At K mg "_law_called" s__law_called) (T__law_places : At K mg "_law_places" s__law_places) (T__law_near : At K mg "_law_near" s__law_near) (T__law_due : At K mg "_law_due" s__law_due) (T__law_right : At K mg "_law_right" s__law_right) (T_law : At K mg "law" s_law) (mb_type : mg "type" = none) (mb_str : mg "str" = none) (mb_tuple : mg "tuple" = none) (mb_int : mg "int" = none) (mb_list : mg "list" = none) (mb_len : mg "len" = none) (mb_abs : mg "abs" = none) (mb_range : mg "range" = none) (mb_enumerate : mg "enumerate" = none) (mb_isinstance : mg "isinstance" = none) (mb_repr : mg "repr" = none) (mb_max : mg "max" = none) (mb_min : mg "min" = none) :
    ∃ fd : FuncData, (∀ (s : Shared) (v : Value), BindsTo s fd ⟨[v], []⟩ [("script", v)]) ∧ ∀ base : Heap, K.In base → base.Ns mainGlobals mg → FnG P w K mg base CX0 101 fa fd ["script"] (spLaw K) :=
  lawFn hfa T_law po_law fun base => by
    have take := h_take (P := P) (w := w) (base := base) T__law_take
    have of_ := h_of T__law_of take mb_len
    have hand := h_hand (P := P) (w := w) (base := base) T__law_hand mb_len mb_abs mb_int
    have words := h_words T__law_words take of_ mb_range mb_enumerate
    have called := h_called T__law_called of_
    have tree := Has.any 3 fun d hd => (h_tree T__law_tree take of_ mb_range mb_tuple d).up (k := 6) (by omega)
    have isHole := h_is_hole (P := P) (w := w) (base := base) T_is_hole mb_type mb_str
    have treeAt := h_tree_at T_tree_at isHole mb_type mb_tuple mb_int mb_len
    have places := h_places (P := P) (w := w) (base := base) T__law_places mb_isinstance mb_str mb_enumerate 4
    have near := h_near T__law_near take of_ mb_len mb_list
    have due := h_due (P := P) (w := w) (base := base) T__law_due mb_repr
    have right := h_right T__law_right take of_ words called tree places near due treeAt mb_range mb_repr
    exact h_law (by decide) T_law hand right mb_range mb_max mb_min mb_len
end
end Ah
open PySem PySem.W PyProof.Rows
set_option maxRecDepth 100000 in
set_option maxHeartbeats 0 in
theorem PySem.Challenge.cw_aheadofholes_k05_places_of_trees_holds : PySem.Challenge.rw_aheadofholes_k05_places_of_trees.Holds := by
  w_on; o_law; k_head; (case hw => w_witness2)
  k_fill
  refine Ah.walkG (l := PySem.Challenge.rw_aheadofholes_k05_places_of_trees) (n := 63) (k := 101) (x := "script") (sp := fun w => Ah.spLaw _) rfl (by decide) rfl ⟨rfl, by decide, by decide⟩ (fun w h Y => PySem.W.kIn_of Y) ?F (fun w H a ns hl _ hS => ⟨a, ns, rfl, hS, hl, fun _ => rfl⟩)
  case F =>
    intro w mg fa h KX G hmg
    refine' Ah.all_mk hmg (Ah.mkAt KX G ?a0 ?l0 ?c0 ?k0) (Ah.mkAt KX G ?a1 ?l1 ?c1 ?k1) (Ah.mkAt KX G ?a2 ?l2 ?c2 ?k2) (Ah.mkAt KX G ?a3 ?l3 ?c3 ?k3) (Ah.mkAt KX G ?a4 ?l4 ?c4 ?k4) (Ah.mkAt KX G ?a5 ?l5 ?c5 ?k5) (Ah.mkAt KX G ?a6 ?l6 ?c6 ?k6) (Ah.mkAt KX G ?a7 ?l7 ?c7 ?k7) (Ah.mkAt KX G ?a8 ?l8 ?c8 ?k8) (Ah.mkAt KX G ?a9 ?l9 ?c9 ?k9) (Ah.mkAt KX G ?a10 ?l10 ?c10 ?k10) (Ah.mkAt KX G ?a11 ?l11 ?c11 ?k11) (Ah.mkAt KX G ?a12 ?l12 ?c12 ?k12) (Ah.mkNo KX G ?z0) (Ah.mkNo KX G ?z1) (Ah.mkNo KX G ?z2) (Ah.mkNo KX G ?z3) (Ah.mkNo KX G ?z4) (Ah.mkNo KX G ?z5) (Ah.mkNo KX G ?z6) (Ah.mkNo KX G ?z7) (Ah.mkNo KX G ?z8) (Ah.mkNo KX G ?z9) (Ah.mkNo KX G ?z10) (Ah.mkNo KX G ?z11) (Ah.mkNo KX G ?z12)
    (case a0 => k_is); (case l0 => k_is); (case c0 => k_is); (case k0 => k_is)
    (case a1 => k_is); (case l1 => k_is); (case c1 => k_is); (case k1 => k_is)
    (case a2 => k_is); (case l2 => k_is); (case c2 => k_is); (case k2 => k_is)
    (case a3 => k_is); (case l3 => k_is); (case c3 => k_is); (case k3 => k_is)
    (case a4 => k_is); (case l4 => k_is); (case c4 => k_is); (case k4 => k_is)
    (case a5 => k_is); (case l5 => k_is); (case c5 => k_is); (case k5 => k_is)
    (case a6 => k_is); (case l6 => k_is); (case c6 => k_is); (case k6 => k_is)
    (case a7 => k_is); (case l7 => k_is); (case c7 => k_is); (case k7 => k_is)
    (case a8 => k_is); (case l8 => k_is); (case c8 => k_is); (case k8 => k_is)
    (case a9 => k_is); (case l9 => k_is); (case c9 => k_is); (case k9 => k_is)
    (case a10 => k_is); (case l10 => k_is); (case c10 => k_is); (case k10 => k_is)
    (case a11 => k_is); (case l11 => k_is); (case c11 => k_is); (case k11 => k_is)
    (case a12 => k_is); (case l12 => k_is); (case c12 => k_is); (case k12 => k_is)
    (case z0 => k_is)
    (case z1 => k_is)
    (case z2 => k_is)
    (case z3 => k_is)
    (case z4 => k_is)
    (case z5 => k_is)
    (case z6 => k_is)
    (case z7 => k_is)
    (case z8 => k_is)
    (case z9 => k_is)
    (case z10 => k_is)
    (case z11 => k_is)
    (case z12 => k_is)
#print axioms PySem.Challenge.cw_aheadofholes_k05_places_of_trees_holds

