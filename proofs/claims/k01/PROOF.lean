import PyProof.Rows.All
import Wide.All
import OpenK.AllK
import Wide.FinOn
import PyProof.EqAt
import PyProof.EqKinds
import PyProof.TupleCall
import PyProof.ReprRoads
import KE.KIsAll
import HandS.ForMost
import HandS.ForExc
import HandS.ExcInit
import HandS.ExcValue
import HandS.ExcIs
import HandS.ExcField
import HandS.MakeKw
import HandS.IsInst
import KE.KStateDown
import HandS.Defaults
import HandS.Head0
import HandS.Head1
import HandS.Head2
import HandS.HeadHook1
import HandS.HeadHook2
import PySem.Challenge.RW_gridwright_k01_whole_errors_and_limits
import PyProof.ReprLen
import PyProof.FitsInt
import HandS.HeadEnd
set_option Elab.async false
set_option linter.all false
set_option maxRecDepth 100000
set_option maxHeartbeats 4000000
/-! A layer of my own over the hand layer: texts of data, errors held as values. -/
namespace GX
open PySem PySem.Spec PyProof.Rows L2

/-! ### repr of data -/
structure Shw (d : PyData) : Prop where
  sh : d.showable = true
  nd : d.hasDict = false
  ln : d.shown.length ≤ sizeLine
  dp : d.depth ≤ 30
def rRepr (K : PySem.W.Frag) : List V → Hp → VK → Prop := fun xs H Q => ∃ (v : V) (d : PyData), xs = [v] ∧ Dp K H v d ∧ Shw d ∧ Q (.str d.shown) H
theorem call_reprD {X : Cx} (hg : X.A.guards = some []) (hu : X.A.units + 64 < cLine) : CallR X (.builtin "repr") (rRepr X.K) := by
  intro pins s σ H xs us Q I r h
  obtain ⟨v, d, rfl, hd, hs, q⟩ := h
  obtain ⟨u, rfl, ru⟩ := Vals.one r
  cases hd with
  | non => cases ru; exact P.repr_of_none ⟨.str _, H, I.tok _, ⟨_, rfl⟩, q⟩
  | bl b => cases ru; exact P.repr_of_bool ⟨.str _, H, I.tok _, ⟨_, rfl⟩, q⟩
  | int i =>
    obtain ⟨t, rfl⟩ := ru
    exact P.repr_of_int (of_decide_eq_true hs.sh) ⟨.str _, H, I.tok _, ⟨_, rfl⟩, q⟩
  | str x =>
    obtain ⟨t, rfl⟩ := ru
    exact P.repr_of_str ⟨.str _, H, I.tok _, ⟨_, rfl⟩, q⟩ hs.ln
  | lst h1 h2 =>
    obtain ⟨as, rd⟩ := Dp.reads I _ _ _ (.lst h1 h2) ru
    cases ru
    refine repr_of_reads' rd hs.sh (fun z => by rw [hs.nd] at z; cases z) hg (by have := hs.dp; omega) (fun _ _ e => e) (fun h' u tk k => ?_) hs.ln
    exact ⟨.str _, H, I.kept k, ⟨_, rfl⟩, q⟩
  | tup h1 h2 =>
    obtain ⟨as, rd⟩ := Dp.reads I _ _ _ (.tup h1 h2) ru
    cases ru
    refine repr_of_reads' rd hs.sh (fun z => by rw [hs.nd] at z; cases z) hg (by have := hs.dp; omega) (fun _ _ e => e) (fun h' u tk k => ?_) hs.ln
    exact ⟨.str _, H, I.kept k, ⟨_, rfl⟩, q⟩
end GX
set_option Elab.async false
set_option linter.all false
set_option maxRecDepth 100000
set_option maxHeartbeats 4000000
/-! Promises of defs that show data: they ask that no repr runs around them. -/
namespace GX
open PySem PySem.Spec PyProof.Rows L2

structure FnG (P : Program) (w : World) (K : PySem.W.Frag) (mg : Str → Option Value) (base : Heap) (CX : CXT) (k : Nat) (f : Addr) (fd : FuncData) (ps : List Str) (sp : Sp) : Prop where
  len : ∀ vs H Q E, sp vs H Q E → vs.length = ps.length
  run : ∀ (A : Around) (outer : List Env) (s : Shared) (H : Hp) (args : Args) (us : List Value) (vs : List V) (Q : VK) (E : XK), Room k A → A.guards = some [] → Env0 P w K mg base A outer s H →
    BindsTo s fd args (ps.zip us) → Vals vs us → sp vs H Q E → codeAny (model P w) A (.call (.ref f) args) (CR CX outer P w H s Q E) s

section
variable {P : Program} {w : World} {K : PySem.W.Frag} {mg : Str → Option Value} {base : Heap}
theorem fnG_of {CX : CXT} {x qual : Str} {st : Stmt} {f : Addr} {fd : FuncData} {N ps : List Str} {k : Nat} {sp : Sp} (F : Fun K x qual st f fd) (S : FnScope N ps (defScope st)) (len : ∀ vs H Q E, sp vs H Q E → vs.length = ps.length)
    (hbody : ∀ (cdv : Value) (A : Around) (outer : List Env) (s : Shared) (H : Hp) (vs : List V) (Q : VK) (E : XK), Room k (A.deeper (envOfC qual (defScope st) s.heap.objs.size f cdv)) → A.guards = some [] → sp vs H Q E →
      ∃ t, PSs (cxOf CX P w K mg base N qual (defScope st) f cdv A outer s H E) (defBody st) t ∧ t { nx := fun _ H' => Q .non H', rt := Q } (start N vs) H) : FnG P w K mg base CX (k + 1) f fd ps sp := by
  obtain ⟨oc, od, kV, doc, pm, an, cdv, ct, osl, rfl, lk, hcd⟩ := F.ex
  refine ⟨len, ?_⟩
  intro A outer s H args us vs Q E hr hgd e0 hb r hsp
  have nVs := len vs H Q E hsp
  have inK : K.In s.heap := e0.mod.kin.keeps (fun b o z => (e0.bs b o z).1)
  have noLim : s.heap.NoLimit := e0.mod.nolimit.keeps (fun b o z => (e0.bs b o z).1)
  have params : ∀ y ∈ ps.zip us, (defScope st).names.lookup y.1 = some .local ∨ ((defScope st).names.lookup y.1 = some .cell ∧ ((cellsFrom (s.heap.objs.size + 1) (defScope st).names []).lookup y.1).isSome = true) := by
    rintro ⟨n, v⟩ hy
    have := S.par n (List.of_mem_zip hy).1
    rcases this with z | z
    · left; exact z
    · right; exact ⟨z, PySem.W.cellsFrom_some _ _ _ (.inl z)⟩
  refine codeAny_call_function hr.depth (inK _ _ lk) rfl S.co S.gen rfl (PySem.W.codeRec_of inK hcd) (hb _ _ _ _ (wpAny_newFunctionEnv_cells S.kind params (fun env he s1 ic => ?_)))
  subst he
  obtain ⟨t, ht, hq⟩ := hbody cdv A outer s H vs Q E (hr.deeper _) hgd hsp
  have J := inv_start (CX := CX) (P := P) (w := w) (E := E) S hr.hd e0 nVs r ic
  refine ⟨noLim.keeps ic.toInCall.keep, codeAny_func ?_⟩
  refine wpAny_mono (ht.run [] s1 (start N vs) H _ J hq) (fun fl s' hs => ?_) (fun e s' hs => hs)
  cases fl with
  | ret u => obtain ⟨v, σ', H', I, rv, q⟩ := hs; exact ⟨v, H', I.os, I.bare, I.base, I.hok, rv, q⟩
  | next => obtain ⟨σ', H', I, q⟩ := hs; exact ⟨V.non, H', I.os, I.bare, I.base, I.hok, rfl, q⟩
  | brk => obtain ⟨_, _, _, q⟩ := hs; exact q.elim
  | cont => obtain ⟨_, _, _, q⟩ := hs; exact q.elim
end

section
variable {X : Cx} {CX : CXT} {k : Nat} {f : Addr} {fd : FuncData} {ps : List Str} {sp : Sp} {E : XK} {x : Str} {p pos : Pos} {e : Expr} {es : List Expr} {t : TA}
theorem runG {pins : List (Addr × Obj)} {σ : L2.St} {H : Hp} {s : Shared} {Q : VK} {us : List Value} {vs : List V} (F : FnG X.prog X.w X.K X.mg X.base CX k f fd ps sp) (hr : Room k X.A) (hgd : X.A.guards = some []) (hb : Binds X.K fd ps []) (hx : Passes CX X E)
    (I : Inv X pins σ H s) (r : Vals vs us) (h : sp vs H Q E) : wpAny (model X.prog X.w) X.A (call (.ref f) us) (EP X pins σ Q) X.xe s := by
  have n1 : us.length = ps.length := r.length.symm.trans (F.len vs H Q E h)
  have b1 := hb s us I.kIn (by simpa using n1)
  rw [List.append_nil] at b1
  refine wpAny_call (codeAny_mono (F.run X.A X.stack s H ⟨us, []⟩ us vs Q E hr hgd I.env0 b1 r h) (fun r s' z => ?_))
  cases r with
  | error e => exact hx pins σ H s e s' I z
  | ok fl =>
    cases fl with
    | ret u => exact I.after z
    | next => exact False.elim z
    | brk => exact False.elim z
    | cont => exact False.elim z
theorem pe_callG (F : FnG X.prog X.w X.K X.mg X.base CX k f fd ps sp) (hr : Room k X.A) (hgd : X.A.guards = some []) (hg : Gl X x) (hm : X.mg x = some (.ref f)) (hk : PySem.W.keepIn X.K (.ref f) = true) (hb : Binds X.K fd ps []) (hx : Passes CX X E)
    (ha : PA X (e :: es) t) (hdb : (x == ("__debug__" : Str)) = false := by decide) (he : starEach (e :: es) X.env = (false, eval e X.env) :: starEach es X.env := by rfl) (hpl : (backTo pos (starEach es X.env)).any (·.1) = false := by rfl) :
    PE X (.Call (.Name x p) (e :: es) [] pos) (fun σ H Q => t σ H fun vs H1 => sp vs H1 Q E) := by
  refine ⟨fun pins s σ H Q I h => wpAny_Call_Name_kw (ld_glob I hg hm ?_ hdb)⟩
  refine PySem.W.callWith_K (h₀ := X.base) I.ok.mod.kin hk (thn (ha.run pos pins s σ H _ I h) (fun us s1 z => ?_)) he hpl
  obtain ⟨vs, H1, I1, r, q⟩ := z
  exact ⟨I1.kIn, runG F hr hgd hb hx I1 r q⟩
end

/-- the law's call, its def's promise asking for no repr around -/
theorem lawG {P : Program} {w : World} {K : PySem.W.Frag} {mg mb : Str → Option Value} {CX : CXT} {k : Nat} {fa a : Addr} {fd : FuncData} {x : Str} {sp : Sp} {s₁ : Shared} {vs : List Value} {ns : List Int}
    (KX : K.In s₁.heap) (hns : s₁.heap.Ns mainGlobals mg) (hb : s₁.heap.Ns builtinsNs mb) (hbb : ∀ x : Str, x ≠ "__name__" → mb x = bootBuiltins x) (hlim : s₁.heap.NoLimit) (hg : s₁.gens = #[])
    (ha : s₁.heap.get? a = some { cls := .type "list", data := .seq vs.toArray }) (hi : IntsAre vs ns) (hl : ns.length ≤ sizeLine) (hr : Room k callerA)
    (F : ∀ base : Heap, K.In base → base.Ns mainGlobals mg → FnG P w K mg base CX k fa fd [x] sp) (hbind : ∀ (s : Shared) (u : Value), BindsTo s fd ⟨[u], []⟩ [(x, u)])
    (hsp : ∀ H : Hp, Only H → SqL K H a (ns.map V.int) → sp [.ref a] H (fun v _ => v = .bl true) fun _ _ _ => False)
    (hCX : ∀ H e s', CX [] H s₁ (fun _ _ _ => False) e s' → False) :
    codeAny (model P w) callerA (.call (.ref fa) ⟨[.ref a], []⟩) (fun r s' => r = .ok (.ret (.bool true)) ∧ OldK s₁.heap s'.heap ∧ s'.os = s₁.os ∧ AllBare s'.gens) s₁ := by
  have rv := vals_ints hi
  have nV := hi.length
  have go : ∀ H : Hp, Only H → SqL K H a (ns.map V.int) → HOk P w H s₁.heap → (∀ b, H b ≠ none → b = a) → (H a ≠ none → K.lookup a = none) →
      codeAny (model P w) callerA (.call (.ref fa) ⟨[.ref a], []⟩) (fun r s' => r = .ok (.ret (.bool true)) ∧ OldK s₁.heap s'.heap ∧ s'.os = s₁.os ∧ AllBare s'.gens) s₁ := by
    intro H hO hS hok hA hK
    have noDict : ∀ {b : Addr} {o : Obj} {es : Array DictEntry} {ep : Nat}, s₁.heap.get? b = some o → o.data = .dict es ep → H b = none := by
      intro b o es ep e d
      cases q : H b with
      | none => rfl
      | some u =>
        obtain rfl : b = a := hA b (by rw [q]; exact fun z => nomatch z)
        rw [ha] at e
        cases e
        exact nomatch d
    have keepNs : ∀ {b : Addr} {m : Str → Option Value}, s₁.heap.Ns b m → (hidT s₁.heap H).Ns b m := by
      rintro b m ⟨o, es, ep, e, d, r⟩
      exact ⟨o, es, ep, hidT_get e (noDict e d), d, r⟩
    have kb : K.In (hidT s₁.heap H) := by
      intro b o e
      refine hidT_get (KX b o e) ?_
      cases q : H b with
      | none => rfl
      | some u =>
        obtain rfl : b = a := hA b (by rw [q]; exact fun z => nomatch z)
        rw [hK (by rw [q]; exact fun z => nomatch z)] at e
        cases e
    obtain ⟨mc, l1, l2⟩ := hlim
    have e0 : Env0 P w K mg (hidT s₁.heap H) callerA [] s₁ H :=
      ⟨rfl, ⟨kb, keepNs hns, ⟨mb, keepNs hb, hbb⟩, ⟨mc, keepNs l1, l2⟩⟩, fun b o e => of_hidT e, Nat.le_of_eq (hidT_size _ _), trivial, fun b hb => absurd (show b ∈ ([] : List Addr) from hb) (by simp), hok, .of_eq hg⟩
    refine codeAny_mono ((F _ kb (keepNs hns)).run callerA [] s₁ H ⟨[.ref a], []⟩ [.ref a] [.ref a] _ _ hr rfl e0 (hbind s₁ (.ref a)) (.cons rfl .nil) (hsp H hO hS)) (fun r s' h => ?_)
    cases r with
    | error e => exact (hCX H e s' h).elim
    | ok fl =>
    cases fl with
    | next => exact False.elim h
    | brk => exact False.elim h
    | cont => exact False.elim h
    | ret u =>
      obtain ⟨v, H', os, bare, un, hok', r', q⟩ := h
      obtain rfl : v = .bl true := q
      obtain rfl : u = Value.bool true := r'
      refine ⟨rfl, OldK.of_keep (fun b o e => ?_), os, bare⟩
      cases q : H b with
      | none => exact un.keep b o e q (fun z => absurd (show b ∈ ([] : List Addr) from z) (by simp)) (by simp)
      | some u =>
        rcases hO b with z | ⟨ob, xs, z⟩
        · rw [q] at z; cases z
        · obtain ⟨e2, _⟩ := hok' b _ (un.frzs b ob _ z)
          obtain ⟨e1, _⟩ := hok b _ z
          rw [e] at e1
          cases e1
          exact e2
  cases hk : K.lookup a with
  | some o =>
    have e := KX a o hk
    rw [ha] at e
    cases e
    exact go (fun _ => none) (fun _ => .inl rfl) (.inr ⟨_, vs.toArray, _, hk, rfl, rfl, rfl, by rw [List.size_toArray, nV]; exact hl, by simpa using rv⟩) (fun b u z => nomatch (show (none : Option HO) = some u from z)) (fun b z => absurd rfl z) (fun z => absurd rfl z)
  | none =>
    refine go (fun b => if b = a then some (.frz { cls := .type "list", data := .seq vs.toArray } (.lst (ns.map V.int))) else none) (fun b => ?_) (.inl (.inr ⟨{ cls := .type "list", data := .seq vs.toArray }, if_pos rfl⟩)) (fun b u z => ?_) (fun b z => ?_) (fun _ => hk)
    · by_cases hb : b = a
      · exact .inr ⟨_, _, if_pos hb⟩
      · exact .inl (if_neg hb)
    · by_cases hb : b = a
      · subst hb
        have z' : some (HO.frz { cls := .type "list", data := .seq vs.toArray } (.lst (ns.map V.int))) = some u := (if_pos rfl).symm.trans z
        cases z'
        exact ⟨ha, by rw [List.length_map]; exact hl, vs, _, rv, ha⟩
      · exact nomatch (show (none : Option HO) = some u from (if_neg hb).symm.trans z)
    · by_cases hb : b = a
      · exact hb
      · exact absurd (if_neg hb) z
end GX
set_option Elab.async false
set_option linter.all false
set_option maxRecDepth 100000
set_option maxHeartbeats 4000000
/-! Errors of own classes over any built-in error, made with places or names, held as values. -/
namespace GX
open PySem PySem.Spec PySem.Calls PyProof.Rows PySem.HandSPX Builtin Builtin.ObjectAttr

/-! ### own classes ahead of a built-in tail -/
def isR : Value → Bool
  | .ref _ => true
  | _ => false
def mroB (tl l : List Value) : Bool := l.dropWhile isR == tl
theorem refs_of : ∀ l : List Value, (∀ v ∈ l, isR v = true) → ∃ cs : List Addr, l = cs.map Value.ref
  | [], _ => ⟨[], rfl⟩
  | v :: r, h => by
    obtain ⟨cs, e⟩ := refs_of r fun u hu => h u (List.mem_cons_of_mem _ hu)
    have q := h v (List.mem_cons_self ..)
    cases v with
    | ref a => exact ⟨a :: cs, by rw [e]; rfl⟩
    | _ => cases q
theorem over_of {tl l : List Value} (h : mroB tl l = true) : ∃ cs : List Addr, l = cs.map Value.ref ++ tl := by
  obtain ⟨cs, e⟩ := refs_of (l.takeWhile isR) fun v hv => by
    have := List.all_takeWhile (p := isR) (l := l)
    exact List.all_eq_true.mp this v hv
  have q : l.dropWhile isR = tl := beq_iff_eq.mp h
  refine ⟨cs, ?_⟩
  rw [← e, ← q, List.takeWhile_append_dropWhile]
/-- what is asked of the tail -/
structure TlOk (tl : List Value) : Prop where
  pass : ∀ self, refuseLoop self "__setattr__" tl = pure ()
  obj : tl.contains (.type "object") = true
theorem pass_of {tl : List Value} (T : TlOk tl) (self : Value) : ∀ cs : List Addr, refuseLoop self "__setattr__" (cs.map Value.ref ++ tl) = pure ()
  | [] => T.pass self
  | c :: cs => by
    show refuseLoop self "__setattr__" (.ref c :: (cs.map Value.ref ++ tl)) = pure ()
    rw [refuseLoop_ref]
    exact pass_of T self cs
theorem has_of {tl : List Value} (Y : String) : ∀ cs : List Addr, (cs.map Value.ref ++ tl).contains (.type Y) = tl.contains (.type Y)
  | [] => rfl
  | c :: cs => by
    show (Value.ref c :: (cs.map Value.ref ++ tl)).contains (.type Y) = _
    rw [List.contains_cons, has_of Y cs]
    rfl
structure Mr (tl m : List Value) : Prop where
  pass : ∀ self, refuseLoop self "__setattr__" m = pure ()
  has : ∀ Y : String, m.contains (.type Y) = tl.contains (.type Y)
  ne : m.isEmpty = false
theorem mr_of {tl m : List Value} (T : TlOk tl) (h : mroB tl m = true) : Mr tl m := by
  obtain ⟨cs, rfl⟩ := over_of h
  refine ⟨fun self => pass_of T self cs, fun Y => has_of Y cs, ?_⟩
  cases cs with
  | cons _ _ => rfl
  | nil =>
    cases tl with
    | nil => exact absurd T.obj (by decide)
    | cons _ _ => rfl
theorem mr_cons {tl m : List Value} (C : Addr) (M : Mr tl m) : Mr tl (.ref C :: m) := by
  refine ⟨fun self => ?_, fun Y => ?_, rfl⟩
  · rw [refuseLoop_ref]
    exact M.pass self
  · rw [List.contains_cons, M.has]
    rfl
abbrev tlV : List Value := [.type "ValueError", .type "Exception", .type "BaseException", .type "object"]
abbrev tlL : List Value := [.type "LookupError", .type "Exception", .type "BaseException", .type "object"]
abbrev tlA : List Value := [.type "ArithmeticError", .type "Exception", .type "BaseException", .type "object"]
theorem tlOkV : TlOk tlV := ⟨fun self => by kernel_rfl, by decide +kernel⟩
theorem tlOkL : TlOk tlL := ⟨fun self => by kernel_rfl, by decide +kernel⟩
theorem tlOkA : TlOk tlA := ⟨fun self => by kernel_rfl, by decide +kernel⟩

/-! ### making, with places or names -/
section
variable {prog : Program} {w : World} {A : Around} {E : Value → Shared → Prop} {R : Result → Shared → Prop} {h : Heap} {g : Array GenState} {d : Drawn} {t : Nat} {os : OsState}
variable {nm q : Str} {C N : Addr} {bs bm bmB : List Value} {hdct : Bool} {sn : List Str} {sub : List Value} {ab : Bool} {col : Option Bool} {dd : Option Addr} {k0 k1 k2 k3 k5 : Option Value} {B newId initId : String}
theorem gx_checkNew {M : Model} (F : ExcBaseFacts B newId initId bmB) (hT : ∀ Y : String, bm.contains (.type Y) = bmB.contains (.type Y)) {rest : List Value} {kw : List (Str × Value)} {Q : Unit → Shared → Prop}
    (hC : h.get? C = some (excClassObj nm q C N bs bm hdct sn sub ab col dd k0 k1 k2 k3 k5 newId)) (hkw : kw = [] ∨ rest = []) (hq : Q () ⟨h, g, d, t, os⟩) : wpAny M A (checkBuiltinCall newId ⟨.ref C :: rest, kw⟩) Q E ⟨h, g, d, t, os⟩ := by
  have c1 : (Value.ref C :: bm).contains (.type B) = true := by
    rw [List.contains_cons, hT, F.hasB]
    exact Bool.or_true _
  have c2 := F.noStar
  simp only [checkBuiltinCall, F.newKind, F.newSplit, F.newRow]
  repeat (first | refine wpAny_loadPart_at hC ?_ | (refine wpAny_isSubtype_exc hC ?_; rw [c1]) | refine wpAny_staticBase_exc hC ?_ | refine wpAny_madeBy_exc hC ?_ | simp only [bne_self_eq_false, Bool.false_eq_true, if_false] | wp_step)
  exact hq
theorem gx_new (F : ExcBaseFacts B newId initId bmB) (hT : ∀ Y : String, bm.contains (.type Y) = bmB.contains (.type Y)) {rest : List Value} {kw : List (Str × Value)}
    (hC : h.get? C = some (excClassObj nm q C N bs bm hdct sn sub ab col dd k0 k1 k2 k3 k5 newId)) (hrest : rest.length ≤ sizeLine)
    (hq : R (.ok (.ret (.ref (h.objs.size + 1)))) ⟨(h.push (W.kdv_tup rest)).push (excO C h.objs.size), g, d, t, os⟩) :
    codeAny (model prog w) A (.builtin newId ⟨.ref C :: rest, kw⟩) R ⟨h, g, d, t, os⟩ := by
  have f0 := F.ends
  have c1 : (Value.ref C :: bm).contains (.type B) = true := by
    rw [List.contains_cons, hT, F.hasB]
    exact Bool.or_true _
  have c2 : (Value.ref C :: bm).contains (.type "AttributeError") = false := by
    rw [List.contains_cons, hT, F.noAttr]
    rfl
  have c3 : (Value.ref C :: bm).contains (.type "NameError") = false := by
    rw [List.contains_cons, hT, F.noName]
    rfl
  refine codeAny_builtinAt F.entry ?_
  unfold Builtin.«BaseException.__new__»
  refine PySem.wpAt_bind ?_
  show PySem.wpAt _ _ _ (stack >>= _) _ _ _
  refine PySem.wpAt_bind (PySem.wpAt_stack fun p below => PySem.wpAt_of_wpAny ?_)
  wp_walk
  refine PySem.wpAt_of_wpAny ?_
  rw [F.owner]
  repeat (first | with_reducible refine wpAny_madeHere_exc F.canon hC ?_ | with_reducible refine wpAny_loadPart_at hC ?_ | (with_reducible refine wpAny_isSubtype_exc hC ?_; first | rw [c1] | rw [c2] | rw [c3]) | wp_step)
  show R _ _
  rw [Heap.size_push]
  exact hq
theorem gx_typeCall (F : ExcBaseFacts B newId initId bmB) (hT : ∀ Y : String, bm.contains (.type Y) = bmB.contains (.type Y)) {rest : List Value} {kw : List (Str × Value)} {fI : Addr} {Q : Fin → Shared → Prop}
    (hC : h.get? C = some (excClassObj nm q C N bs bm hdct sn sub ab col dd k0 k1 k2 k3 k5 newId)) (hkw : kw = [] ∨ rest = [])
    (hi : W.Looks (model prog w) h (typeLookup (.ref C) "__init__") (some (.ref fI))) (hb : ∀ self, W.Looks (model prog w) h (bindSpecial (.ref fI) self) (.ref fI, [self])) (hrest : rest.length ≤ sizeLine)
    (hq : codeAny (model prog w) A (.call (.ref fI) ⟨.ref (h.objs.size + 1) :: rest, kw⟩)
      (fun r s' => match r with | .ok (.ret v) => v = .none ∧ Q (.done (.ret (.ref (h.objs.size + 1)))) s' | .ok _ => False | .error e => E e s')
      ⟨(h.push (W.kdv_tup rest)).push (excO C h.objs.size), g, d, t, os⟩) :
    wpAny (model prog w) A (Builtin.«type.__call__» ⟨.ref C :: rest, kw⟩) Q E ⟨h, g, d, t, os⟩ := by
  repeat (first | with_reducible refine wpAny_loadPart_at hC ?_ | with_reducible refine wpAny_madeBy_exc hC ?_ | wp_step)
  refine codeAny_call_builtin_code (Code.quiet_builtin _ F.quiet) (gx_checkNew F hT hC hkw ?_)
  refine gx_new F hT hC hrest ?_
  show wpAny _ _ _ _ _ _
  have k : ∀ b o, h.get? b = some o → ((h.push (W.kdv_tup rest)).push (excO C h.objs.size)).get? b = some o := fun b o e => Heap.get?_push_of_some _ (Heap.get?_push_of_some _ e)
  have hC2 := k _ _ hC
  have at2 : ((h.push (W.kdv_tup rest)).push (excO C h.objs.size)).get? (h.objs.size + 1) = some (excO C h.objs.size) := by heap_get
  have cC : (Value.ref C :: bm).contains (.ref C) = true := by simp
  have i2 := hi.keeps k
  have b2 := (hb (.ref (h.objs.size + 1))).keeps k
  unfold isInstance
  repeat (first | with_reducible refine wpAny_loadPart_at at2 ?_ | (with_reducible refine wpAny_isSubtype_exc hC2 ?_; rw [cC]) | wp_step)
  show wpAny _ _ (typeLookup (.ref C) _) _ _ _
  refine i2.at ?_
  refine wpAny_holding (wpAny_bind (b2.at ?_))
  refine wpAny_bind (wpAny_call (codeAny_mono hq fun r s' z => ?_))
  rcases r with e | (v | _ | _ | _) <;> first | exact z | exact z.elim | skip
  obtain ⟨rfl, z⟩ := z
  first
    | exact wpAny_pure (wpAny_pure z)
    | (wp_walk; exact z)
theorem gx_checkType {M : Model} {rest : List Value} {kw : List (Str × Value)} {Q : Unit → Shared → Prop} (hC : h.get? C = some (excClassObj nm q C N bs bm hdct sn sub ab col dd k0 k1 k2 k3 k5 newId))
    (hq : Q () ⟨h, g, d, t, os⟩) : wpAny M A (checkBuiltinCall "type.__call__" ⟨.ref C :: rest, kw⟩) Q E ⟨h, g, d, t, os⟩ := by
  have f3 := tc_sub
  have hT : (⟨h, g, d, t, os⟩ : Shared).TypeIs (.ref C) "type" := ⟨_, hC, rfl⟩
  simp only [checkBuiltinCall, tc_kind, tc_split]
  repeat (any_goals (first | assumption | with_reducible refine wpAny_loadPart_at hC ?_ | with_reducible refine wpAny_onRaise ?_ | with_reducible refine wpAny_map ?_ | wp_step))
theorem gx_call (F : ExcBaseFacts B newId initId bmB) (hT : ∀ Y : String, bm.contains (.type Y) = bmB.contains (.type Y)) {rest : List Value} {kw : List (Str × Value)} {fI : Addr}
    (hC : h.get? C = some (excClassObj nm q C N bs bm hdct sn sub ab col dd k0 k1 k2 k3 k5 newId)) (hkw : kw = [] ∨ rest = [])
    (hi : W.Looks (model prog w) h (typeLookup (.ref C) "__init__") (some (.ref fI))) (hb : ∀ self, W.Looks (model prog w) h (bindSpecial (.ref fI) self) (.ref fI, [self])) (hrest : rest.length ≤ sizeLine)
    (hq : codeAny (model prog w) (A.under (.builtin "type.__call__" ⟨.ref C :: rest, kw⟩)) (.call (.ref fI) ⟨.ref (h.objs.size + 1) :: rest, kw⟩) (W.InitBack (h.objs.size + 1) R)
      ⟨(h.push (W.kdv_tup rest)).push (excO C h.objs.size), g, d, t, os⟩) :
    codeAny (model prog w) A (.call (.ref C) ⟨rest, kw⟩) R ⟨h, g, d, t, os⟩ := by
  have f1 := tc_lookup
  have f2 := tc_bind (.ref C)
  have hTy : (⟨h, g, d, t, os⟩ : Shared).TypeIs (.ref C) "type" := ⟨_, hC, rfl⟩
  refine codeAny_of_tree ?_
  show wpAny _ _ (callAny (.ref C) _) _ _ _
  repeat (any_goals (first | assumption | with_reducible refine wpAny_loadPart_at hC ?_ | wp_step))
  refine ⟨rfl, ?_⟩
  refine codeAny_call_builtin_at (Code.quiet_builtin _ (by decide +kernel)) entry_typeCall (gx_checkType hC (gx_typeCall F hT hC hkw hi hb hrest ?_))
  refine codeAny_mono hq fun r s' z => ?_
  rcases r with e | (v | _ | _ | _) <;> exact z
end

/-! ### storing a field -/
section
variable {prog : Program} {w : World} {A : Around} {E : Value → Shared → Prop} {R : Result → Shared → Prop} {hp : Heap} {g : Array GenState} {d : Drawn} {t : Nat} {os : OsState} {tl : List Value}
theorem gx_osaNew {K : W.Frag} {name : Str} {tk : Tok} {v : Value} {x C : Addr} {fv : Array Value} {cd : ClassData}
    (X : K.In hp) (hx : hp.get? x = some { cls := .ref C, data := .fields fv }) (hcd : W.clsIn K C = some cd) (hm : Mr tl cd.mro) (ho : tl.contains (.type "object") = true) (hh : cd.hasDict = true) (ha : W.findIn K (.ref C) name = some none)
    (hq : ∀ h' tk' dx, (∀ b o, b ≠ x → hp.get? b = some o → h'.get? b = some o) → hp.objs.size ≤ dx → dx ≠ x → h'.get? x = some { cls := .ref C, dict := some dx, data := .fields fv } →
      h'.Ns1 dx (fun y => if y = name then some v else none) → R (.ok (.ret .none)) ⟨h', g, d, tk', os⟩) :
    codeAny (model prog w) A (.call (.builtin "object.__setattr__") ⟨[.ref x, .str name tk, v], []⟩) R ⟨hp, g, d, t, os⟩ := by
  have I : W.InstAt hp x { cls := .ref C, data := .fields fv } C none := ⟨hx, rfl, rfl, trivial⟩
  have SF := F.store_object
  have isObj : cd.mro.contains (.type "object") = true := (hm.has "object").trans ho
  have xs : x ≠ hp.objs.size := Nat.ne_of_lt (Heap.lt_size hx)
  have sub : W.Looks (model prog w) hp (isInstance (.ref x) (.type "object")) true := I.type.andThen (W.looks_mroIn X (by unfold W.mroIn; rw [hcd, Option.bind_some, if_neg (by rw [hm.ne]; decide), isObj]))
  refine codeAny_call_builtin SF.slot.plain SF.entry (@W.check_slot (model prog w) _ _ ⟨hp, g, d, t, os⟩ "object.__setattr__" "object" "__setattr__" (.ref x) [.str name tk, v] [] _ SF.kind SF.split sub (SF.args (.ref x) (.str name tk) v) ?_)
  have l1 : W.Looks (model prog w) hp (mroOf (.ref C)) cd.mro := (W.looks_clsIn X hcd).andThen .now
  have l2 : W.Looks (model prog w) hp (storeTaker? none) none := .now
  have l3 : W.Looks (model prog w) hp (classData C) cd := W.looks_clsIn X hcd
  rw [W.osa_eq, refuse_eq]
  refine wpAny_bind (wpAny_bind (I.type.at (wpAny_bind (l1.at ?_))))
  rw [hm.pass]
  refine wpAny_pure (wpAny_bind (I.type.at (wpAny_bind ((W.looks_findIn X ha).at (wpAny_bind (l2.at ?_))))))
  show wpAny _ _ (storeInOwnDict (.ref x) (.ref C) (.str name tk) name v false) _ _ _
  obtain ⟨n1, n2, n3, n4, n5, hd, n6, n7, n8, n9, n10⟩ := cd
  dsimp only at hh
  subst hh
  unfold storeInOwnDict ownDictForStores
  repeat (first | with_reducible refine store_in_new ?_ ?_ | with_reducible refine wpAny_loadPart_at hx ?_ | with_reducible refine l3.at ?_ | wp_step)
  · exact ⟨_, #[], _, (Heap.get?_update_ne _ _ _ _ xs.symm).trans (Heap.get?_push_at rfl rfl), rfl, fun e he => absurd he (by simp), fun _ => rfl⟩
  · intro h' tk' hn' hs
    have hx2 : (hp.push { cls := .type "dict", data := .dict #[] }).get? x = some { cls := .ref C, data := .fields fv } := Heap.get?_push_of_some _ hx
    refine hq h' tk' hp.objs.size (fun b o hb ho => ?_) (Nat.le_refl _) xs.symm ?_ hn'
    · exact (hs.2 b (Nat.ne_of_lt (Heap.lt_size ho))).trans ((Heap.get?_update_ne _ _ _ _ hb).trans (Heap.get?_push_of_some _ ho))
    · exact (hs.2 x xs).trans (Heap.get?_update_self _ hx2 rfl)
theorem gx_osaOld {K : W.Frag} {name : Str} {tk : Tok} {v : Value} {x C dx : Addr} {fv : Array Value} {cd : ClassData} {m0 : Str → Option Value} {nl : List Str}
    (X : K.In hp) (hx : hp.get? x = some { cls := .ref C, dict := some dx, data := .fields fv }) (hns : hp.Ns1 dx m0) (hw : Within m0 nl) (hz : nl.length ≤ 1000) (hcd : W.clsIn K C = some cd) (hm : Mr tl cd.mro) (ho : tl.contains (.type "object") = true) (hh : cd.hasDict = true)
    (ha : W.findIn K (.ref C) name = some none)
    (hq : ∀ h' tk', (∀ b o, b ≠ dx → hp.get? b = some o → h'.get? b = some o) → h'.Ns1 dx (fun y => if y = name then some v else m0 y) → R (.ok (.ret .none)) ⟨h', g, d, tk', os⟩) :
    codeAny (model prog w) A (.call (.builtin "object.__setattr__") ⟨[.ref x, .str name tk, v], []⟩) R ⟨hp, g, d, t, os⟩ := by
  obtain ⟨oD, esD, epD, hoD, hdD, _⟩ := hns.count hw
  have I : W.InstAt hp x { cls := .ref C, dict := some dx, data := .fields fv } C (some oD) := ⟨hx, rfl, rfl, hoD⟩
  have SF := F.store_object
  have isObj : cd.mro.contains (.type "object") = true := (hm.has "object").trans ho
  have sub : W.Looks (model prog w) hp (isInstance (.ref x) (.type "object")) true := I.type.andThen (W.looks_mroIn X (by unfold W.mroIn; rw [hcd, Option.bind_some, if_neg (by rw [hm.ne]; decide), isObj]))
  refine codeAny_call_builtin SF.slot.plain SF.entry (@W.check_slot (model prog w) _ _ ⟨hp, g, d, t, os⟩ "object.__setattr__" "object" "__setattr__" (.ref x) [.str name tk, v] [] _ SF.kind SF.split sub (SF.args (.ref x) (.str name tk) v) ?_)
  have l1 : W.Looks (model prog w) hp (mroOf (.ref C)) cd.mro := (W.looks_clsIn X hcd).andThen .now
  have l2 : W.Looks (model prog w) hp (storeTaker? none) none := .now
  have l3 : W.Looks (model prog w) hp (classData C) cd := W.looks_clsIn X hcd
  rw [W.osa_eq, refuse_eq]
  refine wpAny_bind (wpAny_bind (I.type.at (wpAny_bind (l1.at ?_))))
  rw [hm.pass]
  refine wpAny_pure (wpAny_bind (I.type.at (wpAny_bind ((W.looks_findIn X ha).at (wpAny_bind (l2.at ?_))))))
  show wpAny _ _ (storeInOwnDict (.ref x) (.ref C) (.str name tk) name v false) _ _ _
  obtain ⟨n1, n2, n3, n4, n5, hd, n6, n7, n8, n9, n10⟩ := cd
  dsimp only at hh
  subst hh
  unfold storeInOwnDict ownDictForStores
  repeat (first | with_reducible refine PySem.OEX.store_in_old hns hw hz ?_ | with_reducible refine wpAny_loadPart_at hx ?_ | with_reducible refine l3.at ?_ | wp_step)
  intro h' tk' hn' hs
  exact hq h' tk' (fun b o hb ho => (hs.2 b hb).trans ho) hn'
end

/-! ### isinstance: the class of an error with or without a dict -/
section
variable {prog : Program} {w : World} {A : Around} {E : Value → Shared → Prop} {s : Shared} {K : W.Frag} {x D : Addr} {ox : Obj} {od : Option Obj}
theorem gx_findCls {C : Addr} {name : Str} {a g : Value} (hc : (W.clsIn K C).isSome = true) (ha : W.findIn K (.ref C) name = some (some a)) (hg : W.specialIn K a "__get__" = some (some g)) (ht : W.takesIn K a = some true) :
    W.findObj K C od name = some (.bind g a) := by
  obtain ⟨cd, e⟩ := Option.isSome_iff_exists.mp hc
  unfold W.findObj
  rw [e, Option.bind_some, ha, Option.bind_some]
  simp [hg, ht]
open PySem.W in
theorem gx_class {Q : Option Value → Shared → Prop} (hga : findIn K (.ref D) "__getattribute__" = some (some (.builtin "BaseException.__getattribute__"))) (hgt : findIn K (.ref D) "__getattr__" = some none) (hsub : subIn K (.ref D) (.type "BaseException") = some true)
    (hdct : hasDictIn K D = true) (ha : findIn K (.ref D) "__class__" = some (some (.builtin "object.__class__")))
    (hn : specialIn K (.builtin "object.__class__") "__get__" = some (some (.builtin "getset_descriptor.__get__"))) (htk : takesIn K (.builtin "object.__class__") = some true) (hm : mroIn K D (.type "object") = some true)
    (X : K.In s.heap) (I : InstAt s.heap x ox D od) (h : Q (some (.ref D)) { s with toks := s.toks + 1 }) : wpAny (model prog w) A (getAttr? (.ref x) "__class__") Q E s := by
  have fo : findObj K D od "__class__" = some (.bind (.builtin "getset_descriptor.__get__") (.builtin "object.__class__")) :=
    gx_findCls (by obtain ⟨cd, hc, _⟩ := any_some hdct; rw [hc]; rfl) ha hn htk
  obtain ⟨hp, g, d, t, os⟩ := s
  have a0 := I.type (M := model prog w)
  have a1 := looks_findIn (M := model prog w) X hga
  have a2 := looks_findIn (M := model prog w) X hgt
  have a3 := looks_find (M := model prog w) X I fo
  have sub : Looks (model prog w) hp (isInstance (.ref x) (.type "BaseException")) true := a0.andThen (looks_subIn X hsub)
  have q0 : (false && onTheHeap (Value.builtin "BaseException.__getattribute__")) = false := rfl
  have q2 : (Value.builtin "BaseException.__getattribute__" == Value.builtin "object.__getattribute__") = false := by decide +kernel
  have q1 : (onTheHeap (Value.ref D) && Value.builtin "BaseException.__getattribute__" == Value.builtin "object.__getattribute__") = false := by
    rw [q2]
    rfl
  unfold getAttr? getAttrBy? getAttrBy
  refine wpAny_bind (wpAny_mkText (wpAny_bind (wpAny_attempt (wpAny_holding (wpAny_bind (a0.at (wpAny_bind (a1.at ?_))))))))
  show wpAny _ _ (if (onTheHeap (Value.ref D) && Value.builtin "BaseException.__getattribute__" == Value.builtin "object.__getattribute__") = true then _ else _) _ _ _
  rw [q1, if_neg Bool.false_ne_true]
  unfold getAttrByItsOwn hookBefore
  refine wpAny_bind ?_
  rw [if_pos (show onTheHeap (Value.ref D) = true from rfl)]
  refine a2.at ?_
  refine wpAny_bind (wpAny_attempt (wpAny_holding ?_))
  unfold callGetattribute
  rw [q0, if_neg Bool.false_ne_true]
  unfold boundAndCalled
  rw [PySem.F.excAttr_ValueError.ga.bind (.ref x)]
  refine wpAny_bind (wpAny_pure ?_)
  show wpAny _ _ (call (.builtin "BaseException.__getattribute__") [.ref x, .str "__class__" t]) _ _ _
  refine wpAny_call (codeAny_call_builtin PySem.F.excAttr_ValueError.ga.plain PySem.F.entry_bexc_ga ?_)
  refine @check_slot (model prog w) _ _ ⟨hp, g, d, t + 1, os⟩ "BaseException.__getattribute__" "BaseException" "__getattribute__" (.ref x) [.str "__class__" t] [] _ (by decide +kernel) (by decide +kernel) sub (PySem.F.args_bexc_ga (.ref x) (.str "__class__" t)) ?_
  unfold Builtin.«object.__getattribute__»
  refine wpAny_bind (wpAny_of_eq (a := ((Value.ref x : Value), [Value.str "__class__" t])) (by first | rfl | (simp only [slotArgs]; rfl)) ?_)
  refine wpAny_bind (wpAny_pure (wpAny_bind (a0.at (wpAny_bind (a3.at ?_)))))
  show wpAny _ _ (holding [Value.builtin "object.__class__"] (call (.builtin "getset_descriptor.__get__") [.builtin "object.__class__", .ref x, .ref D]) >>= ret) _ _ _
  refine wpAny_bind (wpAny_holding (wpAny_call (class_get (s := ⟨hp, g, d, t + 1, os⟩) (ox := ox) (od := od) X I hm ?_)))
  refine wpAny_pure ?_
  show wpAny _ _ (handedOut (.ref D)) _ _ _
  rw [handedOut_of (v := .ref D) rfl]
  first
    | exact wpAny_pure (wpAny_pure h)
    | exact wpAny_pure h
    | exact wpAny_pure (wpAny_bind (wpAny_pure (wpAny_pure h)))
open PySem.W in
theorem gx_kit (hga : findIn K (.ref D) "__getattribute__" = some (some (.builtin "BaseException.__getattribute__"))) (hgt : findIn K (.ref D) "__getattr__" = some none) (hsub : subIn K (.ref D) (.type "BaseException") = some true) (hdct : hasDictIn K D = true) (ha : findIn K (.ref D) "__class__" = some (some (.builtin "object.__class__")))
    (hn : specialIn K (.builtin "object.__class__") "__get__" = some (some (.builtin "getset_descriptor.__get__"))) (htk : takesIn K (.builtin "object.__class__") = some true) (hm : mroIn K D (.type "object") = some true) :
    KitX K (.ref x) (.ref D) (fun h => ∃ ox od, InstAt h x ox D od) where
  ty := fun _ _ _ ⟨ox, od, I⟩ => I.type
  it := fun _ _ X _ => by
    obtain ⟨cd, e, _⟩ := any_some hdct
    unfold clsIn at e
    split at e
    · rename_i c' d' cd' sl' ho
      intro A' Q' E' s' k q
      unfold isType loadHead
      exact wpAny_bind (wpAny_loadPart (k _ _ (X _ _ ho)) (wpAny_pure q))
    · cases e
  ne := fun h tp dd its n sl X htp => by
    obtain ⟨cd, e, _⟩ := any_some hdct
    refine Bool.eq_false_iff.mpr fun z => ?_
    obtain rfl : D = tp := Value.ref.inj (beq_iff_eq.mp z)
    unfold clsIn at e
    split at e
    · rename_i c' d' cd' sl' ho
      have z := (X _ _ ho).symm.trans htp
      cases z
    · cases e
  ca := fun X ⟨ox, od, I⟩ k => gx_class hga hgt hsub hdct ha hn htk hm X I k
end
end GX
set_option Elab.async false
set_option linter.all false
set_option maxRecDepth 100000
set_option maxHeartbeats 4000000
/-! Errors as values, by rules. -/
namespace GX
open PySem PySem.Spec PyProof.Rows L2

/-- what the written part says of an error's class, over the tail tl -/
structure ExC (K : PySem.W.Frag) (tl : List Value) (newId : String) (C : Addr) : Prop where
  cls : ∃ nm q N bs bm sn sub ab col dd k0 k1 k2 k3 k5, K.lookup C = some (excClassObj nm q C N bs bm true sn sub ab col dd k0 k1 k2 k3 k5 newId) ∧ mroB tl bm = true
  sa : PySem.W.findIn K (.ref C) "__setattr__" = some (some (.builtin "object.__setattr__"))
  ga : PySem.W.findIn K (.ref C) "__getattribute__" = some (some (.builtin "BaseException.__getattribute__"))
  gg : PySem.W.findIn K (.ref C) "__getattr__" = some none
  ex : PySem.W.subIn K (.ref C) (.type "BaseException") = some true
  ty : PySem.W.typeIn K (.ref C) = some (.type "type")
  kp : PySem.W.keepIn K (.ref C) = true
  hd : PySem.W.hasDictIn K C = true
  ca : PySem.W.findIn K (.ref C) "__class__" = some (some (.builtin "object.__class__"))
  ob : PySem.W.mroIn K C (.type "object") = some true
/-- what it says of the attribute __class__ -/
structure ClsA (K : PySem.W.Frag) : Prop where
  hn : PySem.W.specialIn K (.builtin "object.__class__") "__get__" = some (some (.builtin "getset_descriptor.__get__"))
  ht : PySem.W.takesIn K (.builtin "object.__class__") = some true
/-- an error at a, of the class at C, with these fields (the last one first) -/
def EAt (H : Hp) (a C : Addr) (fs : List (Str × V)) : Prop :=
  (fs = [] ∧ (H a = some (exo a C none) ∨ H a = some (ExO (.ref C) a))) ∨ ∃ d, H a = some (exo a C (some d)) ∧ H d = some (exd d fs)
section
variable {X : Cx} {pins : List (Addr × Obj)} {σ : L2.St} {H : Hp} {s : Shared} {a C dx : Addr} {fs : List (Str × V)}
theorem EAt.inst (I : Inv X pins σ H s) (h : EAt H a C fs) : ∃ ox od, PySem.W.InstAt s.heap a ox C od := by
  rcases h with ⟨_, h | h⟩ | ⟨d, h, hd⟩
  · obtain ⟨t1, e⟩ := exo_at I.hok h
    exact ⟨_, none, e, rfl, rfl, trivial⟩
  · obtain ⟨⟨oe, vs, ho, hz, hd, _⟩, _⟩ := I.hok a _ h
    obtain ⟨z1, z2⟩ := hz
    refine ⟨oe, none, ho, z1, by unfold PySem.W.notCls; rw [hd] <;> rfl, by rw [z2]; trivial⟩
  · obtain ⟨t1, e⟩ := exo_at I.hok h
    obtain ⟨mA, hns, rel⟩ := exd_at I.hok hd
    obtain ⟨od, ho, _⟩ := lookIn_ns hns
    exact ⟨_, some od, e, rfl, rfl, ho⟩
end

section
variable {X : Cx} {tl : List Value} {newId : String}
/-- isinstance(e, c) of an error held as a value -/
def rIsV (K : PySem.W.Frag) (P : Addr → Prop) : List V → Hp → VK → Prop := fun xs H Q => ∃ (a C : Addr) (fs : List (Str × V)) (c : V) (cv : Value) (b : Bool), xs = [.ref a, c] ∧ EAt H a C fs ∧ P C ∧ ClsV c cv ∧ PySem.W.kitOne K (.ref C) cv = some b ∧ Q (.bl b) H
theorem call_isV (A : ClsA X.K) : CallR X (.builtin "isinstance") (rIsV X.K fun C => ∃ tl n, ExC X.K tl n C) := by
  intro pins s σ H xs us Q I r h
  obtain ⟨a, C, fs, c, cv, b, rfl, ea, ⟨tl, n, T⟩, kc, e, q⟩ := h
  obtain ⟨u1, u2, rfl, r1, r2⟩ := vals2 r
  obtain rfl : u1 = Value.ref a := r1
  have e2 := kc.eq r2
  subst e2
  exact PySem.W.kia_one (gx_kit T.ga T.gg T.ex T.hd T.ca A.hn A.ht T.ob) I.kIn (ea.inst I) e (fun z => nomatch z) fun tk => ⟨.bl b, H, I.tok tk, rfl, q⟩
/-- e.f of an error held as a value -/
def tFldE (K : PySem.W.Frag) (f : Str) (te : TE) : TE := fun σ H Q => te σ H fun x H1 => ∃ (a C d : Addr) (fs : List (Str × V)) (v : V), x = .ref a ∧ H1 a = some (exo a C (some d)) ∧ H1 d = some (exd d fs) ∧ (∃ tl n, ExC K tl n C) ∧
  PySem.W.findIn K (.ref C) f = some none ∧ fs.lookup f = some v ∧ Q v H1
theorem pe_fldE {e : Expr} {te : TE} {pos : Pos} {f : Str} (he : PE X e te) (hb : attributeBase e f X.env (eval e X.env) = eval e X.env := by rfl) : PE X (.Attribute e f pos) (tFldE X.K f te) := by
  refine ⟨fun pins s σ H Q I h => ?_⟩
  refine attr_of hb (thn (he.run pins s σ H _ I h) fun u s1 hh => ?_)
  obtain ⟨x, H1, I1, rx, a, C, d, fs, v, ex, ea, ed, ⟨tl, n, T⟩, hno, l, q⟩ := hh
  subst ex
  obtain rfl : u = Value.ref a := rx
  obtain ⟨t1, e1⟩ := exo_at I1.hok ea
  obtain ⟨mA, hns, rel⟩ := exd_at I1.hok ed
  obtain ⟨od, ho, hl⟩ := lookIn_ns hns
  obtain ⟨u, hu, ru⟩ := RelO.some_of (v := v) (o := mA f) (by rw [← l]; exact rel f)
  have J : PySem.W.InstAt s1.heap a { cls := .ref C, dict := some d, data := .fields #[.ref t1, .none, .none, .none, .bool false, .none] } C (some od) := ⟨e1, rfl, rfl, ho⟩
  exact HandSPX.exc_get I1.kIn J T.ga T.gg T.ex (PySem.W.findObj_own T.hd hno rfl (by rw [hl, hu])) (handed_of ru) ⟨v, H1, I1.tok _, ru, q⟩
end

/-! ### self.f = e in an error's __init__ -/
section
variable {X : Cx} {pins : List (Addr × Obj)} {σ : L2.St} {H : Hp} {s : Shared} {a C dx : Addr} {f : Str} {y : V} {u : Value} {fs : List (Str × V)} {Q : Unit → Shared → Prop} {E : Value → Shared → Prop} {A : Around} {tl : List Value} {newId : String}
theorem ste_new (T : ExC X.K tl newId C) (W : TlOk tl) (I : Inv X pins σ H s) (e : H a = some (exo a C none)) (hno : PySem.W.findIn X.K (.ref C) f = some none) (ry : RelV y u)
    (h : ∀ dx s', H dx = none → dx ≠ a → Inv X pins σ (upd (upd H dx (exd dx [(f, y)])) a (exo a C (some dx))) s' → Q () s') : wpAny (model X.prog X.w) A (setAttr (.ref a) f u) Q E s := by
  obtain ⟨nm, q, N, bs, bm, sn, sub, ab, col, dd, k0, k1, k2, k3, k5, hC, hbm⟩ := T.cls
  have hcl : PySem.W.clsIn X.K C = some { name := nm, bases := bs, mro := .ref C :: bm, ns := N, qualname := q, hasDict := true, slotNames := sn, subclasses := sub, abstract := ab, collection := col, hasDel := false } := by unfold PySem.W.clsIn; rw [hC] <;> rfl
  have hM : Mr tl (.ref C :: bm) := mr_cons C (mr_of W hbm)
  obtain ⟨t1, ho⟩ := exo_at I.hok e
  obtain ⟨hp, g, d, t, os⟩ := s
  refine PySem.W.set_plain I.kIn (ox := { cls := .ref C, dict := none, data := .fields #[.ref t1, .none, .none, .none, .bool false, .none] }) (od := none) ⟨ho, rfl, rfl, trivial⟩ T.sa ?_
  refine gx_osaNew I.kIn ho hcl hM W.obj rfl hno (fun h' tk' dx k dn dne hx hn => ?_)
  have nDx : H dx = none := I.hok.fresh dn
  have hNe : ∀ {b : Addr} {o : Obj}, hp.get? b = some o → b ≠ dx := fun {b o} z => Nat.ne_of_lt (Nat.lt_of_lt_of_le (Heap.lt_size z) dn)
  have aNe : ∀ {b : Addr}, H b = none → b ≠ a := by
    intro b n z
    rw [z, e] at n
    cases n
  have U : Un X.fs [] H (upd (upd H dx (exd dx [(f, y)])) a (exo a C (some dx))) hp h' := by
    refine ⟨fun b o q n _ _ => k b o (aNe n) q, fun b o q n _ _ => ⟨o.slots, k b o (aNe n) q⟩, fun b o q n _ => ?_, fun b o q _ => ?_, fun b xs q => ?_, fun b o v q => ?_, fun b ps q => ⟨#[], ?_⟩⟩
    · rw [upd_ne (aNe n), upd_ne (hNe q)]
      exact n
    · by_cases hb : b = a
      · exact ⟨_, by rw [hb]; exact hx⟩
      · exact ⟨o, k b o hb q⟩
    · rw [upd_ne (at_ne e q exo_tup), upd_ne (ne_of_none q nDx)]
      exact q
    · rw [upd_ne (at_ne e q exo_frz), upd_ne (ne_of_none q nDx)]
      exact q
    · rw [upd_ne (at_ne e q exo_tbl), upd_ne (ne_of_none q nDx), q]
      simp
  refine h dx _ nDx dne (I.un (t' := tk') U (fun b o q => ?_))
  by_cases hb : b = a
  · subst hb
    rw [upd_same] at q
    cases q
    exact exo_ok hx
  rw [upd_ne hb] at q
  by_cases hd : b = dx
  · subst hd
    rw [upd_same] at q
    cases q
    exact exd_ok hn (relO_put (fs := []) ry fun g => True.intro)
  rw [upd_ne hd] at q
  refine (I.hok b o q).stay (fun c v hc z => k c v ?_ z) (fun c hc => ?_) (fun c xs hc => ?_)
  · rcases hc with hc | hc
    · rw [hc]; exact hb
    · exact at_ne e hc exo_own
  · rw [upd_ne (at_ne e hc exo_own), upd_ne (ne_of_none hc nDx)]
    exact hc
  · rw [upd_ne (at_ne e hc exo_tup), upd_ne (ne_of_none hc nDx)]
    exact hc
theorem ste_old (T : ExC X.K tl newId C) (W : TlOk tl) (I : Inv X pins σ H s) (e : H a = some (exo a C (some dx))) (ed : H dx = some (exd dx fs)) (hl : fs.length ≤ 900) (hno : PySem.W.findIn X.K (.ref C) f = some none) (ry : RelV y u)
    (h : ∀ s', Inv X pins σ (upd H dx (exd dx ((f, y) :: fs))) s' → Q () s') : wpAny (model X.prog X.w) A (setAttr (.ref a) f u) Q E s := by
  obtain ⟨nm, q, N, bs, bm, sn, sub, ab, col, dd, k0, k1, k2, k3, k5, hC, hbm⟩ := T.cls
  have hcl : PySem.W.clsIn X.K C = some { name := nm, bases := bs, mro := .ref C :: bm, ns := N, qualname := q, hasDict := true, slotNames := sn, subclasses := sub, abstract := ab, collection := col, hasDel := false } := by unfold PySem.W.clsIn; rw [hC] <;> rfl
  have hM : Mr tl (.ref C :: bm) := mr_cons C (mr_of W hbm)
  obtain ⟨t1, ho⟩ := exo_at I.hok e
  obtain ⟨mA, hns, rel⟩ := exd_at I.hok ed
  have hw := within_of rel
  obtain ⟨hp, g, d, t, os⟩ := s
  obtain ⟨oD, _, _, hoD, _, _⟩ := hns.count hw
  refine PySem.W.set_plain I.kIn (ox := { cls := .ref C, dict := some dx, data := .fields #[.ref t1, .none, .none, .none, .bool false, .none] }) (od := some oD) ⟨ho, rfl, rfl, hoD⟩ T.sa ?_
  refine gx_osaOld I.kIn ho hns hw (by rw [List.length_map]; omega) hcl hM W.obj rfl hno (fun h' tk' k hn => ?_)
  obtain ⟨o1, _, _, e1, _⟩ := id hn
  exact h _ (I.write (t' := tk') (x := dx) (e := dx) (o := exd dx ((f, y) :: fs)) (by rw [ed]; exact True.intro) (.inl rfl) k ⟨o1, e1⟩ (exd_ok hn (relO_put ry rel)))
end
def tSte (K : PySem.W.Frag) (f : Str) (to te : TE) : TS := fun D σ H => te σ H fun y H1 => to σ H1 fun x H2 => ∃ a C : Addr, x = .ref a ∧ (∃ tl n, ExC K tl n C ∧ TlOk tl) ∧ PySem.W.findIn K (.ref C) f = some none ∧
  ((H2 a = some (exo a C none) ∧ ∀ dx, H2 dx = none → dx ≠ a → D.nx σ (upd (upd H2 dx (exd dx [(f, y)])) a (exo a C (some dx)))) ∨
    ∃ (dx : Addr) (fs : List (Str × V)), H2 a = some (exo a C (some dx)) ∧ H2 dx = some (exd dx fs) ∧ fs.length ≤ 900 ∧ D.nx σ (upd H2 dx (exd dx ((f, y) :: fs))))
theorem ps_ste {X : Cx} {o e : Expr} {to te : TE} {f : Str} {p' pos : Pos} (ho : PE X o to) (he : PE X e te) (hs : swapsWith e (some (.Attribute o f p')) pos.line X.env = pure false := by rfl) : PS X (.Assign [.Attribute o f p'] e pos) (tSte X.K f to te) := by
  refine ⟨fun pins s σ H D I h => plainObj_wpAny_Assign_Attribute (thn (he.run pins s σ H _ I h) fun v s1 ⟨y, H1, I1, r1, q1⟩ => thn (ho.run pins s1 σ H1 _ I1 q1) fun u s2 hh => ?_) hs⟩
  obtain ⟨x, H2, I2, r2, a, C, ex, ⟨tl, n, T, W⟩, hno, q⟩ := hh
  subst ex
  obtain rfl : u = Value.ref a := r2
  rcases q with ⟨ea, q⟩ | ⟨dx, fs, ea, ed, hl, q⟩
  · exact ste_new T W I2 ea hno r1 fun dx s' n ne J => ⟨σ, _, J, q dx n ne⟩
  · exact ste_old T W I2 ea ed hl hno r1 fun s' J => ⟨σ, _, J, q⟩

/-! ### C(..): the error as a value; raised -/
section
variable {X : Cx} {CX : CXT} {x : Str} {C fI : Addr} {k : Nat} {fd : FuncData} {ps ks : List Str} {sp : Sp} {tl : List Value} {B newId initId : String} {p pos : Pos} {e : Expr} {es : List Expr} {kws : List Keyword} {ta : TA}
/-- what a making wants: the promise of __init__ at the new error -/
def rMkE (C : Addr) (sp : Sp) (g : List V → List V) (vs : List V) (H1 : Hp) (Q : VK) : Prop := vs.length ≤ 1000 ∧ ∀ a, H1 a = none → sp (.ref a :: g vs) (upd H1 a (exo a C none)) (fun v H2 => v = .non ∧ Q (.ref a) H2) (fun _ _ _ => False)
theorem mk_core {pins : List (Addr × Obj)} {σ : L2.St} {H1 : Hp} {s1 : Shared} {Q : Value → Shared → Prop} {rest : List Value} {kw : List (Str × Value)} {ws : List Value} {vs : List V} {R : V → Hp → Prop} (T : ExC X.K tl newId C) (W : TlOk tl) (Fb : ExcBaseFacts B newId initId tl)
    (iC : PySem.W.findIn X.K (.ref C) "__init__" = some (some (.ref fI))) (tI : PySem.W.typeIn X.K (.ref fI) = some (.type "function"))
    (F1 : FnOk X.prog X.w X.K X.mg X.base CX k fI fd ps sp) (hr : Room (k + 1) X.A) (hx : Passes CX X (fun _ _ _ => False)) (I1 : Inv X pins σ H1 s1) (r1 : Vals vs ws) (hz : rest.length ≤ sizeLine) (hkw : kw = [] ∨ rest = [])
    (hb : ∀ (s : Shared) (a : Addr), X.K.In s.heap → (Value.ref a :: ws).length = ps.length → BindsTo s fd ⟨.ref a :: rest, kw⟩ (ps.zip (.ref a :: ws)))
    (hsp : ∀ a, H1 a = none → sp (.ref a :: vs) (upd H1 a (exo a C none)) (fun v H2 => v = .non ∧ R (.ref a) H2) (fun _ _ _ => False))
    (done : ∀ (a : Addr) (hp2 : Heap) (H2 : Hp) (s' : Shared), s1.heap.objs.size ≤ a → (∀ b o, s1.heap.get? b = some o → hp2.get? b = some o) → Un (frs X.stack) [] (upd H1 a (exo a C none)) H2 hp2 s'.heap → HOk X.prog X.w H2 s'.heap → s'.os = s1.os → AllBare s'.gens →
      Inv X pins σ H2 s' → R (.ref a) H2 → Q (.ref a) s') :
    wpAny (model X.prog X.w) X.A (call (.ref C) rest kw) Q X.xe s1 := by
  obtain ⟨nm, q, N, bs, bm, sn, sub, ab, col, dd, k0, k1, k2, k3, k5, hC, hbm⟩ := T.cls
  have hT := (mr_of W hbm).has
  obtain ⟨hp, g, dr, tk, os⟩ := s1
  have hsz : hp.objs.size ≤ hp.objs.size + 1 := Nat.le_succ _
  have nA : H1 (hp.objs.size + 1) = none := I1.hok.fresh hsz
  have hq := hsp (hp.objs.size + 1) nA
  have kk : ∀ b o, hp.get? b = some o → ((hp.push (PySem.W.kdv_tup rest)).push (PySem.HandSPX.excO C hp.objs.size)).get? b = some o := fun b o z => Heap.get?_push_of_some _ (Heap.get?_push_of_some _ z)
  have hget : ((hp.push (PySem.W.kdv_tup rest)).push (PySem.HandSPX.excO C hp.objs.size)).get? (hp.objs.size + 1) = some (PySem.HandSPX.excO C hp.objs.size) := by heap_get
  have I2 : Inv X pins σ (upd H1 (hp.objs.size + 1) (exo (hp.objs.size + 1) C none)) ⟨(hp.push (PySem.W.kdv_tup rest)).push (PySem.HandSPX.excO C hp.objs.size), g, dr, tk, os⟩ :=
    I1.laid (t' := tk) (a := hp.objs.size + 1) (o := exo (hp.objs.size + 1) C none) (h' := (hp.push (PySem.W.kdv_tup rest)).push (PySem.HandSPX.excO C hp.objs.size)) kk hsz (exo_ok hget)
  have r2 : Vals (V.ref (hp.objs.size + 1) :: vs) (Value.ref (hp.objs.size + 1) :: ws) := .cons rfl r1
  have nPs : (Value.ref (hp.objs.size + 1) :: ws).length = ps.length := r2.length.symm.trans (F1.len _ _ _ _ hq)
  refine wpAny_call (gx_call Fb hT (I1.kIn _ _ hC) hkw (PySem.W.looks_findIn I1.kIn iC) (fun self => PySem.W.bind_fn I1.kIn self tI) hz
    (codeAny_mono (F1.run _ X.stack _ _ ⟨Value.ref (hp.objs.size + 1) :: rest, kw⟩ (Value.ref (hp.objs.size + 1) :: ws) _ _ (fun _ _ _ => False) (hr.make C rest kw) (I2.env0.make C rest kw) (hb _ _ I2.kIn nPs) r2 hq) (fun r s' hq' => ?_)))
  cases r with
  | error er => exact hx pins σ _ _ er s' I2 hq'
  | ok fl =>
    cases fl with
    | ret u =>
      have J := I2.after (Q := fun v H2 => v = .non ∧ R (.ref (hp.objs.size + 1)) H2) hq'
      obtain ⟨v, H2, os2, bare2, un2, hok2, rv, ev, q2⟩ := hq'
      subst ev
      refine ⟨rv, ?_⟩
      have I3 : Inv X pins σ H2 s' := I2.call' (ch := []) os2 un2 hok2 bare2 (fun b z => absurd z (by simp))
      exact done _ _ H2 s' hsz kk un2 hok2 os2 bare2 I3 q2
    | next => exact False.elim hq'
    | brk => exact False.elim hq'
    | cont => exact False.elim hq'
/-- C(e, ..) by places, as a value -/
theorem pe_mkE (T : ExC X.K tl newId C) (W : TlOk tl) (Fb : ExcBaseFacts B newId initId tl) (iC : PySem.W.findIn X.K (.ref C) "__init__" = some (some (.ref fI))) (tI : PySem.W.typeIn X.K (.ref fI) = some (.type "function"))
    (F1 : FnOk X.prog X.w X.K X.mg X.base CX k fI fd ps sp) (hr : Room (k + 1) X.A) (hx : Passes CX X (fun _ _ _ => False)) (hg : Gl X x) (hm : X.mg x = some (.ref C)) (hb : Binds X.K fd ps []) (ha : PA X (e :: es) ta)
    (hdb : (x == ("__debug__" : Str)) = false := by decide) (he : starEach (e :: es) X.env = (false, eval e X.env) :: starEach es X.env := by rfl) (hpl : (backTo pos (starEach es X.env)).any (·.1) = false := by rfl) :
    PE X (.Call (.Name x p) (e :: es) [] pos) (fun σ H Q => ta σ H fun vs H1 => rMkE C sp id vs H1 Q) := by
  refine ⟨fun pins s σ H Q I h => wpAny_Call_Name_kw (ld_glob I hg hm ?_ hdb)⟩
  refine PySem.W.callWith_K (h₀ := X.base) I.ok.mod.kin T.kp (thn (ha.run pos pins s σ H _ I h) (fun us s1 hh => ?_)) he hpl
  obtain ⟨vs, H1, I1, r1, hz, q1⟩ := hh
  refine ⟨I1.kIn, ?_⟩
  refine mk_core (rest := us) (kw := []) (ws := us) (R := Q) T W Fb iC tI F1 hr hx I1 r1 (by rw [← Paired.length r1, sizeLine_eq]; omega) (.inl rfl) (fun s2 a X2 n => ?_) q1 (fun a hp2 H2 s' _ _ _ _ _ _ J q => ⟨.ref a, H2, J, rfl, q⟩)
  have b := hb s2 (.ref a :: us) X2 (by rw [List.append_nil]; exact n)
  rw [List.append_nil] at b
  exact b
/-- C(e, ..) by places, raised -/
theorem pmk_mkE (T : ExC X.K tl newId C) (W : TlOk tl) (Fb : ExcBaseFacts B newId initId tl) (iC : PySem.W.findIn X.K (.ref C) "__init__" = some (some (.ref fI))) (tI : PySem.W.typeIn X.K (.ref fI) = some (.type "function"))
    (F1 : FnOk X.prog X.w X.K X.mg X.base CX k fI fd ps sp) (hr : Room (k + 1) X.A) (hx : Passes CX X (fun _ _ _ => False)) (hg : Gl X x) (hm : X.mg x = some (.ref C)) (hb : Binds X.K fd ps []) (ha : PA X (e :: es) ta)
    (hdb : (x == ("__debug__" : Str)) = false := by decide) (he : starEach (e :: es) X.env = (false, eval e X.env) :: starEach es X.env := by rfl) (hpl : (backTo pos (starEach es X.env)).any (·.1) = false := by rfl) :
    PMk X (.Call (.Name x p) (e :: es) [] pos) (fun σ H Q => ta σ H fun vs H1 => rMkE C sp id vs H1 (fun u H2 => ∃ (a d : Addr) (fs : List (Str × V)), u = .ref a ∧ H2 a = some (exo a C (some d)) ∧ H2 d = some (exd d fs) ∧ H1 d = none ∧ Q (.ref C) (some d) (upd (del H2 a) d (.xd fs)))) := by
  intro pins s σ H Q I h
  refine wpAny_Call_Name_kw (ld_glob I hg hm ?_ hdb)
  refine PySem.W.callWith_K (h₀ := X.base) I.ok.mod.kin T.kp (thn (ha.run pos pins s σ H _ I h) (fun us s1 hh => ?_)) he hpl
  obtain ⟨vs, H1, I1, r1, hz, q1⟩ := hh
  refine ⟨I1.kIn, ?_⟩
  refine mk_core (rest := us) (kw := []) (ws := us) (R := fun u H2 => ∃ (a d : Addr) (fs : List (Str × V)), u = .ref a ∧ H2 a = some (exo a C (some d)) ∧ H2 d = some (exd d fs) ∧ H1 d = none ∧ Q (.ref C) (some d) (upd (del H2 a) d (.xd fs))) T W Fb iC tI F1 hr hx I1 r1 (by rw [← Paired.length r1, sizeLine_eq]; omega) (.inl rfl) (fun s2 a X2 n => ?_) q1 (fun a hp2 H2 s' hs kk un hok os bare J q => ?_)
  · have b := hb s2 (.ref a :: us) X2 (by rw [List.append_nil]; exact n)
    rw [List.append_nil] at b
    exact b
  · obtain ⟨a', d, fs, ea, e1, e2, e3, q2⟩ := q
    cases ea
    obtain ⟨hp, g, dr, tk, os1⟩ := s1
    obtain ⟨h2, g2, d2, t2, os2⟩ := s'
    exact mk_end (raises_own T.ex T.ty) I1 hs kk un hok os bare e1 e2 e3 q2
/-- C(k = e, ..) by names alone, as a value; g puts the values into the parameters' order -/
theorem pe_mkEK {g : {α : Type} → List α → List α} {n : Nat} (T : ExC X.K tl newId C) (W : TlOk tl) (Fb : ExcBaseFacts B newId initId tl) (iC : PySem.W.findIn X.K (.ref C) "__init__" = some (some (.ref fI))) (tI : PySem.W.typeIn X.K (.ref fI) = some (.type "function"))
    (F1 : FnOk X.prog X.w X.K X.mg X.base CX k fI fd ps sp) (hr : Room (k + 1) X.A) (hx : Passes CX X (fun _ _ _ => False)) (hg : Gl X x) (hm : X.mg x = some (.ref C))
    (hb : ∀ (s : Shared) (a : Addr) (ws : List Value), X.K.In s.heap → ws.length = n → BindsTo s fd ⟨[.ref a], ks.zip ws⟩ (ps.zip (.ref a :: g ws)))
    (hrel : ∀ {vs : List V} {us : List Value}, vs.length = n → Vals vs us → Vals (g vs) (g us)) (hkw : PK X kws ta) (hall : (backToKw pos (keywordEach kws X.env)).all (·.1.isSome) = true := by rfl) (hks : (backToKw pos (keywordEach kws X.env)).filterMap (·.1) = ks := by rfl)
    (hdb : (x == ("__debug__" : Str)) = false := by decide) (hpl : ((backTo pos (starEach [] X.env)).any (·.1) || (backToKw pos (keywordEach kws X.env)).any (·.1.isNone)) = false := by rfl) :
    PE X (.Call (.Name x p) [] kws pos) (fun σ H Q => ta σ H fun vs H1 => vs.length = n ∧ rMkE C sp g vs H1 Q) := by
  refine ⟨fun pins s σ H Q I h => wpAny_Call_Name_kw (ld_glob I hg hm ?_ hdb)⟩
  refine PySem.W.callWith_KW0 (h₀ := X.base) I.ok.mod.kin T.kp hall (thn (hkw.run pos pins s σ H _ I h) (fun us s1 hh => ?_)) hpl
  obtain ⟨vs, H1, I1, r1, hn, hz, q1⟩ := hh
  refine ⟨I1.kIn, ?_⟩
  rw [hks]
  show wpAny _ _ (call (.ref C) [] (ks.zip us)) _ _ _
  exact mk_core (rest := []) (kw := ks.zip us) (ws := g us) (vs := g vs) (R := Q) T W Fb iC tI F1 hr hx I1 (hrel hn r1) (by rw [sizeLine_eq]; decide) (.inr rfl) (fun s2 a X2 _ => hb s2 a us X2 (r1.length.symm.trans hn)) q1 (fun a hp2 H2 s' _ _ _ _ _ _ J q => ⟨.ref a, H2, J, rfl, q⟩)
/-- C(), an own error class without an own __init__, as a value -/
theorem pe_mkE0 {bmB : List Value} (F : ExcBaseFacts B newId initId bmB) (q : PySem.W.excIn X.K C bmB newId = true) (gC : X.mg x = some (.ref C)) (kC : PySem.W.keepIn X.K (.ref C) = true) (hg : Gl X x) (hdb : (x == ("__debug__" : Str)) = false := by decide) :
    PE X (.Call (.Name x p) [] [] pos) (fun σ H Q => ∀ a, H a = none → Q (.ref a) (upd H a (ExO (.ref C) a))) := by
  refine ⟨fun pins s σ H Q I h => wpAny_Call_Name_kw (ld_glob I hg gC ?_ hdb)⟩
  refine PySem.W.callWith_K0 I.kIn kC ?_
  show wpAny _ _ (call (.ref C) []) _ _ _
  obtain ⟨bm, N, nm, qn, bs, hdct, sn, sub, ab, col, dd, k0, k1, k2, k3, k5, mN, hC, hN, hni, T⟩ := exc_obj I.kIn q
  refine wpAny_call_exc_subT F T hC hN hni (fun h' a hm => ?_) (by show 0 ≤ sizeLine; exact Nat.zero_le _)
  have hn : H a = none := I.hok.gone hm.new
  obtain ⟨t, ht, _, _⟩ := hm.there
  exact ⟨.ref a, upd H a (ExO (.ref C) a), I.laidN hm.keeps hm.new hn (exO_ok ht ⟨rfl, rfl⟩ rfl rfl rfl (show 4 < 6 by decide)), rfl, h a hn⟩
end
end GX
set_option Elab.async false
set_option linter.all false
set_option maxRecDepth 100000
set_option maxHeartbeats 4000000
/-! The facts of a program's top that has error classes of its own, read off the heap behind it. -/
namespace HX
open PySem PySem.Spec PyProof.Rows L2 GX

/-! ### which objects are looked at -/
def refsD : Option Obj → List Addr
  | some ⟨_, _, .dict es _, _⟩ => es.toList.flatMap fun e => He.refV e.val
  | _ => []
def codeO : Option Obj → List Addr
  | some ⟨_, _, .func fd, _⟩ => He.refV fd.code
  | _ => []
def partsO (g : Addr → Option Obj) : Option Obj → List Addr
  | some ⟨_, _, .cls cd, _⟩ => cd.ns :: (refsD (g cd.ns) ++ (refsD (g cd.ns)).flatMap fun a => codeO (g a))
  | o => codeO o
def asX (g : Addr → Option Obj) : List Addr := mainGlobals :: ((refsD (g mainGlobals)) ++ (refsD (g mainGlobals)).flatMap fun a => partsO g (g a))

/-! ### the table of the error classes -/
structure Ci where
  nm : Str
  base : Option Str
  kind : Nat
  fl : List Str
  deriving DecidableEq
def tlOf : Nat → List Value
  | 0 => tlV
  | 1 => tlL
  | _ => tlA
def newOf : Nat → String
  | 0 => "ValueError.__new__"
  | 1 => "LookupError.__new__"
  | _ => "ArithmeticError.__new__"
theorem tlOk : ∀ n, TlOk (tlOf n)
  | 0 => tlOkV
  | 1 => tlOkL
  | _ + 2 => tlOkA
theorem facts_of : ∀ n, ∃ B i, ExcBaseFacts B (newOf n) i (tlOf n)
  | 0 => ⟨_, _, F.excBase_ValueError⟩
  | 1 => ⟨_, _, F.excBase_LookupError⟩
  | _ + 2 => ⟨_, _, F.excBase_ArithmeticError⟩
def formB (K : PySem.W.Frag) (C : Addr) (tl : List Value) (newId : String) : Bool := match K.lookup C with
  | some ⟨.type c, _, .cls cd, sl⟩ => (match cd.mro, sl.toList with
    | .ref C' :: bm, [_, _, _, _, some (.builtin n), _] => c == "type" && (C' == C && (n == newId && (!cd.hasDel && (cd.hasDict && mroB tl bm))))
    | _, _ => false)
  | _ => false
theorem form_ok {K : PySem.W.Frag} {C : Addr} {tl : List Value} {newId : String} (q : formB K C tl newId = true) :
    ∃ nm q N bs bm sn sub ab col dd k0 k1 k2 k3 k5, K.lookup C = some (excClassObj nm q C N bs bm true sn sub ab col dd k0 k1 k2 k3 k5 newId) ∧ mroB tl bm = true := by
  unfold formB at q
  split at q
  · rename_i c dd cd sl ho
    split at q
    · rename_i C' bm k0 k1 k2 k3 n k5 hm hs
      simp only [Bool.and_eq_true, beq_iff_eq, Bool.not_eq_true'] at q
      obtain ⟨rfl, rfl, rfl, hdel, hdc, ht⟩ := q
      obtain ⟨nm, bs, mro, ns, qn, hd, sn, sub, ab, col, del⟩ := cd
      dsimp only at hm hdel hdc
      subst hm hdel hdc
      have hsl : sl = #[k0, k1, k2, k3, some (.builtin n), k5] := by
        obtain ⟨l⟩ := sl
        simp only at hs
        rw [hs]
      subst hsl
      exact ⟨nm, qn, ns, bs, bm, sn, sub, ab, col, dd, k0, k1, k2, k3, k5, ho, ht⟩
    · cases q
  · cases q
abbrev isB (K : PySem.W.Frag) (C : Addr) (m : Str) (v : Option Value) : Bool := He.eqO (PySem.W.findIn K (.ref C) m) (some v)
/-- the facts of one class at C -/
def excB (K : PySem.W.Frag) (C : Addr) (n : Nat) : Bool := formB K C (tlOf n) (newOf n) && (isB K C "__setattr__" (some (.builtin "object.__setattr__")) && (isB K C "__getattribute__" (some (.builtin "BaseException.__getattribute__")) && (isB K C "__getattr__" none &&
  (decide (PySem.W.subIn K (.ref C) (.type "BaseException") = some true) && (decide (PySem.W.typeIn K (.ref C) = some (.type "type")) && (PySem.W.keepIn K (.ref C) && (PySem.W.hasDictIn K C && (isB K C "__class__" (some (.builtin "object.__class__")) &&
  decide (PySem.W.mroIn K C (.type "object") = some true)))))))))
theorem ba {a b : Bool} (h : (a && b) = true) : a = true ∧ b = true := Bool.and_eq_true_iff.mp h
theorem exc_ok {K : PySem.W.Frag} {C : Addr} {n : Nat} (h : excB K C n = true) : ExC K (tlOf n) (newOf n) C := by
  obtain ⟨h1, h⟩ := ba h
  obtain ⟨h2, h⟩ := ba h
  obtain ⟨h3, h⟩ := ba h
  obtain ⟨h4, h⟩ := ba h
  obtain ⟨h5, h⟩ := ba h
  obtain ⟨h6, h⟩ := ba h
  obtain ⟨h7, h⟩ := ba h
  obtain ⟨h8, h⟩ := ba h
  obtain ⟨h9, h10⟩ := ba h
  exact ⟨form_ok h1, He.eqO_ok h2, He.eqO_ok h3, He.eqO_ok h4, of_decide_eq_true h5, of_decide_eq_true h6, h7, h8, He.eqO_ok h9, of_decide_eq_true h10⟩
/-- what is asked of the attribute __class__ (of the library alone) -/
theorem clsA (K : PySem.W.Frag) : ClsA K := ⟨by kernel_rfl, by kernel_rfl⟩
abbrev ga := He.ga
def mroOfC (K : PySem.W.Frag) (c : Ci) : List Value := .ref (ga K c.nm) :: ((match c.base with
  | some b => [.ref (ga K b)]
  | none => []) ++ tlOf c.kind)
/-- one row of the table -/
def rowB (K : PySem.W.Frag) (c : Ci) : Bool := He.eqO (PySem.W.nsIn K mainGlobals c.nm) (some (some (.ref (ga K c.nm)))) && (excB K (ga K c.nm) c.kind && (decide ((PySem.W.clsIn K (ga K c.nm)).map (·.mro) = some (mroOfC K c)) && ((c.fl.all fun f => isB K (ga K c.nm) f none) &&
  (match c.fl with
    | [] => PySem.W.excIn K (ga K c.nm) (tlOf c.kind) (newOf c.kind)
    | _ => isB K (ga K c.nm) "__init__" (some (.ref (He.ma K (ga K c.nm) "__init__"))) && decide (PySem.W.typeIn K (.ref (He.ma K (ga K c.nm) "__init__")) = some (.type "function"))))))
structure RowOk (K : PySem.W.Frag) (c : Ci) : Prop where
  gl : PySem.W.nsIn K mainGlobals c.nm = some (some (.ref (ga K c.nm)))
  ex : ExC K (tlOf c.kind) (newOf c.kind) (ga K c.nm)
  mro : (PySem.W.clsIn K (ga K c.nm)).map (·.mro) = some (mroOfC K c)
  no : ∀ f ∈ c.fl, PySem.W.findIn K (.ref (ga K c.nm)) f = some none
  i0 : c.fl = [] → PySem.W.excIn K (ga K c.nm) (tlOf c.kind) (newOf c.kind) = true
  i1 : c.fl ≠ [] → PySem.W.findIn K (.ref (ga K c.nm)) "__init__" = some (some (.ref (He.ma K (ga K c.nm) "__init__"))) ∧ PySem.W.typeIn K (.ref (He.ma K (ga K c.nm) "__init__")) = some (.type "function")
theorem row_ok {K : PySem.W.Frag} {c : Ci} (h : rowB K c = true) : RowOk K c := by
  obtain ⟨h1, h⟩ := ba h
  obtain ⟨h2, h⟩ := ba h
  obtain ⟨h3, h⟩ := ba h
  obtain ⟨h4, h5⟩ := ba h
  refine ⟨He.eqO_ok h1, exc_ok h2, of_decide_eq_true h3, fun f hf => He.eqO_ok (List.all_eq_true.mp h4 f hf), fun e => ?_, fun e => ?_⟩
  · rw [e] at h5
    exact h5
  · cases q : c.fl with
    | nil => exact absurd q e
    | cons _ _ =>
      rw [q] at h5
      obtain ⟨h6, h7⟩ := ba h5
      exact ⟨He.eqO_ok h6, of_decide_eq_true h7⟩

/-! ### the Hook, looked at by parts -/
def frK {α : Type} : List (Addr × Obj) → (List (Addr × Obj) → α) → α
  | [], k => k []
  | (a, ⟨c, d, t, sl⟩) :: r, k => HandSHeadRun.frNat a fun a => frK r fun r => k ((a, ⟨c, d, t, sl⟩) :: r)
theorem frK_eq {α : Type} : ∀ (l : List (Addr × Obj)) (k : List (Addr × Obj) → α), frK l k = k l
  | [], k => rfl
  | (a, ⟨c, d, t, sl⟩) :: r, k => by
    show HandSHeadRun.frNat a (fun a => frK r fun r => k ((a, ⟨c, d, t, sl⟩) :: r)) = _
    rw [HandSHeadRun.frNat_eq, frK_eq r]
def frag (g : Addr → Option Obj) : PySem.W.Frag := He.frG g (asX g)
/-- one look -/
structure Part where
  ok : PySem.W.Frag → Bool
  fn : List He.DefD
def Part.says (p : Part) (K : PySem.W.Frag) : Prop := p.ok K = true ∧ (∀ d ∈ p.fn, d.ok K = true) ∧ p.fn.map (fun d => He.fnW K d.at_) = p.fn.map He.DefD.val
def Part.see (p : Part) (g : Addr → Option Obj) : Bool × List He.FnW := frK (frag g) fun K => (p.ok K && p.fn.all fun d => d.ok K, p.fn.map fun d => He.fnW K d.at_)
theorem Part.of {p : Part} {g : Addr → Option Obj} (h : p.see g = (true, p.fn.map He.DefD.val)) : p.says (frag g) := by
  unfold Part.see at h
  rw [frK_eq] at h
  obtain ⟨h1, h2⟩ := Prod.mk.inj h
  obtain ⟨h3, h4⟩ := ba h1
  exact ⟨h3, fun d hd => List.all_eq_true.mp h4 d hd, h2⟩
theorem Part.def_ {p : Part} {K : PySem.W.Frag} (c : p.says K) {d : He.DefD} (h : d ∈ p.fn) : ∃ fd, FunD K d.name d.qual d.params d.body d.scope (d.dvs K) (d.kws K) (He.fAd K d.at_) fd := by
  obtain ⟨_, c2, e⟩ := c
  obtain ⟨i, hi, ei⟩ := List.mem_iff_getElem.mp h
  have e2 : (p.fn.map fun d => He.fnW K d.at_)[i]? = (p.fn.map He.DefD.val)[i]? := by rw [e]
  have e3 : p.fn[i]? = some d := by rw [List.getElem?_eq_getElem hi, ei]
  rw [List.getElem?_map, List.getElem?_map, e3] at e2
  exact He.DefD.funD (Option.some.inj e2) (c2 d h)
def hookP (ps : List Part) : PySem.W.Hook where
  α := List (Bool × List He.FnW)
  obs := fun s => ps.map fun p => p.see s.heap.get?
  val := fun _ => ps.map fun p => (true, p.fn.map He.DefD.val)
  says := fun _ h => ∃ K : PySem.W.Frag, K.In h ∧ ∀ p ∈ ps, p.says K
  of := fun _ s e => ⟨frag s.heap.get?, He.frG_in, fun p hp => Part.of (by
    obtain ⟨i, hi, ei⟩ := List.mem_iff_getElem.mp hp
    have e2 : (ps.map fun p => p.see s.heap.get?)[i]? = (ps.map fun p => ((true, p.fn.map He.DefD.val) : Bool × List He.FnW))[i]? := by rw [e]
    have e3 : ps[i]? = some p := by rw [List.getElem?_eq_getElem hi, ei]
    rw [List.getElem?_map, List.getElem?_map, e3] at e2
    exact Option.some.inj e2)⟩
  keeps := fun _ _ _ ⟨K, hK, c⟩ k => ⟨K, PySem.W.Frag.In.keeps hK k, c⟩
open HandSHeadRun PySem.W in
/-- the run alone -/
def Run0 (r : OpenRow) (q : Program) (M : Nat) (loose : List PySem.Str) (w : World) : Prop :=
  ∀ os : OsState, (endF (stepQ (denQ tabQ) r.prog w) M r.prog w os).map (fun s => (looksF r.prog (boot_heap w.params) s.abs, seenQ q loose (importedModules r.prog.main.body) (fun s => xlAt q [] s && recOk r.toRowW.records s) s.abs)) = some (true, openGood q loose)
open HandSHeadRun PySem.W in
/-- one look behind the run -/
def Run1 (r : OpenRow) (M : Nat) (p : Part) (w : World) : Prop :=
  ∀ os : OsState, (endF (stepQ (denQ tabQ) r.prog w) M r.prog w os).map (fun s => p.see (getT s)) = some (true, p.fn.map He.DefD.val)
open HandSHeadRun PySem.W in
theorem run_all {r : OpenRow} {q : Program} {M : Nat} {loose : List PySem.Str} {w : World} {ps : List Part} (h0 : Run0 r q M loose w) (h1 : ∀ p ∈ ps, Run1 r M p w) : RunEq r q (hookP ps) (fun s => ps.map fun p => p.see (getT s)) M loose w := by
  intro os
  obtain ⟨s, e, v⟩ := Option.map_eq_some_iff.mp (h0 os)
  rw [e]
  obtain ⟨v1, v2⟩ := Prod.mk.inj v
  show some (looksF r.prog (boot_heap w.params) s.abs, seenQ q loose (importedModules r.prog.main.body) (fun s => xlAt q [] s && recOk r.toRowW.records s) s.abs, ps.map fun p => p.see (getT s)) = some (true, openGood q loose, ps.map fun p => (true, p.fn.map He.DefD.val))
  rw [v1, v2]
  refine congrArg some (Prod.ext rfl (Prod.ext rfl (List.map_congr_left fun p hp => ?_)))
  have z := h1 p hp os
  rw [e] at z
  exact Option.some.inj z
theorem see_eq (ps : List Part) (s : PySem.W.SharedT) : (ps.map fun p => p.see (HandSHeadRun.getT s)) = (hookP ps).obs s.abs := by
  have e : HandSHeadRun.getT s = s.abs.heap.get? := funext (HandSHeadRun.getT_eq s)
  rw [e] <;> rfl
end HX
set_option Elab.async false
set_option linter.all false
set_option maxRecDepth 100000
set_option maxHeartbeats 0
namespace K1
open PySem PySem.Spec PyProof.Rows L2 GX HX
abbrev prg : Program := PySem.Challenge.pw_gridwright_k01_whole_errors_and_limits
def top (i : Nat) : Stmt := PySem.Challenge.pw_gridwright_k01_whole_errors_and_limits.main.body.getD i (.Pass ⟨0, 0, 0, 0⟩)
def tab1 : List HX.Ci := [⟨"InvalidNumber", some "WrongValue", 0, ["given"]⟩,
  ⟨"InvalidKind", some "WrongValue", 0, ["given"]⟩,
  ⟨"InvalidText", some "WrongValue", 0, ["given"]⟩,
  ⟨"InvalidIndex", some "WrongValue", 0, ["given"]⟩,
  ⟨"InvalidOrder", some "WrongValue", 0, ["given"]⟩,
  ⟨"InvalidDeed", some "WrongValue", 0, ["given"]⟩,
  ⟨"InvalidMode", some "WrongValue", 0, ["given"]⟩,
  ⟨"InvalidName", some "WrongValue", 0, ["given"]⟩,
  ⟨"InvalidWish", some "WrongValue", 0, ["given"]⟩,
  ⟨"InvalidLine", some "WrongValue", 0, ["given"]⟩,
  ⟨"NotANumber", some "WrongValue", 0, ["given"]⟩,
  ⟨"NotAPoly", some "WrongValue", 0, ["given"]⟩,
  ⟨"NotAColumn", some "WrongValue", 0, ["given"]⟩,
  ⟨"NotAGrid", some "WrongValue", 0, ["given"]⟩,
  ⟨"NotAGroup", some "WrongValue", 0, ["given"]⟩,
  ⟨"NotLooks", some "WrongValue", 0, ["given"]⟩,
  ⟨"NotABench", some "WrongValue", 0, ["given"]⟩,
  ⟨"InvalidCoefficients", some "WrongValue", 0, ["index"]⟩,
  ⟨"InvalidEntries", some "WrongValue", 0, ["index"]⟩]
def tab2 : List HX.Ci := [⟨"InvalidRows", some "WrongValue", 0, ["index"]⟩,
  ⟨"InvalidColumns", some "WrongValue", 0, ["index"]⟩,
  ⟨"InvalidIndexes", some "WrongValue", 0, ["index"]⟩,
  ⟨"InvalidGrids", some "WrongValue", 0, ["index"]⟩,
  ⟨"InvalidPoints", some "WrongValue", 0, ["index"]⟩,
  ⟨"InvalidBottoms", some "WrongValue", 0, ["index"]⟩,
  ⟨"InvalidPolys", some "WrongValue", 0, ["index"]⟩,
  ⟨"InvalidRun", some "WrongValue", 0, ["index"]⟩,
  ⟨"InvalidPairs", some "WrongValue", 0, ["index"]⟩,
  ⟨"InvalidPlaces", some "WrongValue", 0, ["index"]⟩,
  ⟨"InvalidLog", some "WrongValue", 0, ["index"]⟩,
  ⟨"NotAField", some "WrongValue", 0, ["kind"]⟩,
  ⟨"NotWhole", some "WrongValue", 0, ["kind"]⟩,
  ⟨"NotOrdered", some "WrongValue", 0, ["kind"]⟩,
  ⟨"NotRests", some "WrongValue", 0, ["kind"]⟩,
  ⟨"Unlike", some "WrongValue", 0, ["kind", "other"]⟩,
  ⟨"NotLed", some "WrongValue", 0, ["kind", "other"]⟩,
  ⟨"NotSquare", some "WrongValue", 0, ["shape"]⟩,
  ⟨"InvalidShape", some "WrongValue", 0, ["shape", "other"]⟩]
def tab3 : List HX.Ci := [⟨"UnknownName", some "WrongName", 1, ["given"]⟩,
  ⟨"InUse", some "WrongName", 1, ["index"]⟩,
  ⟨"NotAUnit", some "NoAnswer", 2, ["given"]⟩,
  ⟨"NotApart", some "NoAnswer", 2, ["given"]⟩,
  ⟨"TooMany", some "NoAnswer", 2, ["given"]⟩,
  ⟨"TooFew", some "NoAnswer", 2, ["given"]⟩,
  ⟨"TooGreat", some "NoAnswer", 2, ["given"]⟩,
  ⟨"NotARule", some "NoAnswer", 2, ["given"]⟩,
  ⟨"NotMonic", some "NoAnswer", 2, ["given"]⟩,
  ⟨"NoTriangles", some "NoAnswer", 2, ["given"]⟩,
  ⟨"NoGoal", some "NoAnswer", 2, ["kind"]⟩,
  ⟨"Broken", some "NoAnswer", 2, ["index"]⟩,
  ⟨"Nought", some "NoAnswer", 2, []⟩,
  ⟨"NoInverse", some "NoAnswer", 2, []⟩,
  ⟨"NoRound", some "NoAnswer", 2, []⟩,
  ⟨"NoSuchRoot", some "NoAnswer", 2, []⟩,
  ⟨"NotWithin", some "NoAnswer", 2, []⟩,
  ⟨"Quarrels", some "NoAnswer", 2, []⟩,
  ⟨"NothingToUndo", some "NoAnswer", 2, []⟩]
def tab4 : List HX.Ci := [⟨"WrongValue", none, 0, []⟩,
  ⟨"WrongName", none, 1, []⟩,
  ⟨"NoAnswer", none, 2, []⟩]
def initAt1 : List (Str × Nat) := [⟨"InvalidNumber", 2⟩, ⟨"InvalidKind", 3⟩, ⟨"InvalidText", 4⟩, ⟨"InvalidIndex", 5⟩, ⟨"InvalidOrder", 6⟩, ⟨"InvalidDeed", 7⟩, ⟨"InvalidMode", 8⟩, ⟨"InvalidName", 9⟩, ⟨"InvalidWish", 10⟩, ⟨"InvalidLine", 11⟩, ⟨"NotANumber", 12⟩, ⟨"NotAPoly", 13⟩, ⟨"NotAColumn", 14⟩, ⟨"NotAGrid", 15⟩, ⟨"NotAGroup", 16⟩]
def initAt2 : List (Str × Nat) := [⟨"NotLooks", 17⟩, ⟨"NotABench", 18⟩, ⟨"InvalidCoefficients", 19⟩, ⟨"InvalidEntries", 20⟩, ⟨"InvalidRows", 21⟩, ⟨"InvalidColumns", 22⟩, ⟨"InvalidIndexes", 23⟩, ⟨"InvalidGrids", 24⟩, ⟨"InvalidPoints", 25⟩, ⟨"InvalidBottoms", 26⟩, ⟨"InvalidPolys", 27⟩, ⟨"InvalidRun", 28⟩, ⟨"InvalidPairs", 29⟩, ⟨"InvalidPlaces", 30⟩, ⟨"InvalidLog", 31⟩]
def initAt3 : List (Str × Nat) := [⟨"NotAField", 32⟩, ⟨"NotWhole", 33⟩, ⟨"NotOrdered", 34⟩, ⟨"NotRests", 35⟩, ⟨"Unlike", 36⟩, ⟨"NotLed", 37⟩, ⟨"NotSquare", 38⟩, ⟨"InvalidShape", 39⟩, ⟨"UnknownName", 41⟩, ⟨"InUse", 42⟩, ⟨"NotAUnit", 44⟩, ⟨"NotApart", 45⟩, ⟨"TooMany", 46⟩, ⟨"TooFew", 47⟩, ⟨"TooGreat", 48⟩]
def initAt4 : List (Str × Nat) := [⟨"NotARule", 49⟩, ⟨"NotMonic", 50⟩, ⟨"NoTriangles", 51⟩, ⟨"NoGoal", 52⟩, ⟨"Broken", 53⟩]
def initAt : List (Str × Nat) := initAt1 ++ initAt2 ++ initAt3 ++ initAt4
def tab : List HX.Ci := tab1 ++ tab2 ++ tab3 ++ tab4
def dOf (x : Str) (i : Nat) : He.DefD := ⟨(x, none), x, x, defArgs (top i), defBody (top i), defScope (top i), [], []⟩
def iOf (p : Str × Nat) : He.DefD := ⟨(p.1, some "__init__"), "__init__", p.1 ++ ".__init__", defArgs (inClass (top p.2) 0), defBody (inClass (top p.2) 0), defScope (inClass (top p.2) 0), [], []⟩
def fnsL : List He.DefD := [dOf "_law_jar" 71, dOf "_law_dip" 72, dOf "_law_one_of" 73, dOf "_law_great" 74, dOf "_law_sort" 75, dOf "_law_first_givens" 76, dOf "_law_indexes" 77, dOf "_law_kinds" 78, dOf "_law_answers" 79, dOf "_law_bases" 80, dOf "_law_classes" 81,
  dOf "_law_by_place" 82, dOf "_law_by_name" 83, dOf "_law_attributes" 84, dOf "_law_caught" 85, dOf "_law_made_right" 86, dOf "_law_right" 87, dOf "law" 88]
def builtins : List Str := ["isinstance", "repr", "int", "len", "abs", "divmod", "range", "tuple", "all", "max", "min", "ValueError", "LookupError", "ArithmeticError"]
def limits : List (Str × Int) := [("MOST_SIDE", 8), ("MOST_MODULUS", 1000000), ("MOST_PRIME", 100), ("MOST_POWER", 64), ("MOST_FAR", 1000000000000000000000000000000), ("MOST_RUN", 40), ("MOST_LISTED", 400), ("MOST_LOOKS", 12), ("MOST_PLACES", 16)]
abbrev R : PySem.W.OpenRow := PySem.W.OpenLaw.row PySem.Challenge.rw_gridwright_k01_whole_errors_and_limits
def okM (K : PySem.W.Frag) : Bool := ((fnsL.all fun d => (He.Fa.glo d.name).ok K) && ((builtins.all fun b => (He.Fa.free b).ok K) && ((limits.all fun l => (He.Fa.int l.1 l.2).ok K) && decide ((tab.map fun c => ga K c.nm).Nodup))))
def p1 : Part := ⟨fun K => (tab1 ++ tab2).all fun c => rowB K c, []⟩
def p2 : Part := ⟨fun K => (tab3 ++ tab4).all fun c => rowB K c, []⟩
def p3 : Part := ⟨okM, fnsL⟩
def p4 : Part := ⟨fun _ => true, initAt.map iOf⟩
def loose1 : List Str := ["WrongValue", "InvalidNumber", "InvalidKind", "InvalidText", "InvalidIndex", "InvalidOrder", "InvalidDeed", "InvalidMode", "InvalidName", "InvalidWish", "InvalidLine", "NotANumber", "NotAPoly", "NotAColumn", "NotAGrid", "NotAGroup", "NotLooks", "NotABench", "InvalidCoefficients", "InvalidEntries", "InvalidRows", "InvalidColumns", "InvalidIndexes", "InvalidGrids", "InvalidPoints", "InvalidBottoms", "InvalidPolys", "InvalidRun", "InvalidPairs", "InvalidPlaces", "InvalidLog"]
def loose2 : List Str := ["NotAField", "NotWhole", "NotOrdered", "NotRests", "Unlike", "NotLed", "NotSquare", "InvalidShape", "WrongName", "UnknownName", "InUse", "NoAnswer", "NotAUnit", "NotApart", "TooMany", "TooFew", "TooGreat", "NotARule", "NotMonic", "NoTriangles", "NoGoal", "Broken", "Nought", "NoInverse", "NoRound", "NoSuchRoot", "NotWithin", "Quarrels", "NothingToUndo"]
def loose3 : List Str := ["MOST_SIDE", "MOST_MODULUS", "MOST_PRIME", "MOST_POWER", "MOST_FAR", "MOST_RUN", "MOST_LISTED", "MOST_LOOKS", "MOST_PLACES", "_law_jar", "_law_dip", "_law_one_of", "_law_great", "_law_sort", "_law_first_givens", "_law_indexes", "_law_kinds", "_law_answers", "_law_bases", "_law_classes", "_law_by_place", "_law_by_name", "_law_attributes", "_law_caught", "_law_made_right", "_law_right"]
def loose : List Str := loose1 ++ loose2 ++ loose3

def pa : Part := ⟨fun K => (tab.all fun c => rowB K c) && okM K, fnsL ++ initAt.map iOf⟩
end K1
set_option Elab.async false
set_option linter.all false
set_option maxRecDepth 100000
set_option maxHeartbeats 0
namespace K1
open PySem PySem.Spec PyProof.Rows L2 GX HX
theorem run0 (w : World) : HX.Run0 R (PySem.W.view R.prog [88]) 15200 loose w := by
  intro os
  kernel_rfl
end K1
set_option Elab.async false
set_option linter.all false
set_option maxRecDepth 100000
set_option maxHeartbeats 0
namespace K1
open PySem PySem.Spec PyProof.Rows L2 GX HX
theorem run1 (w : World) : HX.Run1 R 15200 p1 w := by
  intro os
  kernel_rfl
end K1
set_option Elab.async false
set_option linter.all false
set_option maxRecDepth 100000
set_option maxHeartbeats 0
namespace K1
open PySem PySem.Spec PyProof.Rows L2 GX HX
theorem run2 (w : World) : HX.Run1 R 15200 p2 w := by
  intro os
  kernel_rfl
end K1
set_option Elab.async false
set_option linter.all false
set_option maxRecDepth 100000
set_option maxHeartbeats 0
namespace K1
open PySem PySem.Spec PyProof.Rows L2 GX HX
theorem run3 (w : World) : HX.Run1 R 15200 p3 w := by
  intro os
  kernel_rfl
end K1
set_option Elab.async false
set_option linter.all false
set_option maxRecDepth 100000
set_option maxHeartbeats 0
namespace K1
open PySem PySem.Spec PyProof.Rows L2 GX HX
theorem run4 (w : World) : HX.Run1 R 15200 p4 w := by
  intro os
  kernel_rfl
end K1
set_option Elab.async false
set_option linter.all false
set_option maxRecDepth 100000
set_option maxHeartbeats 4000000
namespace K1
open PySem PySem.Spec PyProof.Rows L2 GX HX

/-- two statements with a word of one's own between them -/
def tMid (t u : TS) : TS := fun D σ H => ∃ M : L2.St → Hp → Prop, t { D with nx := M } σ H ∧ ∀ σ' H', M σ' H' → u D σ' H'
theorem pss_cut {X : Cx} {st : Stmt} {rest : List Stmt} {t u : TS} (h1 : PS X st t) (h2 : PSs X rest u) : PSs X (st :: rest) (tMid t u) := by
  refine ⟨fun pins s σ H D I ⟨M, hm, hu⟩ => wpAny_execs_cons (thn (h1.run pins s σ H { D with nx := M } I hm) (fun f s1 q => ?_))⟩
  cases f with
  | next => obtain ⟨σ', H', J, q⟩ := q; exact h2.run pins s1 σ' H' D J (hu σ' H' q)
  | ret u => exact q
  | brk => exact q
  | cont => exact q

/-! ### what the top has left -/
structure Txt (K : PySem.W.Frag) (mg : Str → Option Value) : Prop where
  rows : ∀ c ∈ tab, RowOk K c
  nd : (tab.map fun c => ga K c.nm).Nodup
  gl : ∀ c ∈ tab, mg c.nm = some (.ref (ga K c.nm))
  free : ∀ b ∈ builtins, mg b = none
  lim : ∀ l ∈ limits, ∃ t, mg l.1 = some (.int l.2 t)
/-- a def of the law, at f -/
structure Df (K : PySem.W.Frag) (mg : Str → Option Value) (x : Str) (i : Nat) (f : Addr) (fd : FuncData) : Prop where
  fn : Fun K x x (top i) f fd
  gl : mg x = some (.ref f)
theorem fun_of {K : PySem.W.Frag} {x q : Str} {st : Stmt} {f : Addr} {fd : FuncData} (F : FunD K x q (defArgs st) (defBody st) (defScope st) [] [] f fd) : Fun K x q st f fd := by
  obtain ⟨⟨oc, od, dV, kV, doc, pm, an, cdv, ct, osl, rfl, lk, hcd, hD, hK⟩, kp⟩ := F
  rcases hD with ⟨_, rfl⟩ | ⟨h, _⟩
  · exact ⟨⟨oc, od, kV, doc, pm, an, cdv, ct, osl, rfl, lk, hcd⟩, kp⟩
  · exact absurd rfl h

/-! ### heaps: all but the jar stays -/
def SJ (j : Addr) (H H' : Hp) : Prop := ∀ b o, b ≠ j → H b = some o → H' b = some o
theorem SJ.refl (j : Addr) (H : Hp) : SJ j H H := fun _ _ _ h => h
theorem SJ.trans {j : Addr} {H H1 H2 : Hp} (a : SJ j H H1) (b : SJ j H1 H2) : SJ j H H2 := fun c o n h => b c o n (a c o n h)
theorem SJ.of {j : Addr} {H H' : Hp} (a : Same H H') : SJ j H H' := fun c o _ h => a c o h
theorem SJ.jar {j : Addr} {H : Hp} {o : HO} : SJ j H (upd H j o) := fun c u n h => by
  rw [upd_ne n]
  exact h
theorem same_new {H : Hp} {p : Addr} {o : HO} (h : H p = none) : Same H (upd H p o) := fun c u e => by
  rw [upd_ne (ne_of_none e h)]
  exact e
/-- a jar: three whole numbers -/
def Jar (H : Hp) (j : Addr) : Prop := ∃ a b c : Int, H j = some (.lst [.int a, .int b, .int c])

/-! ### _law_jar -/
theorem scJar : FnScope ["_law_script", "_law_turn", "_law_own", "_law_mixed", "_law_cell"] ["_law_script", "_law_turn"] (defScope (top 71)) := ⟨rfl, rfl, rfl, by decide +kernel, rfl, by decide +kernel, by decide +kernel⟩
def spJar (K : PySem.W.Frag) : Sp := fun vs H Q _ => ∃ (a : Addr) (ns : List Int) (t : Int), vs = [.ref a, .int t] ∧ SqL K H a (ns.map V.int) ∧ ns.length ≤ 63 ∧ 0 ≤ t ∧ t ≤ 10 ∧
  ∀ (p : Addr) (H' : Hp), H p = none → Jar H' p → Same H H' → Q (.ref p) H'
section
variable {P : Program} {w : World} {K : PySem.W.Frag} {mg : Str → Option Value} {base : Heap} {f : Addr} {fd : FuncData}
theorem mI : (0 : Int) ≤ 17 ∧ (17 : Int) ≤ 1000000 ∧ (10 : Int).natAbs < 2 ^ 64 := by decide
theorem cut_ints (ns : List Int) (lo hi : Option Int) : ∃ ms : List Int, cutV (ns.map V.int) lo hi = ms.map V.int := by
  unfold cutV
  rw [← List.map_drop, ← List.map_take]
  exact ⟨_, rfl⟩
theorem ok_jar (D : Df K mg "_law_jar" 71 f fd) (T : Txt K mg) : FnOk P w K mg base CX0 1 f fd ["_law_script", "_law_turn"] (spJar K) := by
  refine D.fn.ok scJar (fun vs H Q E h => ?_) (fun cdv A outer s H vs Q E hr h => ?_)
  · obtain ⟨a, ns, t, rfl, _⟩ := h
    rfl
  · obtain ⟨a, ns, t, rfl, hS, hn, ht0, ht1, k⟩ := h
    refine ⟨_, (pss_cut (ps_set (i := 2) scJar.nd rfl (.inl rfl) (pe_ifExp (pt_cmpR op_lt (pv 1) (pe_callB call_len_seq (by rfl) (T.free "len" (by decide +kernel)) (by decide +kernel) (pa_cons (pv 0) pa_nil)) (nomark _)) (pe_callTy call_int1 (by rfl) (T.free "int" (by decide +kernel)) (by decide +kernel) (pa_cons (pe_ix ix_list (pv 0) (pv 1) (fun _ _ => rfl)) pa_nil)) (pe_op op_add (pe_op op_mul pe_int (pv 1)) pe_int)))
      (pss_cons (ps_set (i := 3) scJar.nd rfl (.inl rfl) (pe_op op_add pe_int (pe_op op_mul pe_int (pv 1))))
      (pss_cons (ps_for PassesOwn.never rfl (pi_list (pe_slice sl_list (pv 0) po_none (po_some pe_int))) (pg_name (i := 4) scJar.nd rfl (.inl rfl)) (pss_one (ps_set (i := 3) scJar.nd rfl (.inl rfl) (pe_op op_modN (pe_callTy call_int1 (by rfl) (T.free "int" (by decide +kernel)) (by decide +kernel) (pa_cons (pe_op op_add (pe_op op_add (pe_op op_mul (pv 3) pe_int) (pe_op op_modN (pe_callTy call_int1 (by rfl) (T.free "int" (by decide +kernel)) (by decide +kernel) (pa_cons (pv 4) pa_nil)) pe_int)) pe_int) pa_nil)) pe_int))))
      (pss_one (ps_ret (pe_lst (pa_cons (pe_ifExp (PW.pt (pw_or (pt_cmpR op_lt (pv 2) pe_int (nomark _)) (pw_or1 (pt_cmpR op_ge (pv 2) (pe_op op_pow pe_int pe_int) (nomark _))))) (pe_callB call_abs (by rfl) (T.free "abs" (by decide +kernel)) (by decide +kernel) (pa_cons (pv 2) pa_nil)) pe_int) (pa_cons (pe_op op_modN (pe_callTy call_int1 (by rfl) (T.free "int" (by decide +kernel)) (by decide +kernel) (pa_cons (pe_op op_add (pe_op op_mul (pv 3) pe_int) (pe_op op_mul (pe_op op_modN (pv 2) pe_int) pe_int)) pa_nil)) pe_int) (pa_cons pe_int pa_nil))))))))), ?_⟩
    refine ⟨fun σ' H' => ∃ i : Int, σ' = [some (.ref a), some (.int t), some (.int i), none, none] ∧ H' = H, ?_, ?_⟩
    · simp only [L2.start, tSeq, tAsg, tIf, tIfS, tTest, tOp, rI0, rI, tVar, tCB, tCons, tNil, tC, gName, tRet, tRetN, cxOf, List.map_cons, List.map_nil, List.length_cons, List.length_nil, List.cons_append, List.nil_append, List.replicate, List.getElem?_cons_succ, List.getElem?_cons_zero, Option.some.injEq, exists_eq_left', exists_eq_left, V.int.injEq, V.bl.injEq, V.ref.injEq, V.str.injEq, List.cons.injEq, and_true, true_and, exists_and_left, exists_and_right, reduceCtorEq, false_and, exists_false, or_false, false_or, List.set_cons_zero, List.set_cons_succ, tSl, rSlL, tNoPart, tPart, tOr, tAnd, tNot, rIxL, rIxT, gTup, gCons, gNil, gSub, rSetL, tLst, tTup, iList, iRng1, tPar, exists_const, Int.reduceEq, Int.reduceNe, Nat.reduceAdd, exists_eq_right, exists_eq, exists_eq', if_true, if_false, ite_true, ite_false, Bool.false_eq_true, ne_eq, not_false_eq_true, tB, tNotV, tIsN]
      refine ⟨_, .inl hS, ?_⟩
      by_cases hlt : t < ((ns.map V.int).length : Int)
      · rw [if_pos (decide_eq_true hlt)]
        have hlt2 : t.toNat < ns.length := by
          rw [List.length_map] at hlt
          omega
        refine ⟨_, hS, .int (ns[t.toNat]), ?_, ?_⟩
        · have := atI_nat (xs := ns.map V.int) (j := t.toNat) (v := .int (ns[t.toNat])) (by rw [List.getElem?_map, List.getElem?_eq_getElem hlt2]; rfl)
          rw [Int.toNat_of_nonneg ht0] at this
          exact this
        · simp only [L2.start, tSeq, tAsg, tIf, tIfS, tTest, tOp, rI0, rI, tVar, tCB, tCons, tNil, tC, gName, tRet, tRetN, cxOf, List.map_cons, List.map_nil, List.length_cons, List.length_nil, List.cons_append, List.nil_append, List.replicate, List.getElem?_cons_succ, List.getElem?_cons_zero, Option.some.injEq, exists_eq_left', exists_eq_left, V.int.injEq, V.bl.injEq, V.ref.injEq, V.str.injEq, List.cons.injEq, and_true, true_and, exists_and_left, exists_and_right, reduceCtorEq, false_and, exists_false, or_false, false_or, List.set_cons_zero, List.set_cons_succ, tSl, rSlL, tNoPart, tPart, tOr, tAnd, tNot, rIxL, rIxT, gTup, gCons, gNil, gSub, rSetL, tLst, tTup, iList, iRng1, tPar, exists_const, Int.reduceEq, Int.reduceNe, Nat.reduceAdd, exists_eq_right, exists_eq, exists_eq', if_true, if_false, ite_true, ite_false, Bool.false_eq_true, ne_eq, not_false_eq_true, tB, tNotV, tIsN]
      · rw [if_neg (by simpa using hlt)]
        exact .inl (by decide)
    rintro σ' H' ⟨own, rfl, rfl⟩
    simp only [L2.start, tSeq, tAsg, tIf, tIfS, tTest, tOp, rI0, rI, tVar, tCB, tCons, tNil, tC, gName, tRet, tRetN, cxOf, List.map_cons, List.map_nil, List.length_cons, List.length_nil, List.cons_append, List.nil_append, List.replicate, List.getElem?_cons_succ, List.getElem?_cons_zero, Option.some.injEq, exists_eq_left', exists_eq_left, V.int.injEq, V.bl.injEq, V.ref.injEq, V.str.injEq, List.cons.injEq, and_true, true_and, exists_and_left, exists_and_right, reduceCtorEq, false_and, exists_false, or_false, false_or, List.set_cons_zero, List.set_cons_succ, tSl, rSlL, tNoPart, tPart, tOr, tAnd, tNot, rIxL, rIxT, gTup, gCons, gNil, gSub, rSetL, tLst, tTup, iList, iRng1, tPar, exists_const, Int.reduceEq, Int.reduceNe, Nat.reduceAdd, exists_eq_right, exists_eq, exists_eq', if_true, if_false, ite_true, ite_false, Bool.false_eq_true, ne_eq, not_false_eq_true, tB, tNotV, tIsN]
    refine ⟨.inl (by decide), ?_⟩
    obtain ⟨ms, hms⟩ := cut_ints ns none (some 7)
    refine ⟨_, rfl, _, rfl, a, _, rfl, hS, fun p hp => ⟨p, rfl, ⟨_, SqL.of upd_same⟩, ?_⟩⟩
    refine for_list (xs := cutV (ns.map V.int) none (some 7)) (fun _ σ H1 => ∃ (m : Int) (c : Option V), σ = [some (.ref a), some (.int t), some (.int own), some (.int m), c] ∧ H1 = upd H' p (.lst (cutV (ns.map V.int) none (some 7)))) ⟨_, _, rfl, rfl⟩
      (fun i σ H1 _ h => ?_) (fun i x σ H1 hx h => ?_) (fun σ H1 h => ?_)
    · obtain ⟨m, c, rfl, rfl⟩ := h
      exact SqL.of upd_same
    · obtain ⟨m, c, rfl, rfl⟩ := h
      rw [hms] at hx
      obtain ⟨v, _, rfl⟩ := List.mem_map.mp (List.mem_of_getElem? hx)
      simp only [L2.start, tSeq, tAsg, tIf, tIfS, tTest, tOp, rI0, rI, tVar, tCB, tCons, tNil, tC, gName, tRet, tRetN, cxOf, List.map_cons, List.map_nil, List.length_cons, List.length_nil, List.cons_append, List.nil_append, List.replicate, List.getElem?_cons_succ, List.getElem?_cons_zero, Option.some.injEq, exists_eq_left', exists_eq_left, V.int.injEq, V.bl.injEq, V.ref.injEq, V.str.injEq, List.cons.injEq, and_true, true_and, exists_and_left, exists_and_right, reduceCtorEq, false_and, exists_false, or_false, false_or, List.set_cons_zero, List.set_cons_succ, tSl, rSlL, tNoPart, tPart, tOr, tAnd, tNot, rIxL, rIxT, gTup, gCons, gNil, gSub, rSetL, tLst, tTup, iList, iRng1, tPar, exists_const, Int.reduceEq, Int.reduceNe, Nat.reduceAdd, exists_eq_right, exists_eq, exists_eq', if_true, if_false, ite_true, ite_false, Bool.false_eq_true, ne_eq, not_false_eq_true, tB, tNotV, tIsN]
      exact .inr (by decide)
    · obtain ⟨m, c, rfl, rfl⟩ := h
      have nq : ∀ {q : Addr}, upd H' p (.lst (cutV (ns.map V.int) none (some 7))) q = none → H' q = none := fun {q} hq => (same_new hp).free hq
      have fin : ∀ x : Int, CMul m 59 ∧ CMul (own.fmod 2147480009) 20011 ∧ (3 ≤ sizeLine) ∧ ∀ (q : Addr), upd H' p (.lst (cutV (ns.map V.int) none (some 7))) q = none →
          Q (.ref q) (upd (upd H' p (.lst (cutV (ns.map V.int) none (some 7)))) q (.lst [.int x, .int ((m * 59 + own.fmod 2147480009 * 20011).fmod 2147483029), .int 0])) := fun x =>
        ⟨.inr (by decide), .inr (by decide), by show 3 ≤ sizeLine; decide, fun q hq => k q _ (nq hq) ⟨_, _, _, upd_same⟩ ((same_new hp).trans (same_new hq))⟩
      simp only [L2.start, tSeq, tAsg, tIf, tIfS, tTest, tOp, rI0, rI, tVar, tCB, tCons, tNil, tC, gName, tRet, tRetN, cxOf, List.map_cons, List.map_nil, List.length_cons, List.length_nil, List.cons_append, List.nil_append, List.replicate, List.getElem?_cons_succ, List.getElem?_cons_zero, Option.some.injEq, exists_eq_left', exists_eq_left, V.int.injEq, V.bl.injEq, V.ref.injEq, V.str.injEq, List.cons.injEq, and_true, true_and, exists_and_left, exists_and_right, reduceCtorEq, false_and, exists_false, or_false, false_or, List.set_cons_zero, List.set_cons_succ, tSl, rSlL, tNoPart, tPart, tOr, tAnd, tNot, rIxL, rIxT, gTup, gCons, gNil, gSub, rSetL, tLst, tTup, iList, iRng1, tPar, exists_const, Int.reduceEq, Int.reduceNe, Nat.reduceAdd, exists_eq_right, exists_eq, exists_eq', if_true, if_false, ite_true, ite_false, Bool.false_eq_true, ne_eq, not_false_eq_true, tB, tNotV, tIsN]
      split
      · exact fin _
      · refine ⟨⟨by decide, by decide, by decide⟩, ?_⟩
        split
        · exact fin _
        · exact fin _
end
end K1
set_option Elab.async false
set_option linter.all false
set_option maxRecDepth 100000
set_option maxHeartbeats 4000000
namespace K1
open PySem PySem.Spec PyProof.Rows L2 GX HX
section
variable {P : Program} {w : World} {K : PySem.W.Frag} {mg : Str → Option Value} {base : Heap} {f fJ fD fO fG : Addr} {fd fdJ fdD fdO fdG : FuncData}
theorem fm {x m : Int} (h : 0 < m) : 0 ≤ x.fmod m ∧ x.fmod m < m := by
  rw [Int.fmod_eq_emod_of_nonneg x (by omega)]
  exact ⟨Int.emod_nonneg _ (by omega), Int.emod_lt_of_pos _ h⟩
/-! ### _law_dip -/
theorem scDip : FnScope ["_law_jar_here", "_law_top", "_law_figure", "_law_seed"] ["_law_jar_here", "_law_top"] (defScope (top 72)) := ⟨rfl, rfl, rfl, by decide +kernel, rfl, by decide +kernel, by decide +kernel⟩
def spDip : Sp := fun vs H Q _ => ∃ (j : Addr) (t : Int), vs = [.ref j, .int t] ∧ 0 < t ∧ t ≤ 1000000 ∧ Jar H j ∧ ∀ (n : Int) (H' : Hp), 0 ≤ n → n < t → Jar H' j → SJ j H H' → Q (.int n) H'
theorem ok_dip (D : Df K mg "_law_dip" 72 f fd) (T : Txt K mg) : FnOk P w K mg base CX0 1 f fd ["_law_jar_here", "_law_top"] spDip := by
  refine D.fn.ok scDip (fun vs H Q E h => ?_) (fun cdv A outer s H vs Q E hr h => ?_)
  · obtain ⟨j, t, rfl, _⟩ := h
    rfl
  · obtain ⟨j, t, rfl, ht0, ht1, ⟨a, b, c, hJ⟩, k⟩ := h
    refine ⟨_, (pss_cons (ps_if (pt_cmpR op_gt (pe_ix ix_list (pv 0) pe_int (fun _ _ => rfl)) pe_int (nomark _)) (pss_cons (ps_asg (pe_callB call_divmod (by rfl) (T.free "divmod" (by decide +kernel)) (by decide +kernel) (pa_cons (pe_ix ix_list (pv 0) pe_int (fun _ _ => rfl)) (pa_cons (pv 1) pa_nil))) (pg_tup (by rfl) (pgs_cons (pg_sub (pv 0) pe_int set_list) (pgs_cons (pg_name (i := 2) scDip.nd rfl (.inl rfl)) pgs_nil))))
      (pss_one (ps_ret (pv 2)))) pss_nil)
      (pss_cons (ps_asg (pe_op op_add (pe_ix ix_list (pv 0) pe_int (fun _ _ => rfl)) pe_int) (pg_sub (pv 0) pe_int set_list))
      (pss_cons (ps_set (i := 3) scDip.nd rfl (.inl rfl) (pe_op op_modN (pe_callTy call_int1 (by rfl) (T.free "int" (by decide +kernel)) (by decide +kernel) (pa_cons (pe_op op_add (pe_ix ix_list (pv 0) pe_int (fun _ _ => rfl)) (pe_op op_mul pe_int (pe_ix ix_list (pv 0) pe_int (fun _ _ => rfl)))) pa_nil)) pe_int))
      (pss_cons (ps_asg (pe_op op_modN (pe_callTy call_int1 (by rfl) (T.free "int" (by decide +kernel)) (by decide +kernel) (pa_cons (pe_op op_add (pe_op op_mul (pv 3) (pe_op op_add (pe_op op_modN (pe_callTy call_int1 (by rfl) (T.free "int" (by decide +kernel)) (by decide +kernel) (pa_cons (pv 3) pa_nil)) pe_int) pe_int)) (pe_op op_mul pe_int (pe_ix ix_list (pv 0) pe_int (fun _ _ => rfl)))) pa_nil)) pe_int) (pg_sub (pv 0) pe_int set_list))
      (pss_one (ps_ret (pe_op op_modN (pe_callTy call_int1 (by rfl) (T.free "int" (by decide +kernel)) (by decide +kernel) (pa_cons (pe_op op_fdivN (pe_ix ix_list (pv 0) pe_int (fun _ _ => rfl)) pe_int) pa_nil)) (pv 1)))))))), ?_⟩
    have L : SqL K H j [.int a, .int b, .int c] := SqL.of hJ
    simp only [L2.start, tSeq, tNext, tAsg, tIf, tIfS, tTest, tOp, rI0, rI, tVar, tCB, tCons, tNil, tC, gName, tRet, tRetN, cxOf, List.map_cons, List.map_nil, List.length_cons, List.length_nil, List.cons_append, List.nil_append, List.replicate, List.getElem?_cons_succ, List.getElem?_cons_zero, Option.some.injEq, exists_eq_left', exists_eq_left, V.int.injEq, V.bl.injEq, V.ref.injEq, V.str.injEq, List.cons.injEq, and_true, true_and, exists_and_left, exists_and_right, reduceCtorEq, false_and, exists_false, or_false, false_or, List.set_cons_zero, List.set_cons_succ, tSl, rSlL, tNoPart, tPart, tOr, tAnd, tNot, rIxL, rIxT, gTup, gCons, gNil, gSub, rSetL, tLst, tTup, iList, iRng1, tPar, exists_const, Int.reduceEq, Int.reduceNe, Nat.reduceAdd, exists_eq_right, exists_eq, exists_eq', if_true, if_false, ite_true, ite_false, Bool.false_eq_true, ne_eq, not_false_eq_true, tB, tNotV, tIsN]
    refine ⟨_, L, _, rfl, ?_⟩
    refine ⟨a, rfl, ?_⟩
    by_cases ha : 0 < a
    · rw [if_pos (decide_eq_true ha)]
      refine ⟨_, L, _, rfl, a, t, ⟨rfl, rfl⟩, ⟨ht0, by omega⟩, fun p hp => ?_⟩
      have jp : j ≠ p := ne_of_none hJ hp
      refine ⟨_, SqT.of upd_same, rfl, _, _, rfl, _, (upd_ne jp).trans hJ, 0, rfl, _, _, rfl, rfl, ?_⟩
      exact k _ _ (Int.emod_nonneg _ (by omega)) (Int.emod_lt_of_pos _ ht0) ⟨_, _, _, upd_same⟩ ((SJ.of (same_new hp)).trans SJ.jar)
    · rw [if_neg (by simpa using ha)]
      obtain ⟨z, hz⟩ : ∃ z, z = (b + 30011 * (c + 1)).fmod 2147483029 := ⟨_, rfl⟩
      have hm := fm (x := z) (m := 9001) (by decide)
      have up : upd H j (.lst [.int a, .int b, .int (c + 1)]) j = some (.lst [.int a, .int b, .int (c + 1)]) := upd_same
      have L2 : SqL K (upd H j (.lst [.int a, .int b, .int (c + 1)])) j [.int a, .int b, .int (c + 1)] := SqL.of up
      refine ⟨_, L, _, rfl, c, rfl, _, hJ, 2, rfl, _, L2, .int b, rfl, _, L2, .int (c + 1), rfl, _, rfl, .inl (by decide), _, rfl, .inr ?_, ?_⟩
      · rw [← hz]
        omega
      · refine ⟨_, L2, _, rfl, _, rfl, .inl (by decide), _, up, 1, rfl, _, SqL.of upd_same, _, rfl, _, rfl, ⟨by decide, by decide⟩, by omega, ?_⟩
        have hq := fm (x := Int.fdiv (((b + 30011 * (c + 1)).fmod 2147483029 * (((b + 30011 * (c + 1)).fmod 2147483029).fmod 9001 + 40009) + 17 * (c + 1)).fmod 2147483029) 271) ht0
        exact k _ _ hq.1 hq.2 ⟨_, _, _, upd_same⟩ (SJ.jar.trans SJ.jar)
/-! ### _law_one_of -/
theorem scOne : FnScope ["_law_jar_here", "_law_some"] ["_law_jar_here", "_law_some"] (defScope (top 73)) := ⟨rfl, rfl, rfl, by decide +kernel, rfl, by decide +kernel, by decide +kernel⟩
def spOne (K : PySem.W.Frag) : Sp := fun vs H Q _ => ∃ (j : Addr) (v : V), vs = [.ref j, v] ∧ Jar H j ∧
  ((∃ (l : Addr) (xs : List V), v = .ref l ∧ l ≠ j ∧ H l = some (.lst xs) ∧ xs ≠ [] ∧ xs.length ≤ 1000 ∧ ∀ x ∈ xs, ∀ H', Jar H' j → SJ j H H' → Q x H') ∨
   (∃ z : Str, v = .str z ∧ 0 < z.length ∧ z.length ≤ 1000 ∧ ∀ c ∈ z.cps.toList, ∀ H', Jar H' j → SJ j H H' → Q (.str ⟨#[c]⟩) H'))
theorem ok_one (D : Df K mg "_law_one_of" 73 f fd) (T : Txt K mg) (DD : Df K mg "_law_dip" 72 fD fdD) : FnOk P w K mg base CX0 2 f fd ["_law_jar_here", "_law_some"] (spOne K) := by
  have GD : FnOk P w K mg base CX0 1 fD fdD ["_law_jar_here", "_law_top"] spDip := ok_dip DD T
  have bD := DD.fn.binds (ps := ["_law_jar_here", "_law_top"]) fun _ _ _ _ _ _ us hl => match us, hl with | [_, _], _ => rfl
  refine D.fn.ok scOne (fun vs H Q E h => ?_) (fun cdv A outer s H vs Q E hr h => ?_)
  · obtain ⟨j, v, rfl, _⟩ := h
    rfl
  · obtain ⟨j, v, rfl, hJ, h⟩ := h
    rcases h with ⟨l, xs, rfl, lj, hl, hn, hz, k⟩ | ⟨z, rfl, hn, hz, k⟩
    · refine ⟨_, (pss_one (ps_ret (pe_ix ix_list (pv 1) (pe_call GD hr (by rfl) DD.gl DD.fn.kp bD .nil pass0 (pa_cons (pv 0) (pa_cons (pe_callB call_len_seq (by rfl) (T.free "len" (by decide +kernel)) (by decide +kernel) (pa_cons (pv 1) pa_nil)) pa_nil))) (fun _ _ => rfl)))), ?_⟩
      simp only [L2.start, tSeq, tNext, tAsg, tIf, tIfS, tTest, tOp, rI0, rI, tVar, tCB, tCons, tNil, tC, gName, tRet, tRetN, cxOf, List.map_cons, List.map_nil, List.length_cons, List.length_nil, List.cons_append, List.nil_append, List.replicate, List.getElem?_cons_succ, List.getElem?_cons_zero, Option.some.injEq, exists_eq_left', exists_eq_left, V.int.injEq, V.bl.injEq, V.ref.injEq, V.str.injEq, List.cons.injEq, and_true, true_and, exists_and_left, exists_and_right, reduceCtorEq, false_and, exists_false, or_false, false_or, List.set_cons_zero, List.set_cons_succ, tSl, rSlL, tNoPart, tPart, tOr, tAnd, tNot, rIxL, rIxT, gTup, gCons, gNil, gSub, rSetL, tLst, tTup, iList, iRng1, tPar, exists_const, Int.reduceEq, Int.reduceNe, Nat.reduceAdd, exists_eq_right, exists_eq, exists_eq', if_true, if_false, ite_true, ite_false, Bool.false_eq_true, ne_eq, not_false_eq_true, tB, tNotV, tIsN, tCall]
      refine ⟨_, .inl (SqL.of hl), j, _, rfl, ?_, ?_, hJ, fun n H' h0 h1 hJ' hs => ?_⟩
      · have := List.length_pos_iff.mpr hn
        omega
      · omega
      · have hlt : n.toNat < xs.length := by omega
        refine ⟨_, n, rfl, SqL.of (hs _ _ lj hl), xs[n.toNat], ?_, k _ (List.getElem_mem hlt) H' hJ' hs⟩
        have := atI_nat (List.getElem?_eq_getElem hlt)
        rw [Int.toNat_of_nonneg h0] at this
        exact this
    · refine ⟨_, (pss_one (ps_ret (pe_ix ix_str (pv 1) (pe_call GD hr (by rfl) DD.gl DD.fn.kp bD .nil pass0 (pa_cons (pv 0) (pa_cons (pe_callB call_len_str (by rfl) (T.free "len" (by decide +kernel)) (by decide +kernel) (pa_cons (pv 1) pa_nil)) pa_nil))) (fun _ _ => rfl)))), ?_⟩
      simp only [L2.start, tSeq, tNext, tAsg, tIf, tIfS, tTest, tOp, rI0, rI, tVar, tCB, tCons, tNil, tC, gName, tRet, tRetN, cxOf, List.map_cons, List.map_nil, List.length_cons, List.length_nil, List.cons_append, List.nil_append, List.replicate, List.getElem?_cons_succ, List.getElem?_cons_zero, Option.some.injEq, exists_eq_left', exists_eq_left, V.int.injEq, V.bl.injEq, V.ref.injEq, V.str.injEq, List.cons.injEq, and_true, true_and, exists_and_left, exists_and_right, reduceCtorEq, false_and, exists_false, or_false, false_or, List.set_cons_zero, List.set_cons_succ, tSl, rSlL, tNoPart, tPart, tOr, tAnd, tNot, rIxL, rIxT, gTup, gCons, gNil, gSub, rSetL, tLst, tTup, iList, iRng1, tPar, exists_const, Int.reduceEq, Int.reduceNe, Nat.reduceAdd, exists_eq_right, exists_eq, exists_eq', if_true, if_false, ite_true, ite_false, Bool.false_eq_true, ne_eq, not_false_eq_true, tB, tNotV, tIsN, tCall, rIxS]
      refine ⟨Nat.le_trans hz (by decide), j, _, rfl, ?_, ?_, hJ, fun n H' h0 h1 hJ' hs => ?_⟩
      · omega
      · omega
      · have hlen : z.cps.toList.length = z.length := by simp [Str.length]
        have hlt : n.toNat < z.cps.toList.length := by omega
        refine ⟨n, rfl, Nat.le_trans hz (by decide), z.cps.toList[n.toNat], ?_, k _ (List.getElem_mem hlt) H' hJ' hs⟩
        have := atI_nat (List.getElem?_eq_getElem hlt)
        rw [Int.toNat_of_nonneg h0] at this
        exact this
/-! ### _law_great -/
theorem scGreat : FnScope ["_law_jar_here", "_law_many", "_law_found", "_law_turn"] ["_law_jar_here", "_law_many"] (defScope (top 74)) := ⟨rfl, rfl, rfl, by decide +kernel, rfl, by decide +kernel, by decide +kernel⟩
def spGreat : Sp := fun vs H Q _ => ∃ (j : Addr) (m : Nat), vs = [.ref j, .int m] ∧ m ≤ 5 ∧ Jar H j ∧ ∀ (n : Int) (H' : Hp), 0 ≤ n → n < (1000000 : Int) ^ m → Jar H' j → SJ j H H' → Q (.int n) H'
theorem ok_great (D : Df K mg "_law_great" 74 f fd) (T : Txt K mg) (DD : Df K mg "_law_dip" 72 fD fdD) : FnOk P w K mg base CX0 2 f fd ["_law_jar_here", "_law_many"] spGreat := by
  have GD : FnOk P w K mg base CX0 1 fD fdD ["_law_jar_here", "_law_top"] spDip := ok_dip DD T
  have bD := DD.fn.binds (ps := ["_law_jar_here", "_law_top"]) fun _ _ _ _ _ _ us hl => match us, hl with | [_, _], _ => rfl
  refine D.fn.ok scGreat (fun vs H Q E h => ?_) (fun cdv A outer s H vs Q E hr h => ?_)
  · obtain ⟨j, m, rfl, _⟩ := h
    rfl
  · obtain ⟨j, m, rfl, hm, hJ, k⟩ := h
    refine ⟨_, (pss_cons (ps_set (i := 2) scGreat.nd rfl (.inl rfl) pe_int)
      (pss_cons (ps_for PassesOwn.never rfl (pi_range1 rfl (T.free "range" (by decide +kernel)) (pa_cons (pv 1) pa_nil)) (pg_name (i := 3) scGreat.nd rfl (.inl rfl)) (pss_one (ps_set (i := 2) scGreat.nd rfl (.inl rfl) (pe_op op_add (pe_op op_mul (pv 2) (pe_op op_pow pe_int pe_int)) (pe_call GD hr (by rfl) DD.gl DD.fn.kp bD .nil pass0 (pa_cons (pv 0) (pa_cons (pe_op op_pow pe_int pe_int) pa_nil)))))))
      (pss_one (ps_ret (pv 2))))), ?_⟩
    refine ⟨_, rfl, (m : Int), rfl, by omega, by omega, ?_⟩
    refine for_range (lo := 0) (n := (m : Int).toNat) (fun i σ H1 => ∃ (n : Int) (c : Option V), σ = [some (.ref j), some (.int m), some (.int n), c] ∧ 0 ≤ n ∧ n < (1000000 : Int) ^ i ∧ Jar H1 j ∧ SJ j H H1) ⟨0, _, rfl, by decide, by decide, hJ, SJ.refl _ _⟩
      (fun i σ H1 hi h => ?_) (fun σ H1 h => ?_)
    · obtain ⟨n, c, rfl, n0, n1, hJ1, hs1⟩ := h
      simp only [L2.start, tSeq, tNext, tAsg, tIf, tIfS, tTest, tOp, rI0, rI, tVar, tCB, tCons, tNil, tC, gName, tRet, tRetN, cxOf, List.map_cons, List.map_nil, List.length_cons, List.length_nil, List.cons_append, List.nil_append, List.replicate, List.getElem?_cons_succ, List.getElem?_cons_zero, Option.some.injEq, exists_eq_left', exists_eq_left, V.int.injEq, V.bl.injEq, V.ref.injEq, V.str.injEq, List.cons.injEq, and_true, true_and, exists_and_left, exists_and_right, reduceCtorEq, false_and, exists_false, or_false, false_or, List.set_cons_zero, List.set_cons_succ, tSl, rSlL, tNoPart, tPart, tOr, tAnd, tNot, rIxL, rIxT, gTup, gCons, gNil, gSub, rSetL, tLst, tTup, iList, iRng1, tPar, exists_const, Int.reduceEq, Int.reduceNe, Nat.reduceAdd, exists_eq_right, exists_eq, exists_eq', if_true, if_false, ite_true, ite_false, Bool.false_eq_true, ne_eq, not_false_eq_true, tB, tNotV, tIsN, tCall]
      have e6 : (10 : Int) ^ Int.toNat 6 = 1000000 := by decide
      rw [e6]
      refine ⟨⟨by decide, by decide, by decide⟩, .inr (by decide), ⟨by decide, by decide, by decide⟩, j, _, rfl, by decide, by decide, hJ1, fun d H2 d0 d1 hJ2 hs2 => ⟨d, rfl, ?_, ?_, hJ2, hs1.trans hs2⟩⟩
      · omega
      · rw [Int.pow_succ]
        omega
    · obtain ⟨n, c, rfl, n0, n1, hJ1, hs1⟩ := h
      exact ⟨_, rfl, k n H1 n0 (by rw [Int.toNat_natCast] at n1; exact n1) hJ1 hs1⟩
end
end K1
set_option Elab.async false
set_option linter.all false
set_option maxRecDepth 100000
set_option maxHeartbeats 4000000
namespace GX
open PySem PySem.Spec PyProof.Rows L2 PyData

/-! ### the points of texts -/
def Pts (z : Str) : Prop := ∀ c ∈ z.cps.toList, c < 0x110000
theorem strOk_of {z : Str} (h : Pts z) : PyData.strOk z = true := by
  unfold PyData.strOk
  rw [← Array.all_toList]
  exact List.all_eq_true.mpr fun c hc => decide_eq_true (h c hc)
theorem pts_app {a b : Str} (ha : Pts a) (hb : Pts b) : Pts (a ++ b) := fun c hc => by
  rw [Str.cps_append, Array.toList_append] at hc
  rcases List.mem_append.mp hc with h | h
  · exact ha c h
  · exact hb c h
theorem char_lt (c : Char) : c.toNat < 0x110000 := by
  have h := c.valid
  rcases h with h | h
  · have : c.toNat < 0xd800 := h
    omega
  · exact h.2
theorem pts_of (s : String) : Pts (Str.ofString s) := fun c hc => by
  have hc2 : c ∈ (cpsOfBytes 0 0 s.toByteArray.data.toList) := by simpa [Str.ofString] using hc
  rw [cpsOfBytes_string] at hc2
  obtain ⟨d, _, rfl⟩ := List.mem_map.mp hc2
  exact char_lt d
theorem pts_char {q c : Nat} (hq : q < 0x110000) (hc : c < 0x110000) : ∀ p ∈ Builtin.Str.reprChar q c, p < 0x110000 := by
  intro p hp
  have hex : ∀ w : Nat, ∀ p ∈ (List.replicate (w - ((Nat.toDigits 16 c).map Char.toNat).length) 48 ++ (Nat.toDigits 16 c).map Char.toNat), p < 0x110000 := by
    intro w p hp
    rcases List.mem_append.mp hp with h | h
    · rw [List.eq_of_mem_replicate h]
      decide
    · obtain ⟨d, _, rfl⟩ := List.mem_map.mp h
      exact char_lt d
  unfold Builtin.Str.reprChar at hp
  dsimp only at hp
  repeat' split at hp
  all_goals first
    | (have hp' := hex _ p (by simpa using hp); exact hp')
    | (rcases List.mem_append.mp hp with h | h
       · simp only [List.mem_cons, List.not_mem_nil, or_false] at h
         omega
       · exact hex _ p h)
    | (simp only [List.mem_cons, List.not_mem_nil, or_false] at hp
       omega)
theorem pts_fold {q : Nat} (hq : q < 0x110000) : ∀ (l : List Nat) (acc : Array Nat), (∀ c ∈ l, c < 0x110000) → (∀ c ∈ acc.toList, c < 0x110000) → ∀ c ∈ (l.foldl (fun out c => out ++ (Builtin.Str.reprChar q c).toArray) acc).toList, c < 0x110000
  | [], acc, _, ha => ha
  | d :: r, acc, hl, ha => by
    refine pts_fold hq r _ (fun c hc => hl c (List.mem_cons_of_mem _ hc)) (fun c hc => ?_)
    rw [Array.toList_append] at hc
    rcases List.mem_append.mp hc with h | h
    · exact ha c h
    · exact pts_char hq (hl d (List.mem_cons_self ..)) c h
theorem pts_repr {z : Str} (h : Pts z) : Pts (reprText z) := by
  have hq : reprQuote z < 0x110000 := by
    unfold reprQuote
    split <;> decide
  intro c hc
  unfold reprText at hc
  rw [Array.toList_push] at hc
  rcases List.mem_append.mp hc with hc | hc
  · rw [← Array.foldl_toList] at hc
    exact pts_fold hq _ _ h (fun c hc => by
      have : c = reprQuote z := by simpa using hc
      rw [this]
      exact hq) c hc
  · have : c = reprQuote z := by simpa using hc
    rw [this]
    exact hq
theorem pts_joinS {sep : Str} (hs : Pts sep) : ∀ ts : List Str, (∀ t ∈ ts, Pts t) → Pts (Str.join sep ts)
  | [], _ => by
    show Pts Str.empty
    intro c hc
    exact absurd hc (by simp [Str.empty])
  | [x], h => h x (List.mem_cons_self ..)
  | x :: y :: r, h => by
    show Pts (x ++ sep ++ Str.join sep (y :: r))
    exact pts_app (pts_app (h x (List.mem_cons_self ..)) hs) (pts_joinS hs (y :: r) fun t ht => h t (List.mem_cons_of_mem _ ht))
theorem pts_join (ts : List Str) (h : ∀ t ∈ ts, Pts t) : Pts (Str.join ", " ts) := pts_joinS (pts_of _) ts h
theorem pts_list {ts : List Str} (h : ∀ t ∈ ts, Pts t) : Pts (listText ts) := by
  rw [listText_eq_join]
  exact pts_app (pts_app (pts_of _) (pts_join ts h)) (pts_of _)
theorem pts_tuple {ts : List Str} (h : ∀ t ∈ ts, Pts t) : Pts (tupleText ts) := by
  unfold tupleText
  refine pts_app (pts_app (pts_of _) (pts_join ts h)) ?_
  split <;> exact pts_of _

/-! ### good data -/
/-- data of at most m nested rows, their text of at most n signs -/
structure Gd (m n : Nat) (d : PyData) : Prop where
  sh : d.showable = true
  nd : d.hasDict = false
  ln : d.shown.length ≤ n
  dp : d.depth ≤ m
  pt : Pts d.shown
theorem Gd.mono {m n m' n' : Nat} {d : PyData} (g : Gd m n d) (hm : m ≤ m') (hn : n ≤ n') : Gd m' n' d := ⟨g.sh, g.nd, Nat.le_trans g.ln hn, Nat.le_trans g.dp hm, g.pt⟩
theorem Gd.shw {m n : Nat} {d : PyData} (g : Gd m n d) (hm : m ≤ 30) (hn : n ≤ 1000000) : Shw d :=
  ⟨g.sh, g.nd, Nat.le_trans g.ln (Nat.le_trans hn (by decide)), Nat.le_trans g.dp hm⟩
structure GdAll (m n : Nat) (ds : List PyData) : Prop where
  sh : PyData.showableAll ds = true
  nd : PyData.hasDictAll ds = false
  ln : ((PyData.shownAll ds).map (·.length)).sum ≤ n * ds.length
  le : (PyData.shownAll ds).length = ds.length
  dp : PyData.depthAll ds ≤ m
  pt : ∀ t ∈ PyData.shownAll ds, Pts t
theorem gdAll {m n : Nat} : ∀ ds : List PyData, (∀ d ∈ ds, Gd m n d) → GdAll m n ds
  | [], _ => ⟨rfl, rfl, Nat.le_refl _, rfl, Nat.zero_le _, fun t ht => nomatch ht⟩
  | d :: ds, h => by
    have g := h d (List.mem_cons_self ..)
    have r := gdAll ds fun e he => h e (List.mem_cons_of_mem _ he)
    refine ⟨?_, ?_, ?_, ?_, ?_, fun t ht => ?_⟩
    · show (d.showable && PyData.showableAll ds) = true
      rw [g.sh, r.sh]
      rfl
    · show (d.hasDict || PyData.hasDictAll ds) = false
      rw [g.nd, r.nd]
      rfl
    · show d.shown.length + ((PyData.shownAll ds).map (·.length)).sum ≤ n * (ds.length + 1)
      have := g.ln
      have := r.ln
      rw [Nat.mul_add]
      omega
    · show (PyData.shownAll ds).length + 1 = ds.length + 1
      rw [r.le]
    · show max d.depth (PyData.depthAll ds) ≤ m
      exact Nat.max_le.mpr ⟨g.dp, r.dp⟩
    · rcases List.mem_cons.mp (show t ∈ d.shown :: PyData.shownAll ds from ht) with e | e
      · rw [e]
        exact g.pt
      · exact r.pt t e
theorem gd_list {m n k : Nat} {ds : List PyData} (h : ∀ d ∈ ds, Gd m n d) (hk : ds.length ≤ k) : Gd (m + 1) (n * k + 2 * k + 3) (.list ds) := by
  have r := gdAll ds h
  have l := listText_len_le (PyData.shownAll ds)
  refine ⟨r.sh, r.nd, ?_, Nat.add_le_add_right r.dp 1, pts_list r.pt⟩
  show (listText (PyData.shownAll ds)).length ≤ _
  have e1 := r.ln
  have e2 : n * ds.length ≤ n * k := Nat.mul_le_mul_left n hk
  rw [r.le] at l
  omega
theorem gd_tup {m n k : Nat} {ds : List PyData} (h : ∀ d ∈ ds, Gd m n d) (hk : ds.length ≤ k) : Gd (m + 1) (n * k + 2 * k + 3) (.tuple ds) := by
  have r := gdAll ds h
  have l := tupleText_len_le (PyData.shownAll ds)
  refine ⟨r.sh, r.nd, ?_, Nat.add_le_add_right r.dp 1, pts_tuple r.pt⟩
  show (tupleText (PyData.shownAll ds)).length ≤ _
  have e1 := r.ln
  have e2 : n * ds.length ≤ n * k := Nat.mul_le_mul_left n hk
  rw [r.le] at l
  omega
theorem gd_int {i : Int} (h : i.natAbs < 10 ^ 60) : Gd 0 62 (.int i) := by
  refine ⟨decide_eq_true ?_, rfl, ?_, Nat.le_refl _, pts_of _⟩
  · refine Nat.lt_of_le_of_lt (m := 200) ?_ (by decide)
    by_cases h0 : i.natAbs = 0
    · rw [h0]
      decide
    · refine Nat.le_of_lt ((Nat.log2_lt h0).mpr (Nat.lt_of_lt_of_le h (by decide)))
  · show (Str.ofString (toString i)).length ≤ 62
    have e : (Str.ofString (toString i)).length = (toString i).length := by
      have q : (Str.ofString (toString i)).cps.toList = (toString i).toList.map Char.toNat := by
        show (cpsOfBytes 0 0 (toString i).toByteArray.data.toList).toArray.toList = _
        rw [cpsOfBytes_string]
      have q2 := congrArg List.length q
      have q3 : (toString i).toList.length = (toString i).length := String.length_toList
      rw [List.length_map, q3] at q2
      rw [← q2]
      simp [Str.length]
    rw [e]
    exact Nat.le_trans (int_text_length_le10 (by decide) h) (by decide)
theorem gd_none : Gd 0 62 .none := ⟨rfl, rfl, by decide, Nat.le_refl _, pts_of _⟩
theorem gd_bool (b : Bool) : Gd 0 62 (.bool b) := ⟨rfl, rfl, by cases b <;> decide, Nat.le_refl _, by cases b <;> exact pts_of _⟩
theorem gd_str {z : Str} (hz : Pts z) (hl : z.length ≤ 20) : Gd 0 202 (.str z) := by
  refine ⟨rfl, rfl, ?_, Nat.le_refl _, pts_repr hz⟩
  show (reprText z).length ≤ 202
  have := StrLaws.reprText_len z (fun c hc => Nat.lt_trans (hz c hc) (by decide))
  omega

/-- the data of the menu of small things -/
def menu : List PyData := [.int 0, .int 1, .int (-1), .bool true, .none, .str "a", .tuple [], .tuple [.int 1, .int 2], .list [], .list [.int 0]]
theorem gd_menu : ∀ d ∈ menu, Gd 1 202 d := by
  intro d hd
  have i0 : ∀ i : Int, i.natAbs < 10 ^ 60 → Gd 1 202 (.int i) := fun i h => (gd_int h).mono (by decide) (by decide)
  have sm : ∀ i : Int, i.natAbs < 10 ^ 60 → Gd 0 62 (.int i) := fun i h => gd_int h
  simp only [menu, List.mem_cons, List.not_mem_nil, or_false] at hd
  rcases hd with rfl | rfl | rfl | rfl | rfl | rfl | rfl | rfl | rfl | rfl
  · exact i0 0 (by decide)
  · exact i0 1 (by decide)
  · exact i0 (-1) (by decide)
  · exact (gd_bool true).mono (by decide) (by decide)
  · exact gd_none.mono (by decide) (by decide)
  · exact (gd_str (pts_of _) (by decide)).mono (by decide) (by decide)
  · exact (gd_tup (m := 0) (n := 62) (k := 2) (ds := []) (fun d h => nomatch h) (by decide)).mono (by decide) (by decide)
  · refine (gd_tup (m := 0) (n := 62) (k := 2) (ds := [.int 1, .int 2]) (fun d h => ?_) (by decide)).mono (by decide) (by decide)
    simp only [List.mem_cons, List.not_mem_nil, or_false] at h
    rcases h with rfl | rfl
    · exact sm 1 (by decide)
    · exact sm 2 (by decide)
  · exact (gd_list (m := 0) (n := 62) (k := 2) (ds := []) (fun d h => nomatch h) (by decide)).mono (by decide) (by decide)
  · refine (gd_list (m := 0) (n := 62) (k := 2) (ds := [.int 0]) (fun d h => ?_) (by decide)).mono (by decide) (by decide)
    simp only [List.mem_cons, List.not_mem_nil, or_false] at h
    rw [h]
    exact sm 0 (by decide)

/-! ### data that stays -/
mutual
theorem dp_same {K : PySem.W.Frag} {H H' : Hp} (e : Same H H') : ∀ (d : PyData) (v : V), Dp K H v d → Dp K H' v d
  | .none, _, h => by cases h; exact .non
  | .bool b, _, h => by cases h; exact .bl b
  | .int i, _, h => by cases h; exact .int i
  | .str x, _, h => by cases h; exact .str x
  | .list ds, _, h => by
    cases h with
    | lst hs ha => exact .lst (e.seq hs) (dpAll_same e ds _ ha)
  | .tuple ds, _, h => by
    cases h with
    | tup hs ha =>
      refine .tup ?_ (dpAll_same e ds _ ha)
      rcases hs with (h | ⟨o, h⟩) | h
      · exact .inl (.inl (e _ _ h))
      · exact .inl (.inr ⟨o, e _ _ h⟩)
      · exact .inr h
  | .dict _, _, h => by cases h
theorem dpAll_same {K : PySem.W.Frag} {H H' : Hp} (e : Same H H') : ∀ (ds : List PyData) (vs : List V), DpAll K H vs ds → DpAll K H' vs ds
  | [], _, h => by cases h; exact .nil
  | d :: ds, _, h => by
    cases h with
    | cons h1 h2 => exact .cons (dp_same e d _ h1) (dpAll_same e ds _ h2)
end
end GX
set_option Elab.async false
set_option linter.all false
set_option maxRecDepth 100000
set_option maxHeartbeats 4000000
namespace K1
open PySem PySem.Spec PyProof.Rows L2 GX HX
section
variable {P : Program} {w : World} {K : PySem.W.Frag} {mg : Str → Option Value} {base : Heap} {f fJ fD fO fG : Addr} {fd fdJ fdD fdO fdG : FuncData}
theorem dpAll_snoc {K : PySem.W.Frag} {H : Hp} {x : V} {d : PyData} (h : Dp K H x d) : ∀ {xs : List V} {ds : List PyData}, DpAll K H xs ds → DpAll K H (xs ++ [x]) (ds ++ [d])
  | _, _, .nil => .cons h .nil
  | _, _, .cons h1 h2 => .cons h1 (dpAll_snoc h h2)
/-! ### _law_sort -/
theorem scSort : FnScope ["_law_jar_here", "_law_way", "_law_size", "_law_inside", "_law_turn"] ["_law_jar_here"] (defScope (top 75)) := ⟨rfl, rfl, rfl, by decide +kernel, rfl, by decide +kernel, by decide +kernel⟩
def spSort (K : PySem.W.Frag) : Sp := fun vs H Q _ => ∃ j : Addr, vs = [.ref j] ∧ Jar H j ∧ ∀ (v : V) (d : PyData) (H' : Hp), Dp K (del H' j) v d → Gd 2 900 d → Jar H' j → SJ j H H' → Q v H'
theorem ok_sort (D : Df K mg "_law_sort" 75 f fd) (T : Txt K mg) (DD : Df K mg "_law_dip" 72 fD fdD) (DO : Df K mg "_law_one_of" 73 fO fdO) (DG : Df K mg "_law_great" 74 fG fdG) : FnOk P w K mg base CX0 3 f fd ["_law_jar_here"] (spSort K) := by
  have GD : FnOk P w K mg base CX0 1 fD fdD ["_law_jar_here", "_law_top"] spDip := ok_dip DD T
  have bD := DD.fn.binds (ps := ["_law_jar_here", "_law_top"]) fun _ _ _ _ _ _ us hl => match us, hl with | [_, _], _ => rfl
  have GO : FnOk P w K mg base CX0 2 fO fdO ["_law_jar_here", "_law_some"] (spOne K) := ok_one DO T DD
  have bO := DO.fn.binds (ps := ["_law_jar_here", "_law_some"]) fun _ _ _ _ _ _ us hl => match us, hl with | [_, _], _ => rfl
  have GG : FnOk P w K mg base CX0 2 fG fdG ["_law_jar_here", "_law_many"] spGreat := ok_great DG T DD
  have bG := DG.fn.binds (ps := ["_law_jar_here", "_law_many"]) fun _ _ _ _ _ _ us hl => match us, hl with | [_, _], _ => rfl
  refine D.fn.ok scSort (fun vs H Q E h => ?_) (fun cdv A outer s H vs Q E hr h => ?_)
  · obtain ⟨j, rfl, _⟩ := h
    rfl
  · obtain ⟨j, rfl, hJ, k⟩ := h
    have hr1 := hr.mono (show 1 ≤ 2 by decide)
    refine ⟨_, (pss_cut (ps_par (i := 1) (j := 2) (by rfl) scSort.nd rfl rfl (by decide) rfl rfl (pa_cons (pe_call GD hr1 (by rfl) DD.gl DD.fn.kp bD .nil pass0 (pa_cons (pv 0) (pa_cons pe_int pa_nil))) (pa_cons (pe_call GD hr1 (by rfl) DD.gl DD.fn.kp bD .nil pass0 (pa_cons (pv 0) (pa_cons pe_int pa_nil))) pa_nil)) (by rfl))
      (pss_cut (ps_if (pt_cmpR op_lt (pv 1) pe_int (nomark _)) (pss_one (ps_ret (pe_op op_sub (pe_call GD hr1 (by rfl) DD.gl DD.fn.kp bD .nil pass0 (pa_cons (pv 0) (pa_cons pe_int pa_nil))) pe_int))) pss_nil)
      (pss_cut (ps_if (pt_cmpR op_eq (pv 1) pe_int (nomark _)) (pss_one (ps_ret (pe_op op_mul (pe_call GG hr (by rfl) DG.gl DG.fn.kp bG .nil pass0 (pa_cons (pv 0) (pa_cons pe_int pa_nil))) (pe_op op_sub (pe_op op_mul pe_int (pe_call GD hr1 (by rfl) DD.gl DD.fn.kp bD .nil pass0 (pa_cons (pv 0) (pa_cons pe_int pa_nil)))) pe_int)))) pss_nil)
      (pss_cut (ps_if (pt_cmpR op_eq (pv 1) pe_int (nomark _)) (pss_one (ps_ret (pe_call GO hr (by rfl) DO.gl DO.fn.kp bO .nil pass0 (pa_cons (pv 0) (pa_cons (pe_lst (pa_cons pe_bl (pa_cons pe_bl (pa_cons pe_non pa_nil)))) pa_nil))))) pss_nil)
      (pss_cut (ps_if (pt_cmpR op_eq (pv 1) pe_int (nomark _)) (pss_one (ps_ret (pe_join pe_str (pe_lc (own := [("_law_turn", 4)]) (g := gName 4) (tt := tYes) rfl scSort.nd (pi_range1 rfl (T.free "range" (by decide +kernel)) (pa_cons (pv 2) pa_nil)) (blkOk_by (N := ["_law_jar_here", "_law_way", "_law_size", "_law_inside", "_law_turn"]) (sc := defScope (top 75)) (by decide +kernel)) (fun _ _ _ _ _ => pg_name (i := 4) scSort.nd rfl (.inl rfl)) (fun _ _ _ _ _ => pts_nil) (fun _ _ _ _ _ => (pe_call GO hr (by rfl) DO.gl DO.fn.kp bO .nil pass0 (pa_cons (pv 0) (pa_cons pe_str pa_nil)))))))) pss_nil)
      (pss_cut (ps_if (pt_cmpR op_eq (pv 1) pe_int (nomark _)) (pss_one (ps_ret (pe_call GO hr (by rfl) DO.gl DO.fn.kp bO .nil pass0 (pa_cons (pv 0) (pa_cons (pe_lst (pa_cons pe_str (pa_cons pe_str (pa_cons pe_str (pa_cons pe_str (pa_cons pe_str (pa_cons pe_str (pa_cons pe_str pa_nil)))))))) pa_nil))))) pss_nil)
      (pss_cut (ps_setLc (i := 3) (own := [("_law_turn", 4)]) (g := gName 4) (tt := tYes) rfl scSort.nd rfl rfl (sw_true rfl rfl rfl (by decide +kernel)) (pi_range1 rfl (T.free "range" (by decide +kernel)) (pa_cons (pv 2) pa_nil)) (blkOk_by (N := ["_law_jar_here", "_law_way", "_law_size", "_law_inside", "_law_turn"]) (sc := defScope (top 75)) (by decide +kernel)) (fun _ _ _ _ _ => pg_name (i := 4) scSort.nd rfl (.inl rfl)) (fun _ _ _ _ _ => pts_nil) (fun _ _ _ _ _ => (pe_call GO hr (by rfl) DO.gl DO.fn.kp bO .nil pass0 (pa_cons (pv 0) (pa_cons (pe_lst (pa_cons pe_int (pa_cons pe_int (pa_cons (pe_un un_neg pe_int) (pa_cons pe_bl (pa_cons pe_non (pa_cons pe_str (pa_cons (pe_tup pa_nil) (pa_cons (pe_tup (pa_cons pe_int (pa_cons pe_int pa_nil))) (pa_cons (pe_lst pa_nil) (pa_cons (pe_lst (pa_cons pe_int pa_nil)) pa_nil))))))))))) pa_nil)))))
      (pss_one (ps_ret (pe_ifExp (pt_cmpR op_eq (pv 1) pe_int (nomark _)) (pv 3) (pe_callTy call_tuple_of (by rfl) (T.free "tuple" (by decide +kernel)) (by decide +kernel) (pa_cons (pv 3) pa_nil)))))))))))), ?_⟩
    have ret : ∀ (v : V) (d : PyData) (H1 H' : Hp), SJ j H H1 → Dp K (del H' j) v d → Gd 2 900 d → Jar H' j → SJ j H1 H' → Q v H' := fun v d H1 H' h1 hd hg hj hs => k v d H' hd hg hj (h1.trans hs)
    let M : L2.St → Hp → Prop := fun σ' H' => ∃ (wy sz : Int), σ' = [some (.ref j), some (.int wy), some (.int sz), none, none] ∧ 0 ≤ wy ∧ wy < 9 ∧ 0 ≤ sz ∧ sz < 5 ∧ Jar H' j ∧ SJ j H H'
    refine ⟨M, ?_, ?_⟩
    · simp only [L2.start, tSeq, tNext, tAsg, tIf, tIfS, tTest, tOp, rI0, rI, tVar, tCB, tCons, tNil, tC, gName, tRet, tRetN, cxOf, List.map_cons, List.map_nil, List.length_cons, List.length_nil, List.cons_append, List.nil_append, List.replicate, List.getElem?_cons_succ, List.getElem?_cons_zero, Option.some.injEq, exists_eq_left', exists_eq_left, V.int.injEq, V.bl.injEq, V.ref.injEq, V.str.injEq, List.cons.injEq, and_true, true_and, exists_and_left, exists_and_right, reduceCtorEq, false_and, exists_false, or_false, false_or, List.set_cons_zero, List.set_cons_succ, tSl, rSlL, tNoPart, tPart, tOr, tAnd, tNot, rIxL, rIxT, gTup, gCons, gNil, gSub, rSetL, tLst, tTup, iList, iRng1, tPar, exists_const, Int.reduceEq, Int.reduceNe, Nat.reduceAdd, exists_eq_right, exists_eq, exists_eq', if_true, if_false, ite_true, ite_false, Bool.false_eq_true, ne_eq, not_false_eq_true, tB, tNotV, tIsN, tCall]
      exact ⟨j, _, rfl, by decide, by decide, hJ, fun n H1 n0 n1 hJ1 hs1 => ⟨j, _, rfl, by decide, by decide, hJ1, fun m H2 m0 m1 hJ2 hs2 => ⟨_, _, ⟨rfl, rfl⟩, n, m, rfl, n0, n1, m0, m1, hJ2, hs1.trans hs2⟩⟩⟩
    rintro σ' H' ⟨wy, sz, rfl, w0, w1, z0, z1, hJ1, hs1⟩
    refine ⟨M, ?_, ?_⟩
    · simp only [L2.start, tSeq, tNext, tAsg, tIf, tIfS, tTest, tOp, rI0, rI, tVar, tCB, tCons, tNil, tC, gName, tRet, tRetN, cxOf, List.map_cons, List.map_nil, List.length_cons, List.length_nil, List.cons_append, List.nil_append, List.replicate, List.getElem?_cons_succ, List.getElem?_cons_zero, Option.some.injEq, exists_eq_left', exists_eq_left, V.int.injEq, V.bl.injEq, V.ref.injEq, V.str.injEq, List.cons.injEq, and_true, true_and, exists_and_left, exists_and_right, reduceCtorEq, false_and, exists_false, or_false, false_or, List.set_cons_zero, List.set_cons_succ, tSl, rSlL, tNoPart, tPart, tOr, tAnd, tNot, rIxL, rIxT, gTup, gCons, gNil, gSub, rSetL, tLst, tTup, iList, iRng1, tPar, exists_const, Int.reduceEq, Int.reduceNe, Nat.reduceAdd, exists_eq_right, exists_eq, exists_eq', if_true, if_false, ite_true, ite_false, Bool.false_eq_true, ne_eq, not_false_eq_true, tB, tNotV, tIsN, tCall]
      refine ite2 (fun _ => ?_) (fun _ => ⟨wy, sz, rfl, w0, w1, z0, z1, hJ1, hs1⟩)
      exact ⟨j, _, rfl, by decide, by decide, hJ1, fun n H2 n0 n1 hJ2 hs2 => ⟨n, rfl, ret _ (.int (n - 3)) _ _ hs1 (.int _) ((gd_int (by omega)).mono (by decide) (by decide)) hJ2 hs2⟩⟩
    clear hJ1 hs1 w0 w1 z0 z1
    rintro σ' H' ⟨wy, sz, rfl, w0, w1, z0, z1, hJ1, hs1⟩
    refine ⟨M, ?_, ?_⟩
    · simp only [L2.start, tSeq, tNext, tAsg, tIf, tIfS, tTest, tOp, rI0, rI, tVar, tCB, tCons, tNil, tC, gName, tRet, tRetN, cxOf, List.map_cons, List.map_nil, List.length_cons, List.length_nil, List.cons_append, List.nil_append, List.replicate, List.getElem?_cons_succ, List.getElem?_cons_zero, Option.some.injEq, exists_eq_left', exists_eq_left, V.int.injEq, V.bl.injEq, V.ref.injEq, V.str.injEq, List.cons.injEq, and_true, true_and, exists_and_left, exists_and_right, reduceCtorEq, false_and, exists_false, or_false, false_or, List.set_cons_zero, List.set_cons_succ, tSl, rSlL, tNoPart, tPart, tOr, tAnd, tNot, rIxL, rIxT, gTup, gCons, gNil, gSub, rSetL, tLst, tTup, iList, iRng1, tPar, exists_const, Int.reduceEq, Int.reduceNe, Nat.reduceAdd, exists_eq_right, exists_eq, exists_eq', if_true, if_false, ite_true, ite_false, Bool.false_eq_true, ne_eq, not_false_eq_true, tB, tNotV, tIsN, tCall, rEq]
      refine ⟨rfl, ite2 (fun _ => ?_) (fun _ => ⟨wy, sz, rfl, w0, w1, z0, z1, hJ1, hs1⟩)⟩
      refine ⟨j, 5, rfl, by decide, hJ1, fun n H2 n0 n1 hJ2 hs2 => ⟨j, _, rfl, by decide, by decide, hJ2, fun m H3 m0 m1 hJ3 hs3 => ⟨m, rfl, .inl (by decide), n, rfl, .inr (by omega), ?_⟩⟩⟩
      refine ret _ (.int (n * (2 * m - 1))) _ _ hs1 (.int _) ((gd_int ?_).mono (by decide) (by decide)) hJ3 (hs2.trans hs3)
      have h5 : (1000000 : Int) ^ 5 = 1000000000000000000000000000000 := by decide
      rw [h5] at n1
      have hm : m = 0 ∨ m = 1 := by omega
      rcases hm with rfl | rfl
      · have e : n * (2 * 0 - 1) = -n := by omega
        rw [e]
        omega
      · have e : n * (2 * 1 - 1) = n := by omega
        rw [e]
        omega
    clear hJ1 hs1 w0 w1 z0 z1
    rintro σ' H' ⟨wy, sz, rfl, w0, w1, z0, z1, hJ1, hs1⟩
    refine ⟨M, ?_, ?_⟩
    · simp only [L2.start, tSeq, tNext, tAsg, tIf, tIfS, tTest, tOp, rI0, rI, tVar, tCB, tCons, tNil, tC, gName, tRet, tRetN, cxOf, List.map_cons, List.map_nil, List.length_cons, List.length_nil, List.cons_append, List.nil_append, List.replicate, List.getElem?_cons_succ, List.getElem?_cons_zero, Option.some.injEq, exists_eq_left', exists_eq_left, V.int.injEq, V.bl.injEq, V.ref.injEq, V.str.injEq, List.cons.injEq, and_true, true_and, exists_and_left, exists_and_right, reduceCtorEq, false_and, exists_false, or_false, false_or, List.set_cons_zero, List.set_cons_succ, tSl, rSlL, tNoPart, tPart, tOr, tAnd, tNot, rIxL, rIxT, gTup, gCons, gNil, gSub, rSetL, tLst, tTup, iList, iRng1, tPar, exists_const, Int.reduceEq, Int.reduceNe, Nat.reduceAdd, exists_eq_right, exists_eq, exists_eq', if_true, if_false, ite_true, ite_false, Bool.false_eq_true, ne_eq, not_false_eq_true, tB, tNotV, tIsN, tCall, rEq]
      refine ⟨rfl, ite2 (fun _ => ?_) (fun _ => ⟨wy, sz, rfl, w0, w1, z0, z1, hJ1, hs1⟩)⟩
      refine ⟨by decide, fun p hp => ?_⟩
      obtain ⟨a, b, c, hj⟩ := id hJ1
      have pj : p ≠ j := (ne_of_none hj hp).symm
      refine ⟨j, _, rfl, ⟨a, b, c, by rw [upd_ne pj.symm]; exact hj⟩, .inl ⟨p, _, rfl, pj, upd_same, by simp, by decide, fun x hx H2 hJ2 hs2 => ?_⟩⟩
      have hs3 : SJ j H' H2 := (SJ.of (same_new hp)).trans hs2
      simp only [List.mem_cons, List.not_mem_nil, or_false] at hx
      rcases hx with rfl | rfl | rfl
      · exact ret _ _ _ _ hs1 (.bl true) ((gd_bool true).mono (by decide) (by decide)) hJ2 hs3
      · exact ret _ _ _ _ hs1 (.bl false) ((gd_bool false).mono (by decide) (by decide)) hJ2 hs3
      · exact ret _ _ _ _ hs1 .non (gd_none.mono (by decide) (by decide)) hJ2 hs3
    clear hJ1 hs1 w0 w1 z0 z1
    rintro σ' H' ⟨wy, sz, rfl, w0, w1, z0, z1, hJ1, hs1⟩
    refine ⟨M, ?_, ?_⟩
    · refine ⟨_, rfl, rfl, _, rfl, ite2 (fun _ => ?_) (fun _ => ⟨wy, sz, rfl, w0, w1, z0, z1, hJ1, hs1⟩)⟩
      refine ⟨⟨_, rfl⟩, _, rfl, sz, rfl, by omega, by omega, fun Dx hD => ?_⟩
      obtain ⟨a, b, c, hj⟩ := id hJ1
      have dj : Dx ≠ j := (ne_of_none hj hD).symm
      refine lc_range (lo := 0) (n := sz.toNat) (fun i H2 => ∃ ys : List Str, H2 Dx = some (.lst (ys.map V.str)) ∧ ys.length = i ∧ (∀ y ∈ ys, y.length = 1 ∧ Pts y) ∧ Jar H2 j ∧ SJ j H' H2)
        ⟨[], upd_same, rfl, (fun y hy => nomatch hy), ⟨a, b, c, by rw [upd_ne dj.symm]; exact hj⟩, SJ.of (same_new hD)⟩ (fun i H2 hi h => ?_) (fun H2 h => ?_)
      · obtain ⟨ys, e1, e2, e3, e4, e5⟩ := h
        refine ⟨rfl, ?_⟩
        unfold tYes
        dsimp only
        rw [if_pos rfl]
        refine ⟨_, rfl, j, _, rfl, e4, .inr ⟨_, rfl, by decide +kernel, by decide +kernel, fun c hc H4 hJ4 hs4 => ⟨_, hs4 _ _ dj e1, ?_, ys ++ [⟨#[c]⟩], ?_, ?_, ?_, ?_, ?_⟩⟩⟩
        · rw [List.length_map]
          exact Nat.lt_of_le_of_lt (by omega : ys.length ≤ 100) (by decide)
        · rw [upd_same, List.map_append]
          rfl
        · rw [List.length_append, e2]
          rfl
        · intro y hy
          rcases List.mem_append.mp hy with h | h
          · exact e3 y h
          · rw [List.mem_singleton.mp h]
            refine ⟨rfl, fun c' hc' => ?_⟩
            have e : c' = c := by simpa using hc'
            have all : ∀ c ∈ (Str.ofString "abcxyz 0123/();,-").cps.toList, c < 0x110000 := by decide +kernel
            rw [e]
            exact all c hc
        · obtain ⟨a4, b4, c4, h4⟩ := hJ4
          exact ⟨a4, b4, c4, by rw [upd_ne dj.symm]; exact h4⟩
        · intro c' o nc hc'
          rw [upd_ne (ne_of_none hc' hD)]
          exact (e5.trans hs4) c' o nc hc'
      · obtain ⟨ys, e1, e2, e3, e4, e5⟩ := h
        have hsum : (ys.map (·.length)).sum = ys.length := by
          clear e1 e2 e4 e5
          induction ys with
          | nil => rfl
          | cons y ys ih =>
            have h1 := (e3 y (List.mem_cons_self ..)).1
            have h2 := ih fun z hz => e3 z (List.mem_cons_of_mem _ hz)
            simp only [List.map_cons, List.sum_cons, List.length_cons]
            omega
        have hz : ys.length ≤ 4 := by omega
        have ej : Txt.join (Str.ofString "") ys = Str.join (Str.ofString "") ys := StrLaws.glued_eq_join _ _
        have e0 : (Str.ofString "").length = 0 := by decide +kernel
        refine ⟨_, Dx, ys, rfl, rfl, .inl (SqL.of e1), ?_, ?_⟩
        · rw [hsum]
          show ys.length + ys.length * (Str.ofString "").length ≤ 16777216
          rw [e0]
          omega
        · refine ret _ (.str (Txt.join (Str.ofString "") ys)) _ _ hs1 (.str _) ((gd_str ?_ ?_).mono (by decide) (by decide)) e4 e5
          · rw [ej]
            exact pts_joinS (pts_of _) ys fun t ht => (e3 t ht).2
          · rw [ej]
            have := StrLaws.join_length_le (Str.ofString "") ys
            rw [hsum, e0] at this
            omega
    clear hJ1 hs1 w0 w1 z0 z1
    rintro σ' H' ⟨wy, sz, rfl, w0, w1, z0, z1, hJ1, hs1⟩
    refine ⟨M, ?_, ?_⟩
    · simp only [L2.start, tSeq, tNext, tAsg, tIf, tIfS, tTest, tOp, rI0, rI, tVar, tCB, tCons, tNil, tC, gName, tRet, tRetN, cxOf, List.map_cons, List.map_nil, List.length_cons, List.length_nil, List.cons_append, List.nil_append, List.replicate, List.getElem?_cons_succ, List.getElem?_cons_zero, Option.some.injEq, exists_eq_left', exists_eq_left, V.int.injEq, V.bl.injEq, V.ref.injEq, V.str.injEq, List.cons.injEq, and_true, true_and, exists_and_left, exists_and_right, reduceCtorEq, false_and, exists_false, or_false, false_or, List.set_cons_zero, List.set_cons_succ, tSl, rSlL, tNoPart, tPart, tOr, tAnd, tNot, rIxL, rIxT, gTup, gCons, gNil, gSub, rSetL, tLst, tTup, iList, iRng1, tPar, exists_const, Int.reduceEq, Int.reduceNe, Nat.reduceAdd, exists_eq_right, exists_eq, exists_eq', if_true, if_false, ite_true, ite_false, Bool.false_eq_true, ne_eq, not_false_eq_true, tB, tNotV, tIsN, tCall, rEq]
      refine ⟨rfl, ite2 (fun _ => ?_) (fun _ => ⟨wy, sz, rfl, w0, w1, z0, z1, hJ1, hs1⟩)⟩
      refine ⟨by decide, fun p hp => ?_⟩
      obtain ⟨a, b, c, hj⟩ := id hJ1
      have pj : p ≠ j := (ne_of_none hj hp).symm
      refine ⟨j, _, rfl, ⟨a, b, c, by rw [upd_ne pj.symm]; exact hj⟩, .inl ⟨p, _, rfl, pj, upd_same, by simp, by decide, fun x hx H2 hJ2 hs2 => ?_⟩⟩
      have hs3 : SJ j H' H2 := (SJ.of (same_new hp)).trans hs2
      have st : ∀ z : String, (Str.ofString z).length ≤ 20 → x = .str (Str.ofString z) → Q x H2 := fun z hz e => by
        rw [e]
        exact ret _ _ _ _ hs1 (.str _) ((gd_str (pts_of z) hz).mono (by decide) (by decide)) hJ2 hs3
      simp only [List.mem_cons, List.not_mem_nil, or_false] at hx
      rcases hx with h | h | h | h | h | h | h
      · exact st _ (by decide +kernel) h
      · exact st _ (by decide +kernel) h
      · exact st _ (by decide +kernel) h
      · exact st _ (by decide +kernel) h
      · exact st _ (by decide +kernel) h
      · exact st _ (by decide +kernel) h
      · exact st _ (by decide +kernel) h
    clear hJ1 hs1 w0 w1 z0 z1
    rintro σ' H' ⟨wy, sz, rfl, w0, w1, z0, z1, hJ1, hs1⟩
    refine ⟨fun σ' H2 => ∃ (wy sz : Int) (Dx : Addr) (c : Option V) (acc : List V) (ds : List PyData), σ' = [some (.ref j), some (.int wy), some (.int sz), some (.ref Dx), c] ∧ Dx ≠ j ∧ H2 Dx = some (.lst acc) ∧ DpAll K (del (del H2 Dx) j) acc ds ∧ (∀ d ∈ ds, d ∈ menu) ∧ ds.length ≤ 4 ∧ Jar H2 j ∧ SJ j H H2, ?_, ?_⟩
    · refine ⟨_, rfl, sz, rfl, by omega, by omega, fun Dx hD => ?_⟩
      obtain ⟨a, b, c, hj⟩ := id hJ1
      have dj : Dx ≠ j := (ne_of_none hj hD).symm
      refine lc_range (lo := 0) (n := sz.toNat) (fun i H2 => ∃ (acc : List V) (ds : List PyData), H2 Dx = some (.lst acc) ∧ ds.length = i ∧ acc.length = i ∧ DpAll K (del (del H2 Dx) j) acc ds ∧ (∀ d ∈ ds, d ∈ menu) ∧ Jar H2 j ∧ SJ j H' H2)
        ⟨[], [], upd_same, rfl, rfl, .nil, (fun y hy => nomatch hy), ⟨a, b, c, by rw [upd_ne dj.symm]; exact hj⟩, SJ.of (same_new hD)⟩ (fun i H2 hi h => ?_) (fun H2 h => ?_)
      · obtain ⟨acc, ds, e1, e2, e3, e4, e5, e6, e7⟩ := h
        refine ⟨rfl, ?_⟩
        unfold tYes
        dsimp only
        rw [if_pos rfl]
        simp only [L2.start, tSeq, tNext, tAsg, tIf, tIfS, tTest, tOp, rI0, rI, tVar, tCB, tCons, tNil, tC, gName, tRet, tRetN, cxOf, List.map_cons, List.map_nil, List.length_cons, List.length_nil, List.cons_append, List.nil_append, List.replicate, List.getElem?_cons_succ, List.getElem?_cons_zero, Option.some.injEq, exists_eq_left', exists_eq_left, V.int.injEq, V.bl.injEq, V.ref.injEq, V.str.injEq, List.cons.injEq, and_true, true_and, exists_and_left, exists_and_right, reduceCtorEq, false_and, exists_false, or_false, false_or, List.set_cons_zero, List.set_cons_succ, tSl, rSlL, tNoPart, tPart, tOr, tAnd, tNot, rIxL, rIxT, gTup, gCons, gNil, gSub, rSetL, tLst, tTup, iList, iRng1, tPar, exists_const, Int.reduceEq, Int.reduceNe, Nat.reduceAdd, exists_eq_right, exists_eq, exists_eq', if_true, if_false, ite_true, ite_false, Bool.false_eq_true, ne_eq, not_false_eq_true, tB, tNotV, tIsN, tCall, tUn, rU, wipe]
        obtain ⟨a2, b2, c2, hj2⟩ := id e6
        refine ⟨Nat.zero_le _, fun p1 h1 => ⟨by show 2 ≤ sizeLine; decide, fun p2 h2 => ⟨Nat.zero_le _, fun p3 h3 => ⟨by show 1 ≤ sizeLine; decide, fun p4 h4 => ⟨by show 10 ≤ sizeLine; decide, fun p5 h5 => ?_⟩⟩⟩⟩⟩
        have s5 := same_new (o := .lst [.int 0, .int 1, .int (-1), .bl true, .non, .str (Str.ofString "a"), .ref p1, .ref p2, .ref p3, .ref p4]) h5
        have s4 := (same_new (o := .lst [.int 0]) h4).trans s5
        have s3 := (same_new (o := .lst []) h3).trans s4
        have s2 := (same_new (o := .tup [.int 1, .int 2]) h2).trans s3
        have s1 := (same_new (o := .tup []) h1).trans s2
        generalize hH5 : (upd (upd (upd (upd (upd H2 p1 (.tup [])) p2 (.tup [.int 1, .int 2])) p3 (.lst [])) p4 (.lst [.int 0])) p5 (.lst [.int 0, .int 1, .int (-1), .bl true, .non, .str (Str.ofString "a"), .ref p1, .ref p2, .ref p3, .ref p4])) = H5 at s1 s2 s3 s4 s5 ⊢
        have o1 : H5 p1 = some (.tup []) := s2 _ _ upd_same
        have o2 : H5 p2 = some (.tup [.int 1, .int 2]) := s3 _ _ upd_same
        have o3 : H5 p3 = some (.lst []) := s4 _ _ upd_same
        have o4 : H5 p4 = some (.lst [.int 0]) := s5 _ _ upd_same
        have o5 : H5 p5 = some (.lst [.int 0, .int 1, .int (-1), .bl true, .non, .str (Str.ofString "a"), .ref p1, .ref p2, .ref p3, .ref p4]) := by rw [← hH5]; exact upd_same
        have old : ∀ {q : Addr} {o : HO}, H2 q = some o → q ≠ p1 ∧ q ≠ p2 ∧ q ≠ p3 ∧ q ≠ p4 ∧ q ≠ p5 := fun {q o} hq => by
          have q1 := same_new (o := .tup []) h1 q o hq
          have q2 := same_new (o := .tup [.int 1, .int 2]) h2 q o q1
          have q3 := same_new (o := .lst []) h3 q o q2
          have q4 := same_new (o := .lst [.int 0]) h4 q o q3
          exact ⟨ne_of_none hq h1, ne_of_none q1 h2, ne_of_none q2 h3, ne_of_none q3 h4, ne_of_none q4 h5⟩
        obtain ⟨j1, j2, j3, j4, j5⟩ := old hj2
        obtain ⟨d1, d2, d3, d4, d5⟩ := old e1
        refine ⟨j, _, rfl, ⟨a2, b2, c2, s1 _ _ hj2⟩, .inl ⟨p5, _, rfl, j5.symm, o5, by simp, by show 10 ≤ 1000; decide, fun x hx H4 hJ4 hs4 => ?_⟩⟩
        have at4 : ∀ {q : Addr} {o : HO}, q ≠ j → q ≠ Dx → H5 q = some o → del (del (upd H4 Dx (.lst (acc ++ [x]))) Dx) j q = some o := fun {q o} n1 n2 e => by
          rw [del_ne n1, del_ne n2, upd_ne n2]
          exact hs4 _ _ n1 e
        have fin : ∀ d, d ∈ menu → Dp K (del (del (upd H4 Dx (.lst (acc ++ [x]))) Dx) j) x d → ∃ acc, H4 Dx = some (.lst acc) ∧ acc.length < sizeLine ∧ ∃ acc_1, upd H4 Dx (.lst (acc ++ [x])) Dx = some (.lst acc_1) ∧ ∃ ds : List PyData, ds.length = i + 1 ∧ acc_1.length = i + 1 ∧
            DpAll K (del (del (upd H4 Dx (.lst (acc ++ [x]))) Dx) j) acc_1 ds ∧ (∀ d : PyData, d ∈ ds → d ∈ menu) ∧ Jar (upd H4 Dx (.lst (acc ++ [x]))) j ∧ SJ j H' (upd H4 Dx (.lst (acc ++ [x]))) := by
          intro d hd hdp
          refine ⟨acc, hs4 _ _ dj (s1 _ _ e1), Nat.lt_of_le_of_lt (by omega : acc.length ≤ 100) (by decide), acc ++ [x], upd_same, ds ++ [d], by simp [e2], by simp [e3], dpAll_snoc hdp (dpAll_same (fun b o e => ?_) ds acc e4), fun d' h' => ?_, ?_, fun b o nb hb => ?_⟩
          · by_cases nb : b = j
            · rw [nb, del_same] at e
              cases e
            · rw [del_ne nb] at e
              by_cases nd : b = Dx
              · rw [nd, del_same] at e
                cases e
              · rw [del_ne nd] at e
                exact at4 nb nd (s1 _ _ e)
          · rcases List.mem_append.mp h' with h' | h'
            · exact e5 d' h'
            · rw [List.mem_singleton.mp h']
              exact hd
          · obtain ⟨a4, b4, c4, hj4⟩ := hJ4
            exact ⟨a4, b4, c4, by rw [upd_ne dj.symm]; exact hj4⟩
          · rw [upd_ne (ne_of_none hb hD)]
            exact hs4 _ _ nb (s1 _ _ (e7 _ _ nb hb))
        simp only [List.mem_cons, List.not_mem_nil, or_false] at hx
        rcases hx with rfl | rfl | rfl | rfl | rfl | rfl | rfl | rfl | rfl | rfl
        · exact fin (.int 0) (by simp [menu]) (.int _)
        · exact fin (.int 1) (by simp [menu]) (.int _)
        · exact fin (.int (-1)) (by simp [menu]) (.int _)
        · exact fin (.bool true) (by simp [menu]) (.bl _)
        · exact fin .none (by simp [menu]) .non
        · exact fin (.str "a") (by simp [menu]) (.str _)
        · exact fin (.tuple []) (by simp [menu]) (.tup (SqT.of (at4 j1.symm d1.symm o1)) .nil)
        · exact fin (.tuple [.int 1, .int 2]) (by simp [menu]) (.tup (SqT.of (at4 j2.symm d2.symm o2)) (.cons (.int _) (.cons (.int _) .nil)))
        · exact fin (.list []) (by simp [menu]) (.lst (SqL.of (at4 j3.symm d3.symm o3)) .nil)
        · exact fin (.list [.int 0]) (by simp [menu]) (.lst (SqL.of (at4 j4.symm d4.symm o4)) (.cons (.int _) .nil))
      · obtain ⟨acc, ds, e1, e2, e3, e4, e5, e6, e7⟩ := h
        exact ⟨wy, sz, Dx, _, acc, ds, rfl, dj, e1, e4, e5, by omega, e6, hs1.trans e7⟩
    clear hJ1 hs1 w0 w1 z0 z1
    rintro σ' H' ⟨wy, sz, Dx, c, acc, ds, rfl, dj, e1, e4, e5, e2, hJ1, hs1⟩
    simp only [L2.start, tSeq, tNext, tAsg, tIf, tIfS, tTest, tOp, rI0, rI, tVar, tCB, tCons, tNil, tC, gName, tRet, tRetN, cxOf, List.map_cons, List.map_nil, List.length_cons, List.length_nil, List.cons_append, List.nil_append, List.replicate, List.getElem?_cons_succ, List.getElem?_cons_zero, Option.some.injEq, exists_eq_left', exists_eq_left, V.int.injEq, V.bl.injEq, V.ref.injEq, V.str.injEq, List.cons.injEq, and_true, true_and, exists_and_left, exists_and_right, reduceCtorEq, false_and, exists_false, or_false, false_or, List.set_cons_zero, List.set_cons_succ, tSl, rSlL, tNoPart, tPart, tOr, tAnd, tNot, rIxL, rIxT, gTup, gCons, gNil, gSub, rSetL, tLst, tTup, iList, iRng1, tPar, exists_const, Int.reduceEq, Int.reduceNe, Nat.reduceAdd, exists_eq_right, exists_eq, exists_eq', if_true, if_false, ite_true, ite_false, Bool.false_eq_true, ne_eq, not_false_eq_true, tB, tNotV, tIsN, rEq]
    have mono : Same (del (del H' Dx) j) (del H' j) := fun b o e => by
      by_cases hb : b = j
      · rw [hb, del_same] at e
        cases e
      · rw [del_ne hb] at e ⊢
        by_cases hd : b = Dx
        · rw [hd, del_same] at e
          cases e
        · rw [del_ne hd] at e
          exact e
    have all : DpAll K (del H' j) acc ds := dpAll_same mono ds acc e4
    have gds : ∀ d ∈ ds, Gd 1 202 d := fun d hd => gd_menu d (e5 d hd)
    have hDj : del H' j Dx = some (.lst acc) := (del_ne dj).trans e1
    refine ⟨rfl, ite2 (fun _ => ?_) (fun _ => ?_)⟩
    · exact k _ (.list ds) H' (.lst (SqL.of hDj) all) ((gd_list gds e2).mono (by decide) (by decide)) hJ1 hs1
    · refine ⟨acc, .inl ⟨SqL.of e1, fun l hl => ?_⟩⟩
      obtain ⟨a, b, c, hj⟩ := id hJ1
      have lj : l ≠ j := (ne_of_none hj hl).symm
      refine k _ (.tuple ds) _ (.tup (SqT.of ((del_ne lj).trans upd_same)) (dpAll_same (fun b o e => ?_) ds acc all)) ((gd_tup gds e2).mono (by decide) (by decide)) ⟨a, b, c, by rw [upd_ne lj.symm]; exact hj⟩ (hs1.trans (SJ.of (same_new hl)))
      by_cases hb : b = j
      · rw [hb, del_same] at e
        cases e
      · rw [del_ne hb] at e ⊢
        rw [upd_ne (ne_of_none e hl)]
        exact e
end
end K1
set_option Elab.async false
set_option linter.all false
set_option maxRecDepth 100000
set_option maxHeartbeats 4000000
/-! ### errors that keep what they are given: __init__ by its form -/
namespace HX
open PySem PySem.Spec PyProof.Rows L2 GX

def isSet (st : Stmt) (f : Str) : Bool := match st with
  | .Assign [.Attribute (.Name s _) g _] (.Name h _) _ => s == "self" && (g == f && h == f)
  | _ => false
theorem isSet_ok {st : Stmt} {f : Str} (h : isSet st f = true) : ∃ p1 p2 p3 p4, st = .Assign [.Attribute (.Name "self" p1) f p2] (.Name f p3) p4 := by
  unfold isSet at h
  split at h
  · obtain ⟨h1, h⟩ := ba h
    obtain ⟨h2, h3⟩ := ba h
    rw [beq_iff_eq.mp h1, beq_iff_eq.mp h2, beq_iff_eq.mp h3]
    exact ⟨_, _, _, _, rfl⟩
  · cases h
def bodyB (b : List Stmt) (fl : List Str) : Bool := match fl, b with
  | [f], [s] => isSet s f
  | [f, g], [s, t] => isSet s f && isSet t g
  | _, _ => false
def arg1B (A : Arguments) (f : Str) : Bool := match A with
  | ⟨[], [⟨s, none, _⟩, ⟨g, none, _⟩], none, [], [], none, []⟩ => s == "self" && g == f
  | _ => false
def arg2B (A : Arguments) (f g : Str) : Bool := match A with
  | ⟨[], [⟨s, none, _⟩, ⟨f', none, _⟩, ⟨g', none, _⟩], none, [], [], none, []⟩ => s == "self" && (f' == f && g' == g)
  | _ => false
theorem arg1_ok {A : Arguments} {f : Str} (h : arg1B A f = true) : ∃ p1 p2, A = ⟨[], [⟨"self", none, p1⟩, ⟨f, none, p2⟩], none, [], [], none, []⟩ := by
  unfold arg1B at h
  split at h
  · obtain ⟨h1, h2⟩ := ba h
    rw [beq_iff_eq.mp h1, beq_iff_eq.mp h2]
    exact ⟨_, _, rfl⟩
  · cases h
theorem arg2_ok {A : Arguments} {f g : Str} (h : arg2B A f g = true) : ∃ p1 p2 p3, A = ⟨[], [⟨"self", none, p1⟩, ⟨f, none, p2⟩, ⟨g, none, p3⟩], none, [], [], none, []⟩ := by
  unfold arg2B at h
  split at h
  · obtain ⟨h1, h2⟩ := ba h
    obtain ⟨h3, h4⟩ := ba h2
    rw [beq_iff_eq.mp h1, beq_iff_eq.mp h3, beq_iff_eq.mp h4]
    exact ⟨_, _, _, rfl⟩
  · cases h
def argsC (A : Arguments) (fl : List Str) : Bool := match fl with
  | [f] => arg1B A f
  | [f, g] => arg2B A f g
  | _ => false
def scB (sc : Scope) (N : List Str) : Bool := decide (sc.kind = .function) && (!sc.isCoroutine && (!sc.isGenerator && (decide N.Nodup && (N.all (fun x => decide (sc.names.lookup x = some .local)) && sc.names.all fun y => decide (y.2 ≠ .free)))))
theorem sc_ok {sc : Scope} {N : List Str} (h : scB sc N = true) : FnScope N N sc ∧ ∀ x ∈ N, sc.names.lookup x = some .local := by
  obtain ⟨h1, h⟩ := ba h
  obtain ⟨h2, h⟩ := ba h
  obtain ⟨h3, h⟩ := ba h
  obtain ⟨h4, h⟩ := ba h
  obtain ⟨h5, h6⟩ := ba h
  have loc : ∀ x ∈ N, sc.names.lookup x = some .local := fun x hx => of_decide_eq_true (List.all_eq_true.mp h5 x hx)
  exact ⟨⟨of_decide_eq_true h1, by simpa using h2, by simpa using h3, of_decide_eq_true h4, List.take_length, fun x hx => .inl (loc x hx), fun y hy => of_decide_eq_true (List.all_eq_true.mp h6 y hy)⟩, loc⟩
def plainName (f : Str) : Bool := (f == ("__debug__" : Str)) == false && (f == ("__classdict__" : Str)) == false
def initB (st : Stmt) (fl : List Str) : Bool := bodyB (defBody st) fl && (argsC (defArgs st) fl && (scB (defScope st) ("self" :: fl) && fl.all plainName))

/-- the promise of such an __init__: the fields are kept, the last one first -/
def spI (C : Addr) (fl : List Str) : Sp := fun vs H Q _ => ∃ (a : Addr) (ws : List V), vs = .ref a :: ws ∧ ws.length = fl.length ∧ H a = some (exo a C none) ∧
  ∀ (d : Addr) (H' : Hp), H d = none → H' a = some (exo a C (some d)) → H' d = some (exd d (fl.zip ws).reverse) → (∀ b o, b ≠ a → H b = some o → H' b = some o) → Q .non H'
section
variable {P : Program} {w : World} {K : PySem.W.Frag} {mg : Str → Option Value} {base : Heap}
theorem pvs {X : Cx} (i : Nat) {x : Str} {pos : Pos} (hN : X.N[i]? = some x) (hl : X.env.scope.names.lookup x = some .local) (hp : plainName x = true) : PE X (.Name x pos) (tVar i) := by
  obtain ⟨h1, h2⟩ := ba hp
  exact pe_var hN (.inl hl) (beq_iff_eq.mp h1) (beq_iff_eq.mp h2)
theorem ok_init {q : Str} {st : Stmt} {f C : Addr} {fd : FuncData} {fl : List Str} (F : Fun K "__init__" q st f fd) (hB : initB st fl = true) (T : ∃ tl n, ExC K tl n C ∧ TlOk tl) (hno : ∀ g ∈ fl, PySem.W.findIn K (.ref C) g = some none) :
    FnOk P w K mg base CX0 1 f fd ("self" :: fl) (spI C fl) := by
  obtain ⟨hb, k1⟩ := ba hB
  obtain ⟨k2, k3⟩ := ba k1
  obtain ⟨hs, hpn⟩ := ba k3
  clear k1 k2 k3
  obtain ⟨S, loc⟩ := sc_ok hs
  have pself : plainName "self" = true := by decide +kernel
  refine F.ok S (fun vs H Q E h => ?_) (fun cdv A outer s H vs Q E hr h => ?_)
  · obtain ⟨a, ws, rfl, hl, _⟩ := h
    show ws.length + 1 = fl.length + 1
    rw [hl]
  · obtain ⟨a, ws, rfl, hl, ha, k⟩ := h
    unfold bodyB at hb
    split at hb
    · rename_i g s1 heq
      obtain ⟨p1, p2, p3, p4, rfl⟩ := isSet_ok hb
      rw [heq]
      have pg : plainName g = true := List.all_eq_true.mp hpn g (List.mem_cons_self ..)
      obtain ⟨v, rfl⟩ : ∃ v, ws = [v] := by
        match ws, hl with
        | [v], _ => exact ⟨v, rfl⟩
      refine ⟨_, pss_one (ps_ste (pvs 0 rfl (loc _ (List.mem_cons_self ..)) pself) (pvs 1 rfl (loc _ (List.mem_cons_of_mem _ (List.mem_cons_self ..))) pg)), ?_⟩
      refine ⟨_, rfl, _, rfl, a, C, rfl, T, hno g (List.mem_cons_self ..), .inl ⟨ha, fun d hd hda => ?_⟩⟩
      refine k d _ hd upd_same ((upd_ne hda).trans upd_same) (fun b o hb hbo => ?_)
      rw [upd_ne hb, upd_ne (ne_of_none hbo hd)]
      exact hbo
    · rename_i g g2 s1 s2 heq
      obtain ⟨hb1, hb2⟩ := ba hb
      obtain ⟨p1, p2, p3, p4, rfl⟩ := isSet_ok hb1
      obtain ⟨q1, q2, q3, q4, rfl⟩ := isSet_ok hb2
      rw [heq]
      have pg : plainName g = true := List.all_eq_true.mp hpn g (List.mem_cons_self ..)
      have pg2 : plainName g2 = true := List.all_eq_true.mp hpn g2 (List.mem_cons_of_mem _ (List.mem_cons_self ..))
      obtain ⟨v, u, rfl⟩ : ∃ v u, ws = [v, u] := by
        match ws, hl with
        | [v, u], _ => exact ⟨v, u, rfl⟩
      refine ⟨_, pss_cons (ps_ste (pvs 0 rfl (loc _ (List.mem_cons_self ..)) pself) (pvs 1 rfl (loc _ (List.mem_cons_of_mem _ (List.mem_cons_self ..))) pg))
        (pss_one (ps_ste (pvs 0 rfl (loc _ (List.mem_cons_self ..)) pself) (pvs 2 rfl (loc _ (List.mem_cons_of_mem _ (List.mem_cons_of_mem _ (List.mem_cons_self ..)))) pg2))), ?_⟩
      refine ⟨_, rfl, _, rfl, a, C, rfl, T, hno g (List.mem_cons_self ..), .inl ⟨ha, fun d hd hda => ?_⟩⟩
      refine ⟨_, rfl, _, rfl, a, C, rfl, T, hno g2 (List.mem_cons_of_mem _ (List.mem_cons_self ..)), .inr ⟨d, _, upd_same, (upd_ne hda).trans upd_same, by show 1 ≤ 900; decide, ?_⟩⟩
      refine k d _ hd ((upd_ne (Ne.symm hda)).trans upd_same) upd_same (fun b o hb hbo => ?_)
      rw [upd_ne (ne_of_none hbo hd), upd_ne hb, upd_ne (ne_of_none hbo hd)]
      exact hbo
    · cases hb
/-- which fields there are -/
def fls : List (List Str) := [[("given" : Str)], [("index" : Str)], [("kind" : Str)], [("shape" : Str)], [("kind" : Str), ("other" : Str)], [("shape" : Str), ("other" : Str)]]
theorem fls_in {fl : List Str} (h : fl ∈ fls) : fl = [("given" : Str)] ∨ fl = [("index" : Str)] ∨ fl = [("kind" : Str)] ∨ fl = [("shape" : Str)] ∨ fl = [("kind" : Str), ("other" : Str)] ∨ fl = [("shape" : Str), ("other" : Str)] := by
  unfold fls at h
  simp only [List.mem_cons, List.not_mem_nil, or_false] at h
  exact h
theorem args_one {st : Stmt} {f : Str} (hB : initB st [f] = true) : ∃ p1 p2, defArgs st = ⟨[], [⟨"self", none, p1⟩, ⟨f, none, p2⟩], none, [], [], none, []⟩ := by
  obtain ⟨k1, k2⟩ := ba hB
  obtain ⟨ha, k3⟩ := ba k2
  exact arg1_ok ha
theorem args_two {st : Stmt} {f g : Str} (hB : initB st [f, g] = true) : ∃ p1 p2 p3, defArgs st = ⟨[], [⟨"self", none, p1⟩, ⟨f, none, p2⟩, ⟨g, none, p3⟩], none, [], [], none, []⟩ := by
  obtain ⟨k1, k2⟩ := ba hB
  obtain ⟨ha, k3⟩ := ba k2
  exact arg2_ok ha
/-- by places -/
theorem bind_init {q : Str} {st : Stmt} {f : Addr} {fd : FuncData} {fl : List Str} (F : Fun K "__init__" q st f fd) (hB : initB st fl = true) (hf : fl ∈ fls) : Binds K fd ("self" :: fl) [] := by
  refine F.binds fun kV doc pm an cdv ct us hl => ?_
  rcases fls_in hf with rfl | rfl | rfl | rfl | rfl | rfl
  iterate 4
    · obtain ⟨p1, p2, e⟩ := args_one hB
      rw [e]
      match us, hl with
      | [_, _], _ => rfl
  iterate 2
    · obtain ⟨p1, p2, p3, e⟩ := args_two hB
      rw [e]
      match us, hl with
      | [_, _, _], _ => rfl
/-- by names; of two the second one first -/
theorem bindK_init {q : Str} {st : Stmt} {f : Addr} {fd : FuncData} {fl : List Str} (F : Fun K "__init__" q st f fd) (hB : initB st fl = true) (hf : fl ∈ fls)
    (s : Shared) (a : Addr) (ws : List Value) (hn : ws.length = fl.length) : BindsTo s fd ⟨[.ref a], fl.reverse.zip ws⟩ ((("self" : Str) :: fl).zip (.ref a :: ws.reverse)) := by
  obtain ⟨oc, od, kV, doc, pm, an, cdv, ct, osl, rfl, lk, hcd⟩ := F.ex
  rcases fls_in hf with rfl | rfl | rfl | rfl | rfl | rfl
  iterate 4
    · obtain ⟨p1, p2, e⟩ := args_one hB
      rw [e]
      match ws, hn with
      | [_], _ => exact .of_eq rfl
  iterate 2
    · obtain ⟨p1, p2, p3, e⟩ := args_two hB
      rw [e]
      match ws, hn with
      | [_, _], _ => exact .of_eq rfl
end
end HX
set_option Elab.async false
set_option linter.all false
set_option maxRecDepth 100000
set_option maxHeartbeats 4000000
/-! ### lists that are put together, element by element -/
namespace HX
open PySem PySem.Spec PyProof.Rows L2 GX
section
variable {X : Cx} {vs : List V} {pre : Hp → Prop} {el : Expr → V → Hp → Prop}
theorem pe_wk {e : Expr} {t t' : TE} (h : PE X e t) (k : ∀ σ H Q, t' σ H Q → t σ H Q) : PE X e t' := ⟨fun pins s σ H Q I q => h.run pins s σ H Q I (k σ H Q q)⟩
theorem pa_wk {es : List Expr} {t t' : TA} (h : PA X es t) (k : ∀ σ H Q, t' σ H Q → t σ H Q) : PA X es t' := ⟨fun pos pins s σ H Q I q => h.run pos pins s σ H Q I (k σ H Q q)⟩
/-- an element's expression: it reads, leaves all and tells what el says -/
def tEl (vs : List V) (pre : Hp → Prop) (el : Expr → V → Hp → Prop) (e : Expr) : TE := fun σ H Q => (∃ acc, σ = vs.map some ++ [acc]) ∧ pre H ∧ ∀ u H', Same H H' → el e u H' → Q u H'
structure Elem (X : Cx) (vs : List V) (pre : Hp → Prop) (el : Expr → V → Hp → Prop) (e : Expr) : Prop where
  pe : PE X e (tEl vs pre el e)
  st : ∀ es, starEach (e :: es) X.env = (false, eval e X.env) :: starEach es X.env
def Els (el : Expr → V → Hp → Prop) : List Expr → List V → Hp → Prop
  | [], [], _ => True
  | e :: es, u :: us, H => el e u H ∧ Els el es us H
  | _, _, _ => False
structure Stays (pre : Hp → Prop) (el : Expr → V → Hp → Prop) : Prop where
  p : ∀ {H H'}, Same H H' → pre H → pre H'
  e : ∀ {e u H H'}, Same H H' → el e u H → el e u H'
theorem Els.same (S : Stays pre el) {H H' : Hp} (h : Same H H') : ∀ {es us}, Els el es us H → Els el es us H'
  | [], [], _ => trivial
  | e :: es, u :: us, q => ⟨S.e h q.1, Els.same S h q.2⟩
  | [], _ :: _, q => q.elim
  | _ :: _, [], q => q.elim
theorem Els.len {H : Hp} : ∀ {es us}, Els el es us H → us.length = es.length
  | [], [], _ => rfl
  | e :: es, u :: us, q => by
    show us.length + 1 = es.length + 1
    rw [Els.len q.2]
  | [], _ :: _, q => q.elim
  | _ :: _, [], q => q.elim
theorem Els.app {H : Hp} : ∀ {es us fs ws}, Els el es us H → Els el fs ws H → Els el (es ++ fs) (us ++ ws) H
  | [], [], _, _, _, r => r
  | e :: es, u :: us, _, _, q, r => ⟨q.1, Els.app q.2 r⟩
  | [], _ :: _, _, _, q, _ => q.elim
  | _ :: _, [], _, _, q, _ => q.elim
def tEls (vs : List V) (pre : Hp → Prop) (el : Expr → V → Hp → Prop) (es : List Expr) : TA := fun σ H Q => (∃ acc, σ = vs.map some ++ [acc]) ∧ pre H ∧ ∀ us H', Same H H' → Els el es us H' → Q us H'
theorem pa_els (S : Stays pre el) : ∀ es, (∀ e ∈ es, Elem X vs pre el e) → PA X es (tEls vs pre el es)
  | [], _ => pa_wk pa_nil fun σ H Q h => h.2.2 [] H (Same.refl H) trivial
  | e :: es, h => by
    have he := h e (List.mem_cons_self ..)
    refine pa_wk (pa_cons he.pe (pa_els S es fun f hf => h f (List.mem_cons_of_mem _ hf)) (he.st es)) fun σ H Q q => ?_
    obtain ⟨a, p, k⟩ := q
    refine ⟨a, p, fun u H1 s1 e1 => ⟨a, S.p s1 p, fun us H2 s2 e2 => k (u :: us) H2 (s1.trans s2) ⟨S.e s2 e1, e2⟩⟩⟩
/-- [e, ..] -/
theorem pe_els (S : Stays pre el) {es : List Expr} {pos : Pos} (hl : es.length ≤ 1000) (h : ∀ e ∈ es, Elem X vs pre el e) : PE X (.List es pos) (fun σ H Q => (∃ acc, σ = vs.map some ++ [acc]) ∧ pre H ∧ ∀ p us H', Same H H' → H' p = some (.lst us) → Els el es us H' → Q (.ref p) H') := by
  refine pe_wk (pe_lst (pa_els S es h)) fun σ H Q q => ?_
  obtain ⟨a, p, k⟩ := q
  refine ⟨a, p, fun us H1 s1 e1 => ⟨?_, fun p hp => k p us _ (s1.trans (K1.same_new hp)) upd_same (Els.same S (K1.same_new hp) e1)⟩⟩
  rw [e1.len]
  exact Nat.le_of_lt (small1000 hl)

/-- the block: m = m + [..], .., return m + [..] -/
def accB (m : Str) : List Stmt → Bool
  | [.Return (some (.BinOp (.Name y _) .Add (.List _ _) _)) _] => y == m
  | .Assign [.Name x _] (.BinOp (.Name y _) .Add (.List _ _) _) _ :: r => x == m && (y == m && accB m r)
  | _ => false
def accEs : List Stmt → List Expr
  | [.Return (some (.BinOp _ _ (.List es _) _)) _] => es
  | .Assign _ (.BinOp _ _ (.List es _) _) _ :: r => es ++ accEs r
  | _ => []
def headB (m : Str) : List Stmt → Bool
  | .Assign [.Name x _] (.List _ _) _ :: r => x == m && accB m r
  | _ => false
def headEs : List Stmt → List Expr
  | .Assign _ (.List es _) _ :: r => es ++ accEs r
  | _ => []
def tAcc (vs : List V) (pre : Hp → Prop) (el : Expr → V → Hp → Prop) (done todo : List Expr) : TS := fun D σ H => pre H ∧ ∃ a us, σ = vs.map some ++ [some (.ref a)] ∧ H a = some (.lst us) ∧ Els el done us H ∧ done.length + todo.length ≤ 1000 ∧
  ∀ p ws H', Same H H' → H' p = some (.lst ws) → Els el (done ++ todo) ws H' → D.rt (.ref p) H'
theorem at_last {vs : List V} {a : Option V} : (vs.map some ++ [a])[vs.length]? = some a := by simp
theorem set_last {vs : List V} {a b : Option V} : (vs.map some ++ [a]).set vs.length b = vs.map some ++ [b] := by
  rw [List.set_append_right _ _ (by rw [List.length_map]; exact Nat.le_refl _), List.length_map, Nat.sub_self]
  rfl
section
variable {m : Str} (hN : X.N.Nodup) (hi : X.N[vs.length]? = some m) (hl : X.env.scope.names.lookup m = some .local) (hd : (m == ("__debug__" : Str)) = false) (hc : (m == ("__classdict__" : Str)) = false) (S : Stays pre el)
include hi hl hd hc S
theorem pe_acc {es done : List Expr} {p1 p2 p3 : Pos} (h : ∀ e ∈ es, Elem X vs pre el e) (hz : es.length ≤ 1000) : PE X (.BinOp (.Name m p1) .Add (.List es p2) p3) (fun σ H Q => pre H ∧ ∃ a us, σ = vs.map some ++ [some (.ref a)] ∧ H a = some (.lst us) ∧ Els el done us H ∧ done.length + es.length ≤ 1000 ∧
    ∀ p ws H', Same H H' → H' p = some (.lst ws) → Els el (done ++ es) ws H' → Q (.ref p) H') := by
  refine pe_wk (pe_op op_cat (pe_var hi (.inl hl) hd hc) (pe_els S hz h)) fun σ H Q q => ?_
  obtain ⟨p, a, us, rfl, ha, eu, ln, k⟩ := q
  refine ⟨.ref a, at_last, ⟨_, rfl⟩, p, fun b ws H1 s1 hb eb => ⟨a, b, us, ws, rfl, rfl, s1 _ _ ha, hb, ?_, fun c hc => ?_⟩⟩
  · rw [eu.len, eb.len]
    exact Nat.le_of_lt (small1000 ln)
  · exact k c _ _ (s1.trans (K1.same_new hc)) upd_same (Els.same S (K1.same_new hc) (Els.app (Els.same S s1 eu) eb))
include hN
theorem acc_tail : ∀ (b : List Stmt), accB m b = true → (∀ e ∈ accEs b, Elem X vs pre el e) → ∀ done, PSs X b (tAcc vs pre el done (accEs b)) := by
  intro b
  induction b with
  | nil => intro h; cases h
  | cons st r ih =>
    intro h he done
    unfold accB at h
    split at h
    · rename_i y p1 es p2 p3 p4 heq
      cases heq
      rw [beq_iff_eq.mp h] at *
      refine ⟨fun pins s σ H D I q => ?_⟩
      obtain ⟨p, a, us, e1, ha, eu, ln, k⟩ := q
      exact (pss_one (ps_ret (pe_acc (done := done) hi hl hd hc S he (Nat.le_trans (Nat.le_add_left _ _) ln)))).run pins s σ H D I ⟨p, a, us, e1, ha, eu, ln, k⟩
    · rename_i x p0 y p1 es p2 p3 p4 r' heq
      cases heq
      obtain ⟨h1, h⟩ := ba h
      obtain ⟨h2, h3⟩ := ba h
      rw [beq_iff_eq.mp h1, beq_iff_eq.mp h2] at *
      have he1 : ∀ e ∈ es, Elem X vs pre el e := fun e q => he e (List.mem_append_left _ q)
      have he2 : ∀ e ∈ accEs r, Elem X vs pre el e := fun e q => he e (List.mem_append_right _ q)
      refine ⟨fun pins s σ H D I q => ?_⟩
      obtain ⟨p, a, us, rfl, ha, eu, ln, k⟩ := q
      have ln2 : done.length + (es ++ accEs r).length ≤ 1000 := ln
      rw [List.length_append] at ln2
      refine (pss_cons (ps_set hN hi (.inl hl) (pe_acc (done := done) hi hl hd hc S he1 (by omega)) (by rfl) (.inr hl)) (ih h3 he2 (done ++ es))).run pins s _ H D I ?_
      refine ⟨p, a, us, rfl, ha, eu, by omega, fun b ws H1 s1 hb eb => ?_⟩
      refine ⟨S.p s1 p, b, ws, set_last, hb, eb, by rw [List.length_append]; omega, fun c zs H2 s2 hc ec => k c zs H2 (s1.trans s2) hc ?_⟩
      rw [List.append_assoc] at ec
      exact ec
    · cases h
theorem acc_block {b : List Stmt} (hB : headB m b = true) (hz : (headEs b).length ≤ 1000) (he : ∀ e ∈ headEs b, Elem X vs pre el e) : PSs X b (fun D σ H => (∃ acc, σ = vs.map some ++ [acc]) ∧ pre H ∧ ∀ p ws H', Same H H' → H' p = some (.lst ws) → Els el (headEs b) ws H' → D.rt (.ref p) H') := by
  unfold headB at hB
  split at hB
  · rename_i x p0 es p2 p3 r
    obtain ⟨h1, h2⟩ := ba hB
    rw [beq_iff_eq.mp h1] at *
    have he1 : ∀ e ∈ es, Elem X vs pre el e := fun e q => he e (List.mem_append_left _ q)
    have he2 : ∀ e ∈ accEs r, Elem X vs pre el e := fun e q => he e (List.mem_append_right _ q)
    have ln2 : (es ++ accEs r).length ≤ 1000 := hz
    rw [List.length_append] at ln2
    refine ⟨fun pins s σ H D I q => ?_⟩
    obtain ⟨⟨acc, rfl⟩, p, k⟩ := q
    refine (pss_cons (ps_set hN hi (.inl hl) (pe_els S (by omega) he1) (by rfl) (.inr hl)) (acc_tail hN hi hl hd hc S r h2 he2 es)).run pins s _ H D I ?_
    refine ⟨⟨acc, rfl⟩, p, fun b us H1 s1 hb eb => ⟨S.p s1 p, b, us, set_last, hb, eb, by omega, fun c zs H2 s2 hc ec => k c zs H2 (s1.trans s2) hc ec⟩⟩
  · cases hB
end
end
end HX
set_option Elab.async false
set_option linter.all false
set_option maxRecDepth 100000
set_option maxHeartbeats 4000000
/-! ### errors made, by place and by name -/
namespace HX
open PySem PySem.Spec PyProof.Rows L2 GX
/-- what else is wanted of a class with fields: its __init__ -/
structure MkF (K : PySem.W.Frag) (c : Ci) (st : Stmt) : Prop where
  fn : ∃ fd, Fun K "__init__" (c.nm ++ ".__init__") st (He.ma K (ga K c.nm) "__init__") fd
  bo : initB st c.fl = true
  fl : c.fl ∈ fls
def flds (fl : List Str) (v1 v2 : V) : List (Str × V) := (fl.zip [v1, v2]).reverse
theorem EAt.same {H H' : Hp} {a C : Addr} {fs : List (Str × V)} (s : Same H H') (h : EAt H a C fs) : EAt H' a C fs := by
  rcases h with ⟨h1, h | h⟩ | ⟨d, h, hd⟩
  · exact .inl ⟨h1, .inl (s _ _ h)⟩
  · exact .inl ⟨h1, .inr (s _ _ h)⟩
  · exact .inr ⟨d, s _ _ h, s _ _ hd⟩
def callee : Expr → Option Str
  | .Call (.Name x _) _ _ _ => some x
  | _ => none
def plArgs (fl : List Str) (one two : Str) (args : List Expr) : Bool := match fl, args with
  | [], [] => true
  | [_], [.Name y _] => y == one
  | [_, _], [.Name y _, .Name z _] => y == one && z == two
  | _, _ => false
theorem plArgs_ok {fl : List Str} {one two : Str} {args : List Expr} (h : plArgs fl one two args = true) : (fl = [] ∧ args = []) ∨ (∃ f p, fl = [f] ∧ args = [.Name one p]) ∨ ∃ f g p q, fl = [f, g] ∧ args = [.Name one p, .Name two q] := by
  unfold plArgs at h
  split at h
  · exact .inl ⟨rfl, rfl⟩
  · rw [beq_iff_eq.mp h]
    exact .inr (.inl ⟨_, _, rfl, rfl⟩)
  · obtain ⟨h1, h2⟩ := ba h
    rw [beq_iff_eq.mp h1, beq_iff_eq.mp h2]
    exact .inr (.inr ⟨_, _, _, _, rfl, rfl⟩)
  · cases h
def nmArgs (fl : List Str) (one two : Str) (kws : List Keyword) : Bool := match fl, kws with
  | [], [] => true
  | [f], [⟨some g, .Name y _, _⟩] => g == f && y == one
  | [f, g], [⟨some g', .Name z _, _⟩, ⟨some f', .Name y _, _⟩] => (g' == g && f' == f) && (y == one && z == two)
  | _, _ => false
theorem nmArgs_ok {fl : List Str} {one two : Str} {kws : List Keyword} (h : nmArgs fl one two kws = true) : (fl = [] ∧ kws = []) ∨ (∃ f p q, fl = [f] ∧ kws = [⟨some f, .Name one p, q⟩]) ∨ ∃ f g p q p' q', fl = [f, g] ∧ kws = [⟨some g, .Name two p, q⟩, ⟨some f, .Name one p', q'⟩] := by
  unfold nmArgs at h
  split at h
  · exact .inl ⟨rfl, rfl⟩
  · obtain ⟨h1, h2⟩ := ba h
    rw [beq_iff_eq.mp h1, beq_iff_eq.mp h2]
    exact .inr (.inl ⟨_, _, _, rfl, rfl⟩)
  · obtain ⟨h1, h2⟩ := ba h
    obtain ⟨h3, h4⟩ := ba h1
    obtain ⟨h5, h6⟩ := ba h2
    rw [beq_iff_eq.mp h3, beq_iff_eq.mp h4, beq_iff_eq.mp h5, beq_iff_eq.mp h6]
    exact .inr (.inr ⟨_, _, _, _, _, _, rfl, rfl⟩)
  · cases h
def placeB (fl : List Str) (nm one two : Str) : Expr → Bool
  | .Call (.Name x _) args [] _ => x == nm && plArgs fl one two args
  | _ => false
theorem placeB_ok {fl : List Str} {nm one two : Str} {e : Expr} (h : placeB fl nm one two e = true) : ∃ p args q, e = .Call (.Name nm p) args [] q ∧ plArgs fl one two args = true := by
  unfold placeB at h
  split at h
  · obtain ⟨h1, h2⟩ := ba h
    rw [beq_iff_eq.mp h1]
    exact ⟨_, _, _, rfl, h2⟩
  · cases h
def nameB (fl : List Str) (nm one two : Str) : Expr → Bool
  | .Call (.Name x _) [] kws _ => x == nm && nmArgs fl one two kws
  | _ => false
theorem nameB_ok {fl : List Str} {nm one two : Str} {e : Expr} (h : nameB fl nm one two e = true) : ∃ p kws q, e = .Call (.Name nm p) [] kws q ∧ nmArgs fl one two kws = true := by
  unfold nameB at h
  split at h
  · obtain ⟨h1, h2⟩ := ba h
    rw [beq_iff_eq.mp h1]
    exact ⟨_, _, _, rfl, h2⟩
  · cases h
section
variable {X : Cx} {c : Ci} {st : Stmt} {v1 v2 : V}
/-- what a making says -/
def tMk (K : PySem.W.Frag) (c : Ci) (v1 v2 : V) : TE := fun σ H Q => (∃ acc, σ = [v1, v2].map some ++ [acc]) ∧ ∀ a H', Same H H' → EAt H' a (ga K c.nm) (flds c.fl v1 v2) → Q (.ref a) H'
theorem mk_reads {H : Hp} {Q : VK} {C : Addr} {fl : List Str} {ws : List V} (hl : ws.length = fl.length) (e : flds fl v1 v2 = (fl.zip ws).reverse) (k : ∀ a H', Same H H' → EAt H' a C (flds fl v1 v2) → Q (.ref a) H') : ∀ a, H a = none → spI C fl (.ref a :: ws) (upd H a (exo a C none)) (fun v H2 => v = .non ∧ Q (.ref a) H2) (fun _ _ _ => False) := by
  intro a ha
  refine ⟨a, ws, rfl, hl, upd_same, fun d H' hd h1 h2 h3 => ⟨rfl, k a H' (fun b o hb => ?_) (.inr ⟨d, h1, by rw [e]; exact h2⟩)⟩⟩
  have hne : b ≠ a := ne_of_none hb ha
  exact h3 b o hne (by rw [upd_ne hne]; exact hb)
variable (R : RowOk X.K c) (M : c.fl ≠ [] → MkF X.K c st) (gl : X.mg c.nm = some (.ref (ga X.K c.nm))) (hg : Gl X c.nm) (hdb : (c.nm == ("__debug__" : Str)) = false) (hr : Room 2 X.A)
  (h0 : X.N[0]? = some ("_law_one" : Str)) (l0 : X.env.scope.names.lookup ("_law_one" : Str) = some .local) (h1 : X.N[1]? = some ("_law_two" : Str)) (l1 : X.env.scope.names.lookup ("_law_two" : Str) = some .local)
include R gl hg hdb in
theorem pe_mk0 {p pos : Pos} (e0 : c.fl = []) : PE X (.Call (.Name c.nm p) [] [] pos) (tMk X.K c v1 v2) := by
  obtain ⟨B, i, F⟩ := facts_of c.kind
  refine pe_wk (pe_mkE0 F (R.i0 e0) gl R.ex.kp hg hdb) fun σ H Q q => ?_
  obtain ⟨_, k⟩ := q
  refine fun a ha => k a _ (K1.same_new ha) (.inl ⟨?_, .inr upd_same⟩)
  rw [e0]
  rfl
include R M gl hg hdb hr h0 l0 h1 l1
theorem pe_place {e : Expr} (hB : placeB c.fl c.nm "_law_one" "_law_two" e = true) : PE X e (tMk X.K c v1 v2) := by
  obtain ⟨p, args, pos, rfl, hA⟩ := placeB_ok hB
  rcases plArgs_ok hA with ⟨e0, rfl⟩ | h
  · exact pe_mk0 R gl hg hdb e0
  have ne : c.fl ≠ [] := by
    rcases h with ⟨f, p, e1, _⟩ | ⟨f, g, p, q, e1, _⟩
    · rw [e1]; exact List.cons_ne_nil _ _
    · rw [e1]; exact List.cons_ne_nil _ _
  obtain ⟨⟨fd, F⟩, hb, hf⟩ := M ne
  obtain ⟨i1, i2⟩ := R.i1 ne
  obtain ⟨B, i, Fb⟩ := facts_of c.kind
  have FI := ok_init (P := X.prog) (w := X.w) (mg := X.mg) (base := X.base) F hb ⟨_, _, R.ex, tlOk _⟩ R.no
  rcases h with ⟨f, p, e1, rfl⟩ | ⟨f, g, p, q, e1, rfl⟩
  · refine pe_wk (pe_mkE R.ex (tlOk _) Fb i1 i2 FI hr pass0 hg gl (bind_init F hb hf) (pa_cons (pe_var h0 (.inl l0)) pa_nil) hdb) fun σ H Q q => ?_
    obtain ⟨⟨acc, rfl⟩, k⟩ := q
    refine ⟨v1, rfl, by show 1 ≤ 1000; decide, ?_⟩
    exact mk_reads (by rw [e1]; rfl) (by rw [e1]; rfl) k
  · refine pe_wk (pe_mkE R.ex (tlOk _) Fb i1 i2 FI hr pass0 hg gl (bind_init F hb hf) (pa_cons (pe_var h0 (.inl l0)) (pa_cons (pe_var h1 (.inl l1)) pa_nil)) hdb) fun σ H Q q => ?_
    obtain ⟨⟨acc, rfl⟩, k⟩ := q
    refine ⟨v1, rfl, v2, rfl, by show 2 ≤ 1000; decide, ?_⟩
    exact mk_reads (by rw [e1]; rfl) (by rw [e1]; rfl) k
theorem pe_named {e : Expr} (hB : nameB c.fl c.nm "_law_one" "_law_two" e = true) : PE X e (tMk X.K c v1 v2) := by
  obtain ⟨p, kws, pos, rfl, hA⟩ := nameB_ok hB
  rcases nmArgs_ok hA with ⟨e0, rfl⟩ | h
  · exact pe_mk0 R gl hg hdb e0
  have ne : c.fl ≠ [] := by
    rcases h with ⟨f, p, q, e1, _⟩ | ⟨f, g, p, q, p', q', e1, _⟩
    · rw [e1]; exact List.cons_ne_nil _ _
    · rw [e1]; exact List.cons_ne_nil _ _
  obtain ⟨⟨fd, F⟩, hb, hf⟩ := M ne
  obtain ⟨i1, i2⟩ := R.i1 ne
  obtain ⟨B, i, Fb⟩ := facts_of c.kind
  have FI := ok_init (P := X.prog) (w := X.w) (mg := X.mg) (base := X.base) F hb ⟨_, _, R.ex, tlOk _⟩ R.no
  rcases h with ⟨f, p, q, e1, rfl⟩ | ⟨f, g, p, q, p', q', e1, rfl⟩
  · refine pe_wk (pe_mkEK (g := List.reverse) (n := 1) (ks := c.fl.reverse) R.ex (tlOk _) Fb i1 i2 FI hr pass0 hg gl (fun s a ws X2 n => bindK_init F hb hf s a ws (by rw [e1]; exact n)) (fun n r => Vals.reverse r) (pk_cons (pe_var h0 (.inl l0)) pk_nil) (by rfl) (by rw [e1]; rfl) hdb) fun σ H Q q => ?_
    obtain ⟨⟨acc, rfl⟩, k⟩ := q
    refine ⟨v1, rfl, rfl, by show 1 ≤ 1000; decide, ?_⟩
    exact mk_reads (by rw [e1]; rfl) (by rw [e1]; rfl) k
  · refine pe_wk (pe_mkEK (g := List.reverse) (n := 2) (ks := c.fl.reverse) R.ex (tlOk _) Fb i1 i2 FI hr pass0 hg gl (fun s a ws X2 n => bindK_init F hb hf s a ws (by rw [e1]; exact n)) (fun n r => Vals.reverse r) (pk_cons (pe_var h1 (.inl l1)) (pk_cons (pe_var h0 (.inl l0)) pk_nil)) (by rfl) (by rw [e1]; rfl) hdb) fun σ H Q q => ?_
    obtain ⟨⟨acc, rfl⟩, k⟩ := q
    refine ⟨v2, rfl, v1, rfl, rfl, by show 2 ≤ 1000; decide, ?_⟩
    exact mk_reads (by rw [e1]; rfl) (by rw [e1]; rfl) k
end
end HX
set_option Elab.async false
set_option linter.all false
set_option maxRecDepth 100000
set_option maxHeartbeats 4000000
namespace K1
open PySem PySem.Spec PyProof.Rows L2 GX HX
/-- the classes with attributes or without, in the law's order -/
def t57 : List Ci := tab1 ++ tab2 ++ tab3
def rowOf (e : Expr) : Option Ci := (callee e).bind fun x => tab.find? fun c => c.nm == x
def stOf (c : Ci) : Stmt := inClass (top ((initAt.lookup c.nm).getD 0)) 0
/-- the made errors -/
def Mds (K : PySem.W.Frag) (v1 v2 : V) : List Ci → List V → Hp → Prop
  | [], [], _ => True
  | c :: cs, u :: us, H => (∃ a, u = .ref a ∧ EAt H a (ga K c.nm) (flds c.fl v1 v2)) ∧ Mds K v1 v2 cs us H
  | _, _, _ => False
theorem Mds.same {K : PySem.W.Frag} {v1 v2 : V} {H H' : Hp} (s : Same H H') : ∀ {cs us}, Mds K v1 v2 cs us H → Mds K v1 v2 cs us H'
  | [], [], _ => trivial
  | c :: cs, u :: us, q => ⟨⟨q.1.choose, q.1.choose_spec.1, EAt.same s q.1.choose_spec.2⟩, Mds.same s q.2⟩
  | [], _ :: _, q => q.elim
  | _ :: _, [], q => q.elim
theorem Mds.len {K : PySem.W.Frag} {v1 v2 : V} {H : Hp} : ∀ {cs us}, Mds K v1 v2 cs us H → us.length = cs.length
  | [], [], _ => rfl
  | c :: cs, u :: us, q => by
    show us.length + 1 = cs.length + 1
    rw [Mds.len q.2]
  | [], _ :: _, q => q.elim
  | _ :: _, [], q => q.elim
theorem Mds.at {K : PySem.W.Frag} {v1 v2 : V} {H : Hp} : ∀ {cs us}, Mds K v1 v2 cs us H → ∀ (i : Nat) (c : Ci), cs[i]? = some c → ∃ a, us[i]? = some (.ref a) ∧ EAt H a (ga K c.nm) (flds c.fl v1 v2)
  | [], [], _, i, c, h => nomatch h
  | c :: cs, u :: us, q, 0, d, h => by
    obtain ⟨⟨a, rfl, e⟩, _⟩ := q
    cases h
    exact ⟨a, rfl, e⟩
  | c :: cs, u :: us, q, i + 1, d, h => Mds.at q.2 i d h
  | [], _ :: _, q, _, _, _ => q.elim
  | _ :: _, [], q, _, _, _ => q.elim
def elMk (K : PySem.W.Frag) (v1 v2 : V) : Expr → V → Hp → Prop := fun e u H => ∃ c a, rowOf e = some c ∧ u = .ref a ∧ EAt H a (ga K c.nm) (flds c.fl v1 v2)
theorem stMk {K : PySem.W.Frag} {v1 v2 : V} : Stays (fun _ => True) (elMk K v1 v2) := ⟨fun _ _ => trivial, fun s ⟨c, a, h1, h2, h3⟩ => ⟨c, a, h1, h2, EAt.same s h3⟩⟩
theorem mds_of {K : PySem.W.Frag} {v1 v2 : V} {H : Hp} : ∀ {es us cs}, Els (elMk K v1 v2) es us H → es.map rowOf = cs.map some → Mds K v1 v2 cs us H
  | [], [], [], _, _ => trivial
  | e :: es, u :: us, c :: cs, q, h => by
    obtain ⟨⟨c', a, h1, h2, h3⟩, q2⟩ := q
    simp only [List.map_cons, List.cons.injEq] at h
    rw [h1] at h
    cases h.1
    exact ⟨⟨a, h2, h3⟩, mds_of q2 h.2⟩
  | [], _ :: _, _, q, _ => q.elim
  | _ :: _, [], _, q, _ => q.elim
  | [], [], _ :: _, _, h => nomatch h
  | _ :: _, _ :: _, [], _, h => nomatch h
/-- the __init__ of each class that has one -/
def Inits (K : PySem.W.Frag) : Prop := ∀ c ∈ tab, c.fl ≠ [] → MkF K c (stOf c)
theorem row_mem {e : Expr} {c : Ci} (h : rowOf e = some c) : c ∈ tab := by
  obtain ⟨x, _, h⟩ := Option.bind_eq_some_iff.mp h
  exact List.mem_of_find?_eq_some h
def goodB (B : List Str → Str → Str → Str → Expr → Bool) (sc : Scope) (e : Expr) : Bool := match rowOf e with
  | some c => B c.fl c.nm "_law_one" "_law_two" e && (decide (sc.names.lookup c.nm = some .globalImplicit) && (c.nm == ("__debug__" : Str)) == false)
  | none => false
theorem good_ok {B : List Str → Str → Str → Str → Expr → Bool} {sc : Scope} {e : Expr} (h : goodB B sc e = true) : ∃ c, rowOf e = some c ∧ B c.fl c.nm "_law_one" "_law_two" e = true ∧ sc.names.lookup c.nm = some .globalImplicit ∧ (c.nm == ("__debug__" : Str)) = false := by
  unfold goodB at h
  split at h
  · rename_i c hc
    obtain ⟨h1, h⟩ := ba h
    obtain ⟨h2, h3⟩ := ba h
    exact ⟨c, hc, h1, of_decide_eq_true h2, beq_iff_eq.mp h3⟩
  · cases h
def spMake (K : PySem.W.Frag) : Sp := fun vs H Q _ => ∃ v1 v2, vs = [v1, v2] ∧ ∀ p us H', Same H H' → H' p = some (.lst us) → Mds K v1 v2 t57 us H' → Q (.ref p) H'
abbrev NMk : List Str := ["_law_one", "_law_two", "_law_made"]
theorem scPl : FnScope NMk ["_law_one", "_law_two"] (defScope (top 82)) := ⟨rfl, rfl, rfl, by decide +kernel, rfl, by decide +kernel, by decide +kernel⟩
theorem scNm : FnScope NMk ["_law_one", "_law_two"] (defScope (top 83)) := ⟨rfl, rfl, rfl, by decide +kernel, rfl, by decide +kernel, by decide +kernel⟩
theorem good_pl : ((headEs (defBody (top 82))).all fun e => goodB placeB (defScope (top 82)) e) = true := by decide +kernel
theorem good_nm : ((headEs (defBody (top 83))).all fun e => goodB nameB (defScope (top 83)) e) = true := by decide +kernel
theorem rows_pl : (headEs (defBody (top 82))).map rowOf = t57.map some := by decide +kernel
theorem rows_nm : (headEs (defBody (top 83))).map rowOf = t57.map some := by decide +kernel
theorem head_pl : headB "_law_made" (defBody (top 82)) = true := by decide +kernel
theorem head_nm : headB "_law_made" (defBody (top 83)) = true := by decide +kernel
theorem len_pl : (headEs (defBody (top 82))).length ≤ 1000 := by decide +kernel
theorem len_nm : (headEs (defBody (top 83))).length ≤ 1000 := by decide +kernel
theorem star_call {X : Cx} {fn : Expr} {args : List Expr} {kws : List Keyword} {pos : Pos} : ∀ es, starEach (.Call fn args kws pos :: es) X.env = (false, eval (.Call fn args kws pos) X.env) :: starEach es X.env := fun es => rfl
section
variable {P : Program} {w : World} {K : PySem.W.Frag} {mg : Str → Option Value} {base : Heap} {f : Addr} {fd : FuncData}
theorem ok_place (D : Df K mg "_law_by_place" 82 f fd) (T : Txt K mg) (M : Inits K) : FnOk P w K mg base CX0 3 f fd ["_law_one", "_law_two"] (spMake K) := by
  refine D.fn.ok scPl (fun vs H Q E h => ?_) (fun cdv A outer s H vs Q E hr h => ?_)
  · obtain ⟨v1, v2, rfl, _⟩ := h
    rfl
  · obtain ⟨v1, v2, rfl, k⟩ := h
    refine ⟨_, acc_block (vs := [v1, v2]) (pre := fun _ => True) (el := elMk K v1 v2) (m := "_law_made") scPl.nd rfl (by rfl) (by decide) (by decide) stMk head_pl len_pl (fun e he => ?_), ?_⟩
    · obtain ⟨c, hc, hB, hg, hd⟩ := good_ok (List.all_eq_true.mp good_pl e he)
      refine ⟨pe_wk (pe_place (T.rows c (row_mem hc)) (M c (row_mem hc)) (T.gl c (row_mem hc)) (by exact hg) hd hr rfl (by rfl) rfl (by rfl) hB) fun σ H Q q => ⟨q.1, fun a H' s e => q.2.2 _ H' s ⟨c, a, hc, rfl, e⟩⟩, ?_⟩
      obtain ⟨p, args, q, rfl, _⟩ := placeB_ok hB
      exact star_call
    · exact ⟨⟨none, rfl⟩, trivial, fun p us H' s hp e => k p us H' s hp (mds_of e rows_pl)⟩
theorem ok_named (D : Df K mg "_law_by_name" 83 f fd) (T : Txt K mg) (M : Inits K) : FnOk P w K mg base CX0 3 f fd ["_law_one", "_law_two"] (spMake K) := by
  refine D.fn.ok scNm (fun vs H Q E h => ?_) (fun cdv A outer s H vs Q E hr h => ?_)
  · obtain ⟨v1, v2, rfl, _⟩ := h
    rfl
  · obtain ⟨v1, v2, rfl, k⟩ := h
    refine ⟨_, acc_block (vs := [v1, v2]) (pre := fun _ => True) (el := elMk K v1 v2) (m := "_law_made") scNm.nd rfl (by rfl) (by decide) (by decide) stMk head_nm len_nm (fun e he => ?_), ?_⟩
    · obtain ⟨c, hc, hB, hg, hd⟩ := good_ok (List.all_eq_true.mp good_nm e he)
      refine ⟨pe_wk (pe_named (T.rows c (row_mem hc)) (M c (row_mem hc)) (T.gl c (row_mem hc)) (by exact hg) hd hr rfl (by rfl) rfl (by rfl) hB) fun σ H Q q => ⟨q.1, fun a H' s e => q.2.2 _ H' s ⟨c, a, hc, rfl, e⟩⟩, ?_⟩
      obtain ⟨p, args, q, rfl, _⟩ := nameB_ok hB
      exact star_call
    · exact ⟨⟨none, rfl⟩, trivial, fun p us H' s hp e => k p us H' s hp (mds_of e rows_nm)⟩
end
end K1
set_option Elab.async false
set_option linter.all false
set_option maxRecDepth 100000
set_option maxHeartbeats 4000000
namespace K1
open PySem PySem.Spec PyProof.Rows L2 GX HX
def tlN : Nat → Str
  | 0 => "ValueError"
  | 1 => "LookupError"
  | _ => "ArithmeticError"
/-- whether an error of the class c is one of the class named x -/
def isOf (c : Ci) (x : Str) : Bool := c.nm == x || (c.base == some x || tlN c.kind == x)
theorem inj_of {α β : Type} {f : α → β} : ∀ {l : List α}, (l.map f).Nodup → ∀ a ∈ l, ∀ b ∈ l, f a = f b → a = b
  | [], _, a, h, _, _, _ => nomatch h
  | x :: l, hn, a, ha, b, hb, e => by
    rw [List.map_cons, List.nodup_cons] at hn
    obtain ⟨hx, hl⟩ := hn
    rcases List.mem_cons.mp ha with h1 | h1
    · rcases List.mem_cons.mp hb with h2 | h2
      · rw [h1, h2]
      · exact absurd (List.mem_map.mpr ⟨b, h2, by rw [← e, h1]⟩) hx
    · rcases List.mem_cons.mp hb with h2 | h2
      · exact absurd (List.mem_map.mpr ⟨a, h1, by rw [e, h2]⟩) hx
      · exact inj_of hl a h1 b h2 e
theorem tabBase : ∀ c ∈ tab, ∀ b, c.base = some b → ∃ d ∈ tab, d.nm = b := by
  have h : (tab.all fun c => match c.base with
    | none => true
    | some b => tab.any fun d => d.nm == b) = true := by decide +kernel
  intro c hc b hb
  have := List.all_eq_true.mp h c hc
  rw [hb] at this
  obtain ⟨d, hd, e⟩ := List.any_eq_true.mp this
  exact ⟨d, hd, beq_iff_eq.mp e⟩
theorem tabTl : ∀ c ∈ tab, ∀ d ∈ tab, (tlN c.kind == d.nm) = false := by
  have h : (tab.all fun c => tab.all fun d => !(tlN c.kind == d.nm)) = true := by decide +kernel
  intro c hc d hd
  simpa using List.all_eq_true.mp (List.all_eq_true.mp h c hc) d hd
theorem tl_ref (k : Nat) (a : Addr) : (tlOf k).contains (.ref a) = false := by
  match k with
  | 0 => rfl
  | 1 => rfl
  | _ + 2 => rfl
section
variable {K : PySem.W.Frag} {mg : Str → Option Value}
theorem mro_in {c : Ci} (R : RowOk K c) (v : Value) : PySem.W.mroIn K (ga K c.nm) v = some ((mroOfC K c).contains v) := by
  obtain ⟨cd, h1, h2⟩ := Option.map_eq_some_iff.mp R.mro
  unfold PySem.W.mroIn
  rw [h1]
  show (if cd.mro.isEmpty = true then none else some (cd.mro.contains v)) = _
  rw [h2, if_neg (show ¬ (mroOfC K c).isEmpty = true from Bool.false_ne_true)]
theorem isa_own (T : Txt K mg) {c d : Ci} (hc : c ∈ tab) (hd : d ∈ tab) : PySem.W.kitOne K (.ref (ga K c.nm)) (.ref (ga K d.nm)) = some (isOf c d.nm) := by
  have inj : ∀ x ∈ tab, ∀ y ∈ tab, ga K x.nm = ga K y.nm → x = y := inj_of T.nd
  unfold PySem.W.kitOne
  by_cases e : ga K c.nm = ga K d.nm
  · have := inj c hc d hd e
    subst this
    rw [if_pos (beq_self_eq_true _)]
    unfold isOf
    rw [beq_self_eq_true, Bool.true_or]
  · have ne : ((Value.ref (ga K c.nm)) == Value.ref (ga K d.nm)) = false := beq_eq_false_iff_ne.mpr fun h => e (Value.ref.inj h)
    rw [ne, if_neg Bool.false_ne_true]
    have Rd := T.rows d hd
    have cs : (PySem.W.clsIn K (ga K d.nm)).isSome = true := by
      obtain ⟨cd, h1, h2⟩ := Option.map_eq_some_iff.mp Rd.mro
      rw [h1]
      rfl
    unfold PySem.W.kitCls
    show (if ((PySem.W.clsIn K (ga K d.nm)).isSome && PySem.W.typeIn K (.ref (ga K d.nm)) == some (.type "type")) = true then PySem.W.subIn K (.ref (ga K c.nm)) (.ref (ga K d.nm)) else none) = _
    rw [cs, Rd.ex.ty, if_pos (by decide)]
    show PySem.W.mroIn K (ga K c.nm) _ = _
    rw [mro_in (T.rows c hc)]
    refine congrArg some ?_
    have nn : (c.nm == d.nm) = false := beq_eq_false_iff_ne.mpr fun h => e (by rw [h])
    unfold isOf mroOfC
    rw [nn, tabTl c hc d hd, Bool.false_or, Bool.or_false, List.contains_cons]
    have ne2 : ((Value.ref (ga K d.nm)) == Value.ref (ga K c.nm)) = false := beq_eq_false_iff_ne.mpr fun h => e (Value.ref.inj h).symm
    rw [ne2, Bool.false_or]
    cases hb : c.base with
    | none => exact tl_ref _ _
    | some b =>
      obtain ⟨x, hx, rfl⟩ := tabBase c hc b hb
      show (Value.ref (ga K x.nm) :: tlOf c.kind).contains (.ref (ga K d.nm)) = (some x.nm == some d.nm)
      rw [List.contains_cons, tl_ref, Bool.or_false]
      by_cases q : x.nm = d.nm
      · rw [q, beq_self_eq_true, beq_self_eq_true]
      · have e1 : ((Value.ref (ga K d.nm)) == Value.ref (ga K x.nm)) = false := beq_eq_false_iff_ne.mpr fun h => q (by rw [inj d hd x hx (Value.ref.inj h)])
        have e2 : (some x.nm == some d.nm) = false := beq_eq_false_iff_ne.mpr fun h => q (Option.some.inj h)
        rw [e1, e2]
/-- of Python's own -/
def own3 : List (Str × String) := [("ValueError", "ValueError"), ("LookupError", "LookupError"), ("ArithmeticError", "ArithmeticError")]
theorem own3_meta : ∀ p ∈ own3, PySem.W.kitMeta p.2 = true ∧ bootBuiltins p.1 = some (.type p.2) ∧ p.1 ≠ "__name__" ∧ (p.1 == ("__debug__" : Str)) = false ∧ p.1 ∈ builtins := by
  have h : (own3.all fun p => PySem.W.kitMeta p.2 && (decide (bootBuiltins p.1 = some (.type p.2)) && (decide (p.1 ≠ "__name__") && ((p.1 == ("__debug__" : Str)) == false && decide (p.1 ∈ builtins))))) = true := by decide +kernel
  intro p hp
  obtain ⟨h1, h⟩ := ba (List.all_eq_true.mp h p hp)
  obtain ⟨h2, h⟩ := ba h
  obtain ⟨h3, h⟩ := ba h
  obtain ⟨h4, h5⟩ := ba h
  exact ⟨h1, of_decide_eq_true h2, of_decide_eq_true h3, beq_iff_eq.mp h4, of_decide_eq_true h5⟩
theorem isa_ty (T : Txt K mg) {c : Ci} (hc : c ∈ tab) {p : Str × String} (hp : p ∈ own3) : PySem.W.kitOne K (.ref (ga K c.nm)) (.type p.2) = some (isOf c p.1) := by
  unfold PySem.W.kitOne
  rw [if_neg (by intro h; cases beq_iff_eq.mp h)]
  unfold PySem.W.kitCls
  show (if PySem.W.kitMeta p.2 = true then PySem.W.subIn K (.ref (ga K c.nm)) (.type p.2) else none) = _
  rw [if_pos (own3_meta p hp).1]
  show PySem.W.mroIn K (ga K c.nm) _ = _
  rw [mro_in (T.rows c hc)]
  refine congrArg some ?_
  have h : (tab.all fun c => own3.all fun p => (tlOf c.kind).contains (.type p.2) == isOf c p.1) = true := by decide +kernel
  have h := beq_iff_eq.mp (List.all_eq_true.mp (List.all_eq_true.mp h c hc) p hp)
  rw [← h]
  unfold mroOfC
  rw [List.contains_cons]
  cases c.base with
  | none => rfl
  | some b =>
    show (_ || (Value.ref (ga K b) :: tlOf c.kind).contains (.type p.2)) = _
    rw [List.contains_cons]
    rfl
end
def isNm : Expr → Option Str
  | .Call (.Name f _) [.Name y _, .Name x _] [] _ => if f == "isinstance" && y == "_law_e" then some x else none
  | _ => none
theorem isNm_ok {e : Expr} {x : Str} (h : isNm e = some x) : ∃ p1 p2 p3 p4, e = .Call (.Name "isinstance" p1) [.Name "_law_e" p2, .Name x p3] [] p4 := by
  unfold isNm at h
  split at h
  · split at h
    · rename_i q
      obtain ⟨h1, h2⟩ := ba q
      rw [beq_iff_eq.mp h1, beq_iff_eq.mp h2]
      cases h
      exact ⟨_, _, _, _, rfl⟩
    · cases h
  · cases h
def goodI (sc : Scope) (e : Expr) : Bool := match isNm e with
  | some x => ((tab.any fun c => c.nm == x && (x == ("__debug__" : Str)) == false) || own3.any fun p => p.1 == x) && decide (sc.names.lookup x = some .globalImplicit)
  | none => false
theorem goodI_ok {sc : Scope} {e : Expr} (h : goodI sc e = true) : ∃ x, isNm e = some x ∧ ((∃ c ∈ tab, c.nm = x ∧ (x == ("__debug__" : Str)) = false) ∨ ∃ p ∈ own3, p.1 = x) ∧ sc.names.lookup x = some .globalImplicit := by
  unfold goodI at h
  split at h
  · rename_i x hx
    obtain ⟨h1, h2⟩ := ba h
    refine ⟨x, hx, ?_, of_decide_eq_true h2⟩
    rcases Bool.or_eq_true_iff.mp h1 with h | h
    · obtain ⟨c, hc, e⟩ := List.any_eq_true.mp h
      obtain ⟨e1, e2⟩ := ba e
      exact .inl ⟨c, hc, beq_iff_eq.mp e1, beq_iff_eq.mp e2⟩
    · obtain ⟨c, hc, e⟩ := List.any_eq_true.mp h
      exact .inr ⟨c, hc, beq_iff_eq.mp e⟩
  · cases h
def elIs (c : Ci) : Expr → V → Hp → Prop := fun e u _ => ∃ x, isNm e = some x ∧ u = .bl (isOf c x)
theorem bools_of {c : Ci} {H : Hp} : ∀ {es us} {xs : List Str}, Els (elIs c) es us H → es.map isNm = xs.map some → us = xs.map fun x => .bl (isOf c x)
  | [], [], [], _, _ => rfl
  | e :: es, u :: us, x :: xs, q, h => by
    obtain ⟨⟨y, h1, h2⟩, q2⟩ := q
    simp only [List.map_cons, List.cons.injEq] at h
    rw [h1] at h
    cases h.1
    rw [h2, bools_of q2 h.2]
    rfl
  | [], _ :: _, _, q, _ => q.elim
  | _ :: _, [], _, q, _ => q.elim
  | [], [], _ :: _, _, h => nomatch h
  | _ :: _, _ :: _, [], _, h => nomatch h
def spIs (K : PySem.W.Frag) (xs : List Str) : Sp := fun vs H Q _ => ∃ (a : Addr) (c : Ci) (fs : List (Str × V)), vs = [.ref a] ∧ c ∈ tab ∧ EAt H a (ga K c.nm) fs ∧ ∀ p H', Same H H' → H' p = some (.lst (xs.map fun x => .bl (isOf c x))) → Q (.ref p) H'
section
variable {P : Program} {w : World} {K : PySem.W.Frag} {mg : Str → Option Value} {base : Heap} {f : Addr} {fd : FuncData}
theorem el_is {X : Cx} (A : ClsA X.K) (T : Txt X.K X.mg) {c : Ci} (hc : c ∈ tab) {a : Addr} {fs : List (Str × V)} {e : Expr} (h : goodI X.env.scope e = true) (h0 : X.N[0]? = some ("_law_e" : Str)) (l0 : X.env.scope.names.lookup ("_law_e" : Str) = some .local)
    (hI : Gl X "isinstance") (gl : ∀ x, X.env.scope.names.lookup x = some .globalImplicit → Gl X x) : Elem X [.ref a] (fun H => EAt H a (ga X.K c.nm) fs) (elIs c) e := by
  obtain ⟨x, hx, hw, hg⟩ := goodI_ok h
  obtain ⟨p1, p2, p3, p4, rfl⟩ := isNm_ok hx
  refine ⟨?_, star_call⟩
  rcases hw with ⟨d, hd, rfl, hdb⟩ | ⟨p, hp, rfl⟩
  · refine pe_wk (pe_callB (call_isV A) hI (T.free "isinstance" (by decide +kernel)) (by decide +kernel) (pa_cons (pe_var h0 (.inl l0)) (pa_cons (pe_glob (v := .ref (ga X.K d.nm)) (gl _ hg) (T.gl d hd) rfl hdb) pa_nil))) fun σ H Q q => ?_
    obtain ⟨⟨acc, rfl⟩, ea, k⟩ := q
    exact ⟨_, rfl, a, _, fs, _, _, _, rfl, ea, ⟨_, _, (T.rows c hc).ex⟩, .own _, isa_own T hc hd, k _ _ (Same.refl _) ⟨_, hx, rfl⟩⟩
  · obtain ⟨_, hb, hn, hdb, hm⟩ := own3_meta p hp
    refine pe_wk (pe_callB (call_isV A) hI (T.free "isinstance" (by decide +kernel)) (by decide +kernel) (pa_cons (pe_var h0 (.inl l0)) (pa_cons (pe_bltn (v := .ty p.2) (gl _ hg) (T.free _ hm) hb rfl hn hdb) pa_nil))) fun σ H Q q => ?_
    obtain ⟨⟨acc, rfl⟩, ea, k⟩ := q
    exact ⟨_, rfl, a, _, fs, _, _, _, rfl, ea, ⟨_, _, (T.rows c hc).ex⟩, .ty _, isa_ty T hc hp, k _ _ (Same.refl _) ⟨_, hx, rfl⟩⟩
theorem stIs {K : PySem.W.Frag} {c : Ci} {a : Addr} {fs : List (Str × V)} : Stays (fun H => EAt H a (ga K c.nm) fs) (elIs c) := ⟨fun s h => EAt.same s h, fun _ h => h⟩
abbrev NIs : List Str := ["_law_e", "_law_found"]
theorem ok_is {x : Str} {i : Nat} {xs : List Str} (D : Df K mg x i f fd) (T : Txt K mg) (S : FnScope NIs ["_law_e"] (defScope (top i))) (hB : headB "_law_found" (defBody (top i)) = true) (hz : (headEs (defBody (top i))).length ≤ 1000)
    (hg : ((headEs (defBody (top i))).all fun e => goodI (defScope (top i)) e) = true) (hx : (headEs (defBody (top i))).map isNm = xs.map some)
    (l0 : (defScope (top i)).names.lookup ("_law_e" : Str) = some .local) (l1 : (defScope (top i)).names.lookup ("_law_found" : Str) = some .local) (hI : (defScope (top i)).names.lookup ("isinstance" : Str) = some .globalImplicit) :
    FnOk P w K mg base CX0 1 f fd ["_law_e"] (spIs K xs) := by
  refine D.fn.ok S (fun vs H Q E h => ?_) (fun cdv A outer s H vs Q E hr h => ?_)
  · obtain ⟨a, c, fs, rfl, _⟩ := h
    rfl
  · obtain ⟨a, c, fs, rfl, hc, ea, k⟩ := h
    refine ⟨_, acc_block (vs := [.ref a]) (pre := fun H => EAt H a (ga K c.nm) fs) (el := elIs c) (m := "_law_found") S.nd rfl (by exact l1) (by decide) (by decide) stIs hB hz (fun e he => el_is (clsA K) T hc (List.all_eq_true.mp hg e he) rfl (by exact l0) (by exact hI) (fun _ h => h)), ?_⟩
    refine ⟨⟨none, rfl⟩, ea, fun p us H' s hp e => k p H' s ?_⟩
    rw [hp, bools_of e hx]
def xs1 : List Str := ["InvalidNumber", "InvalidKind", "InvalidText", "InvalidIndex", "InvalidOrder", "InvalidDeed", "InvalidMode", "InvalidName", "InvalidWish", "InvalidLine", "NotANumber", "NotAPoly", "NotAColumn", "NotAGrid", "NotAGroup", "NotLooks", "NotABench"]
def xs2 : List Str := ["InvalidCoefficients", "InvalidEntries", "InvalidRows", "InvalidColumns", "InvalidIndexes", "InvalidGrids", "InvalidPoints", "InvalidBottoms", "InvalidPolys", "InvalidRun", "InvalidPairs", "InvalidPlaces", "InvalidLog"]
def xs3 : List Str := ["NotAField", "NotWhole", "NotOrdered", "NotRests", "Unlike", "NotLed", "NotSquare", "InvalidShape"]
def xs4 : List Str := tab3.map (·.nm)
def xs5 : List Str := ["WrongValue", "WrongName", "NoAnswer", "ValueError", "LookupError", "ArithmeticError"]
theorem sI1 : FnScope NIs ["_law_e"] (defScope (top 76)) := ⟨rfl, rfl, rfl, by decide +kernel, rfl, by decide +kernel, by decide +kernel⟩
theorem sI2 : FnScope NIs ["_law_e"] (defScope (top 77)) := ⟨rfl, rfl, rfl, by decide +kernel, rfl, by decide +kernel, by decide +kernel⟩
theorem sI3 : FnScope NIs ["_law_e"] (defScope (top 78)) := ⟨rfl, rfl, rfl, by decide +kernel, rfl, by decide +kernel, by decide +kernel⟩
theorem sI4 : FnScope NIs ["_law_e"] (defScope (top 79)) := ⟨rfl, rfl, rfl, by decide +kernel, rfl, by decide +kernel, by decide +kernel⟩
theorem sI5 : FnScope NIs ["_law_e"] (defScope (top 80)) := ⟨rfl, rfl, rfl, by decide +kernel, rfl, by decide +kernel, by decide +kernel⟩
theorem ok_is1 (D : Df K mg "_law_first_givens" 76 f fd) (T : Txt K mg) : FnOk P w K mg base CX0 1 f fd ["_law_e"] (spIs K xs1) := ok_is D T sI1 (by decide +kernel) (by decide +kernel) (by decide +kernel) (by decide +kernel) (by rfl) (by rfl) (by rfl)
theorem ok_is2 (D : Df K mg "_law_indexes" 77 f fd) (T : Txt K mg) : FnOk P w K mg base CX0 1 f fd ["_law_e"] (spIs K xs2) := ok_is D T sI2 (by decide +kernel) (by decide +kernel) (by decide +kernel) (by decide +kernel) (by rfl) (by rfl) (by rfl)
theorem ok_is3 (D : Df K mg "_law_kinds" 78 f fd) (T : Txt K mg) : FnOk P w K mg base CX0 1 f fd ["_law_e"] (spIs K xs3) := ok_is D T sI3 (by decide +kernel) (by decide +kernel) (by decide +kernel) (by decide +kernel) (by rfl) (by rfl) (by rfl)
theorem ok_is4 (D : Df K mg "_law_answers" 79 f fd) (T : Txt K mg) : FnOk P w K mg base CX0 1 f fd ["_law_e"] (spIs K xs4) := ok_is D T sI4 (by decide +kernel) (by decide +kernel) (by decide +kernel) (by decide +kernel) (by rfl) (by rfl) (by rfl)
theorem ok_is5 (D : Df K mg "_law_bases" 80 f fd) (T : Txt K mg) : FnOk P w K mg base CX0 1 f fd ["_law_e"] (spIs K xs5) := ok_is D T sI5 (by decide +kernel) (by decide +kernel) (by decide +kernel) (by decide +kernel) (by rfl) (by rfl) (by rfl)
/-! ### _law_classes -/
theorem scCls : FnScope NIs ["_law_e"] (defScope (top 81)) := ⟨rfl, rfl, rfl, by decide +kernel, rfl, by decide +kernel, by decide +kernel⟩
def xsA : List Str := xs1 ++ xs2 ++ xs3 ++ xs4 ++ xs5
variable {f1 f2 f3 f4 f5 : Addr} {fd1 fd2 fd3 fd4 fd5 : FuncData}
theorem ok_cls (D : Df K mg "_law_classes" 81 f fd) (T : Txt K mg) (D1 : Df K mg "_law_first_givens" 76 f1 fd1) (D2 : Df K mg "_law_indexes" 77 f2 fd2) (D3 : Df K mg "_law_kinds" 78 f3 fd3) (D4 : Df K mg "_law_answers" 79 f4 fd4) (D5 : Df K mg "_law_bases" 80 f5 fd5) :
    FnOk P w K mg base CX0 2 f fd ["_law_e"] (spIs K xsA) := by
  have G1 : FnOk P w K mg base CX0 1 f1 fd1 ["_law_e"] (spIs K xs1) := ok_is1 D1 T
  have G2 : FnOk P w K mg base CX0 1 f2 fd2 ["_law_e"] (spIs K xs2) := ok_is2 D2 T
  have G3 : FnOk P w K mg base CX0 1 f3 fd3 ["_law_e"] (spIs K xs3) := ok_is3 D3 T
  have G4 : FnOk P w K mg base CX0 1 f4 fd4 ["_law_e"] (spIs K xs4) := ok_is4 D4 T
  have G5 : FnOk P w K mg base CX0 1 f5 fd5 ["_law_e"] (spIs K xs5) := ok_is5 D5 T
  have b1 := D1.fn.binds (ps := ["_law_e"]) fun _ _ _ _ _ _ us hl => match us, hl with | [_], _ => rfl
  have b2 := D2.fn.binds (ps := ["_law_e"]) fun _ _ _ _ _ _ us hl => match us, hl with | [_], _ => rfl
  have b3 := D3.fn.binds (ps := ["_law_e"]) fun _ _ _ _ _ _ us hl => match us, hl with | [_], _ => rfl
  have b4 := D4.fn.binds (ps := ["_law_e"]) fun _ _ _ _ _ _ us hl => match us, hl with | [_], _ => rfl
  have b5 := D5.fn.binds (ps := ["_law_e"]) fun _ _ _ _ _ _ us hl => match us, hl with | [_], _ => rfl
  refine D.fn.ok scCls (fun vs H Q E h => ?_) (fun cdv A outer s H vs Q E hr h => ?_)
  · obtain ⟨a, c, fs, rfl, _⟩ := h
    rfl
  · obtain ⟨a, c, fs, rfl, hc, ea, k⟩ := h
    refine ⟨_, (pss_cons (ps_set (i := 1) scCls.nd rfl (.inl rfl) (pe_op op_cat (pe_op op_cat (pe_call G1 hr (by rfl) D1.gl D1.fn.kp b1 .nil pass0 (pa_cons (pv 0) pa_nil)) (pe_call G2 hr (by rfl) D2.gl D2.fn.kp b2 .nil pass0 (pa_cons (pv 0) pa_nil))) (pe_call G3 hr (by rfl) D3.gl D3.fn.kp b3 .nil pass0 (pa_cons (pv 0) pa_nil))))
      (pss_one (ps_ret (pe_op op_cat (pe_op op_cat (pv 1) (pe_call G4 hr (by rfl) D4.gl D4.fn.kp b4 .nil pass0 (pa_cons (pv 0) pa_nil))) (pe_call G5 hr (by rfl) D5.gl D5.fn.kp b5 .nil pass0 (pa_cons (pv 0) pa_nil)))))), ?_⟩
    simp only [L2.start, tSeq, tNext, tAsg, tIf, tIfS, tTest, tOp, rI0, rI, tVar, tCB, tCons, tNil, tC, gName, tRet, tRetN, cxOf, List.map_cons, List.map_nil, List.length_cons, List.length_nil, List.cons_append, List.nil_append, List.replicate, List.getElem?_cons_succ, List.getElem?_cons_zero, Option.some.injEq, exists_eq_left', exists_eq_left, V.int.injEq, V.bl.injEq, V.ref.injEq, V.str.injEq, List.cons.injEq, and_true, true_and, exists_and_left, exists_and_right, reduceCtorEq, false_and, exists_false, or_false, false_or, List.set_cons_zero, List.set_cons_succ, tSl, rSlL, tNoPart, tPart, tOr, tAnd, tNot, rIxL, rIxT, gTup, gCons, gNil, gSub, rSetL, tLst, tTup, iList, iRng1, tPar, exists_const, Int.reduceEq, Int.reduceNe, Nat.reduceAdd, exists_eq_right, exists_eq, exists_eq', if_true, if_false, ite_true, ite_false, Bool.false_eq_true, ne_eq, not_false_eq_true, tB, tNotV, tIsN, tCall]
    have e1 : ∀ {H H' : Hp} {p q : Addr} {o : HO}, Same H H' → H p = some o → H' p = some o := fun s h => s _ _ h
    refine ⟨a, c, fs, rfl, hc, ea, fun p1 H1 s1 h1 => ⟨a, c, fs, rfl, hc, EAt.same s1 ea, fun p2 H2 s2 h2 => ?_⟩⟩
    refine ⟨p1, p2, _, _, rfl, rfl, s2 _ _ h1, h2, by rw [List.length_map, List.length_map]; exact Nat.le_of_lt (small1000 (by decide)), fun p3 h3 => ?_⟩
    refine ⟨a, c, fs, rfl, hc, EAt.same (s1.trans (s2.trans (same_new h3))) ea, fun p4 H4 s4 h4 => ?_⟩
    refine ⟨p3, p4, _, _, rfl, rfl, s4 _ _ upd_same, h4, by rw [List.length_append, List.length_map, List.length_map, List.length_map]; exact Nat.le_of_lt (small1000 (by decide)), fun p5 h5 => ?_⟩
    refine ⟨a, c, fs, rfl, hc, EAt.same (s1.trans (s2.trans ((same_new h3).trans (s4.trans (same_new h5))))) ea, fun p6 H6 s6 h6 => ?_⟩
    refine ⟨p5, p6, _, _, rfl, rfl, s6 _ _ upd_same, h6, by rw [List.length_append, List.length_append, List.length_map, List.length_map, List.length_map, List.length_map]; exact Nat.le_of_lt (small1000 (by decide)), fun p7 h7 => ?_⟩
    refine ⟨a, c, fs, rfl, hc, EAt.same (s1.trans (s2.trans ((same_new h3).trans (s4.trans ((same_new h5).trans (s6.trans (same_new h7))))))) ea, fun p8 H8 s8 h8 => ?_⟩
    refine ⟨p7, p8, _, _, rfl, rfl, s8 _ _ upd_same, h8, by simp only [List.length_append, List.length_map]; exact Nat.le_of_lt (small1000 (by decide)), fun p9 h9 => ?_⟩
    refine k p9 _ (s1.trans (s2.trans ((same_new h3).trans (s4.trans ((same_new h5).trans (s6.trans ((same_new h7).trans (s8.trans (same_new h9))))))))) ?_
    rw [upd_same]
    unfold xsA
    simp only [List.map_append]
end
end K1
set_option Elab.async false
set_option linter.all false
set_option maxRecDepth 100000
set_option maxHeartbeats 4000000
namespace HX
open PySem PySem.Spec PyProof.Rows L2 GX
/-! ### pieces that stay folded -/
def tCat (ta tb : TE) : TE := fun σ H Q => ta σ H fun x H1 => tb σ H1 fun y H2 => rCat x y H2 Q
theorem pe_cat {X : Cx} {a b : Expr} {ta tb : TE} {pos : Pos} (ha : PE X a ta) (hb : PE X b tb) : PE X (.BinOp a .Add b pos) (tCat ta tb) := pe_op op_cat ha hb
def tRep (K : PySem.W.Frag) (te : TE) : TE := tCB (rRepr K) (tCons te tNil)
theorem pe_rep {X : Cx} {e : Expr} {te : TE} {p pos : Pos} (hgd : X.A.guards = some []) (hu : X.A.units + 64 < cLine) (hf : X.mg "repr" = none) (hg : Gl X "repr") (ha : PA X [e] (tCons te tNil))
    (he : starEach [e] X.env = (false, eval e X.env) :: starEach [] X.env := by rfl) (hpl : (backTo pos (starEach [] X.env)).any (·.1) = false := by rfl) : PE X (.Call (.Name "repr" p) [e] [] pos) (tRep X.K te) :=
  pe_callB (call_reprD hgd hu) hg hf (by decide +kernel) ha (by decide) (by decide) he hpl
theorem asgN {te : TE} {i : Nat} : tAsg te (gName i) = fun D σ H => te σ H fun x H1 => D.nx (σ.set i (some x)) H1 := rfl
theorem rd_var {σ : L2.St} {i : Nat} {v : V} {H : Hp} {Q : VK} (h : σ[i]? = some (some v)) (q : Q v H) : tVar i σ H Q := ⟨v, h, q⟩
/-- an error with the field f -/
def ErrF (K : PySem.W.Frag) (H : Hp) (u : V) (f : Str) (v : V) : Prop := ∃ (a C d : Addr) (fs : List (Str × V)), u = .ref a ∧ H a = some (exo a C (some d)) ∧ H d = some (exd d fs) ∧ (∃ tl n, ExC K tl n C) ∧ PySem.W.findIn K (.ref C) f = some none ∧ fs.lookup f = some v
theorem ErrF.same {K : PySem.W.Frag} {H H' : Hp} {u v : V} {f : Str} (s : Same H H') (h : ErrF K H u f v) : ErrF K H' u f v := by
  obtain ⟨a, C, d, fs, h1, h2, h3, h4⟩ := h
  exact ⟨a, C, d, fs, h1, s _ _ h2, s _ _ h3, h4⟩
theorem rd_fld {K : PySem.W.Frag} {te : TE} {σ : L2.St} {H : Hp} {u v : V} {f : Str} {d : PyData} {Q : VK} (h : ErrF K H u f v) (hd : Dp K H v d) (hs : Shw d) (ht : ∀ Q' : VK, Q' u H → te σ H Q') (q : Q (.str d.shown) H) : tRep K (tFldE K f te) σ H Q := by
  refine ht _ ?_
  obtain ⟨a, C, dd, fs, rfl, h2, h3, h4, h5, h6⟩ := h
  exact ⟨a, C, dd, fs, v, rfl, h2, h3, h4, h5, h6, v, d, rfl, hd, hs, q⟩
theorem rd_ix {K : PySem.W.Frag} {σ : L2.St} {H : Hp} {p : Addr} {us : List V} {u : V} {i j : Nat} (hσ : σ[i]? = some (some (.ref p))) (hp : H p = some (.lst us)) (hj : us[j]? = some u) : ∀ Q' : VK, Q' u H → tOp (rIxL K) (tVar i) (tC (.int j)) σ H Q' := fun Q' q =>
  ⟨_, hσ, p, us, j, u, rfl, rfl, SqL.of hp, atI_nat hj, q⟩
theorem wipe_one {σ : L2.St} {i : Nat} {x : Option V} : wipe ((wipe σ [i]).set i x) [i] = wipe σ [i] := by
  show ((σ.set i none).set i x).set i none = σ.set i none
  rw [List.set_set, List.set_set]
/-- [te for x in a list], the heap but for the result as it was -/
theorem lc_pure {K : PySem.W.Frag} {a : Addr} {xs : List V} {te : TE} {i : Nat} {σ : L2.St} {H1 : Hp} {D : Addr} {Qd : Hp → Prop} (hD : H1 D = none) (hS : SqL K H1 a xs) (hz : xs.length ≤ 1000) (f : Nat → V)
    (hs : ∀ j x, xs[j]? = some x → ∀ H', Same H1 H' → ∀ Q : VK, Q (f j) H' → te ((wipe σ [i]).set i (some x)) H' Q) (hd : Qd (upd H1 D (.lst ((List.range xs.length).map f)))) :
    ∃ W : Nat → Nat → Hp → Prop, (∃ m, W 0 m (upd H1 D (.lst []))) ∧ ∀ j m H, W j m H →
      ((Itl K a).stop j H ∧ Qd H) ∨ ((Itl K a).go j H ∧ ∃ Nx : Hp → Prop, (∀ H', Nx H' → ∃ m', m' < m ∧ W (j + 1) m' H') ∧ ∀ x H', (Itl K a).yld j H x H' → gName i x (wipe σ [i]) H' fun σ2 H2 => wipe σ2 [i] = wipe σ [i] ∧ tYes σ2 H2 fun b H3 =>
        if b = true then te σ2 H3 fun y H4 => ∃ acc, H4 D = some (.lst acc) ∧ acc.length < sizeLine ∧ Nx (upd H4 D (.lst (acc ++ [y]))) else Nx H3) := by
  refine lc_list (xs := xs) (fun j H => H = upd H1 D (.lst ((List.range j).map f))) rfl (fun j H _ h => ?_) (fun j x H hx h => ?_) (fun H h => ?_)
  · rw [h]
    exact (K1.same_new hD).seq hS
  · refine ⟨wipe_one, ?_⟩
    subst h
    simp only [tYes, ↓reduceIte]
    refine hs j x hx _ (K1.same_new hD) _ ⟨_, upd_same, ?_, ?_⟩
    · rw [List.length_map, List.length_range]
      exact small1000 (Nat.le_trans (Nat.le_of_lt (List.getElem?_eq_some_iff.mp hx).1) hz)
    · show upd (upd H1 D _) D _ = _
      rw [List.range_succ, List.map_append]
      funext b
      by_cases hb : b = D
      · rw [hb, upd_same, upd_same]
        rfl
      · rw [upd_ne hb, upd_ne hb, upd_ne hb]
  · rw [h]
    exact hd
theorem rep_map {α : Type} (n : Nat) (x : α) : (List.range n).map (fun _ => x) = List.replicate n x := by
  rw [List.map_const', List.length_range]
/-- [repr(x.f) for x in made[lo:hi]] -/
theorem rd_comp {K : PySem.W.Frag} {σ : L2.St} {H : Hp} {p : Addr} {us : List V} {i lo n : Nat} {lov hiv : Option Int} {tl th : TO} {f : Str} {v : V} {d : PyData} {Q : VK} (hσ : σ[0]? = some (some (.ref p))) (hi : i < σ.length) (hp : H p = some (.lst us))
    (htl : ∀ (H : Hp) (Q' : Option Int → Hp → Prop), Q' lov H → tl σ H Q') (hth : ∀ (H : Hp) (Q' : Option Int → Hp → Prop), Q' hiv H → th σ H Q') (hcut : cutV us lov hiv = (us.drop lo).take n) (hn : lo + n ≤ us.length) (hz : us.length ≤ 1000)
    (hall : ∀ j, j < n → ∀ x, us[lo + j]? = some x → ErrF K H x f v) (hd : Dp K H v d) (hs : Shw d) (k : ∀ D H', Same H H' → H' D = some (.lst (List.replicate n (.str d.shown))) → Q (.ref D) H') :
    tLc (iList K (tSl (rSlL K) (tVar 0) tl th)) (gName i) tYes (tRep K (tFldE K f (tVar i))) [i] σ H Q := by
  refine ⟨_, hσ, htl _ _ (hth _ _ ⟨p, us, rfl, SqL.of hp, fun q hq => ⟨q, rfl, ⟨_, SqL.of upd_same⟩, fun D hD => ?_⟩⟩)⟩
  have ln : (cutV us lov hiv).length = n := by
    rw [hcut, List.length_take, List.length_drop]
    omega
  refine lc_pure (xs := cutV us lov hiv) hD (SqL.of upd_same) (by rw [ln]; omega) (fun _ => .str d.shown) (fun j x hx H' hs' Q' q => ?_) ?_
  · have s1 : Same H H' := (K1.same_new hq).trans hs'
    have hjn : j < n := by
      rw [← ln]
      exact (List.getElem?_eq_some_iff.mp hx).1
    rw [hcut, List.getElem?_take, if_pos hjn, List.getElem?_drop] at hx
    refine rd_fld (ErrF.same s1 (hall j hjn x hx)) (dp_same s1 d v hd) hs (fun Q2 q2 => rd_var ?_ q2) q
    show ((σ.set i none).set i (some x))[i]? = some (some x)
    rw [List.getElem?_set_self (by rw [List.length_set]; exact hi)]
  · refine k D _ ((K1.same_new hq).trans (K1.same_new hD)) ?_
    rw [upd_same, ln, rep_map]
theorem rd_cat {l b : Addr} {xs zs : List V} {H : Hp} {Q : VK} (hx : H l = some (.lst xs)) (hz : H b = some (.lst zs)) (hn : xs.length + zs.length ≤ 1000) (k : ∀ p H', Same H H' → H' p = some (.lst (xs ++ zs)) → Q (.ref p) H') : rCat (.ref l) (.ref b) H Q :=
  ⟨l, b, xs, zs, rfl, rfl, hx, hz, Nat.le_of_lt (small1000 hn), fun p hp => k p _ (K1.same_new hp) upd_same⟩
end HX
namespace K1
open PySem PySem.Spec PyProof.Rows L2 GX HX
theorem fls2 : ∀ c ∈ t57, c.fl = [] ∨ c.fl ∈ fls := by decide +kernel
theorem t57tab : ∀ c ∈ t57, c ∈ tab := by decide +kernel
/-- the first field -/
theorem Mds.f1 {K : PySem.W.Frag} {mg : Str → Option Value} (T : Txt K mg) {v1 v2 : V} {us : List V} {H : Hp} (h : Mds K v1 v2 t57 us H) {i : Nat} {c : Ci} {f : Str} (hc : t57[i]? = some c) (hf : c.fl.head? = some f) {x : V} (hx : us[i]? = some x) : ErrF K H x f v1 := by
  obtain ⟨a, ha, e⟩ := Mds.at h i c hc
  rw [ha] at hx
  cases hx
  have m57 := List.mem_of_getElem? hc
  have R := T.rows c (t57tab c m57)
  rcases fls2 c m57 with z | z
  · rw [z] at hf
    cases hf
  · rcases e with ⟨e0, _⟩ | ⟨d, e1, e2⟩
    · rcases fls_in z with q | q | q | q | q | q <;> (rw [q] at e0; cases e0)
    · refine ⟨a, _, d, _, rfl, e1, e2, ⟨_, _, R.ex⟩, R.no f ?_, ?_⟩
      · rcases fls_in z with q | q | q | q | q | q <;> (rw [q] at hf ⊢; cases hf; exact List.mem_cons_self ..)
      · rcases fls_in z with q | q | q | q | q | q <;> (rw [q] at hf ⊢; cases hf; rfl)
/-- the second one -/
theorem Mds.f2 {K : PySem.W.Frag} {mg : Str → Option Value} (T : Txt K mg) {v1 v2 : V} {us : List V} {H : Hp} (h : Mds K v1 v2 t57 us H) {i : Nat} {c : Ci} {f : Str} (hc : t57[i]? = some c) (hf : c.fl[1]? = some f) {x : V} (hx : us[i]? = some x) : ErrF K H x f v2 := by
  obtain ⟨a, ha, e⟩ := Mds.at h i c hc
  rw [ha] at hx
  cases hx
  have m57 := List.mem_of_getElem? hc
  have R := T.rows c (t57tab c m57)
  rcases fls2 c m57 with z | z
  · rw [z] at hf
    cases hf
  · rcases e with ⟨e0, _⟩ | ⟨d, e1, e2⟩
    · rcases fls_in z with q | q | q | q | q | q <;> (rw [q] at e0; cases e0)
    · refine ⟨a, _, d, _, rfl, e1, e2, ⟨_, _, R.ex⟩, R.no f (List.mem_of_getElem? hf), ?_⟩
      rcases fls_in z with q | q | q | q | q | q <;> (rw [q] at hf ⊢; cases hf; try rfl)
theorem seg_f {n lo : Nat} {f : Str} (h : ((List.range n).all fun j => decide ((t57[lo + j]?).bind (fun c => c.fl.head?) = some f)) = true) : ∀ j, j < n → ∃ c, t57[lo + j]? = some c ∧ c.fl.head? = some f := by
  intro j hj
  have := of_decide_eq_true (List.all_eq_true.mp h j (List.mem_range.mpr hj))
  obtain ⟨c, h1, h2⟩ := Option.bind_eq_some_iff.mp this
  exact ⟨c, h1, h2⟩
theorem Mds.seg {K : PySem.W.Frag} {mg : Str → Option Value} (T : Txt K mg) {v1 v2 : V} {us : List V} {H : Hp} (h : Mds K v1 v2 t57 us H) {n lo : Nat} {f : Str} (hb : ((List.range n).all fun j => decide ((t57[lo + j]?).bind (fun c => c.fl.head?) = some f)) = true) :
    ∀ j, j < n → ∀ x, us[lo + j]? = some x → ErrF K H x f v1 := by
  intro j hj x hx
  obtain ⟨c, h1, h2⟩ := seg_f hb j hj
  exact Mds.f1 T h h1 h2 hx
theorem cut_to {us : List V} (h : us.length = 57) (n : Nat) (hn : n ≤ 57) : cutV us none (some (n : Int)) = (us.drop 0).take n := by
  unfold cutV
  rw [HT.sIx_none, HT.sIx_nat, h, Nat.min_eq_left hn, Nat.sub_zero]
theorem cut_mid {us : List V} (h : us.length = 57) (lo n : Nat) (hn : lo + n ≤ 57) : cutV us (some (lo : Int)) (some ((lo + n : Nat) : Int)) = (us.drop lo).take n := by
  unfold cutV
  rw [HT.sIx_nat, HT.sIx_nat, h, Nat.min_eq_left hn, Nat.min_eq_left (by omega), Nat.add_sub_cancel_left]
def spAttr (K : PySem.W.Frag) : Sp := fun vs H Q _ => ∃ (p : Addr) (us : List V) (v1 v2 : V) (d1 d2 : PyData), vs = [.ref p] ∧ H p = some (.lst us) ∧ Mds K v1 v2 t57 us H ∧ Dp K H v1 d1 ∧ Dp K H v2 d2 ∧ Shw d1 ∧ Shw d2 ∧
  ∀ q q1 q2 H', Same H H' → H' q = some (.tup [.ref q1, .ref q2]) → H' q1 = some (.lst (List.replicate 50 (.str d1.shown))) → H' q2 = some (.lst (List.replicate 3 (.str d2.shown))) → Q (.ref q) H'
abbrev NAt : List Str := ["_law_made", "_law_found", "_law_e"]
theorem scAt : FnScope NAt ["_law_made"] (defScope (top 84)) := ⟨rfl, rfl, rfl, by decide +kernel, rfl, by decide +kernel, by decide +kernel⟩
section
variable {P : Program} {w : World} {K : PySem.W.Frag} {mg : Str → Option Value} {base : Heap} {f : Addr} {fd : FuncData}
theorem ok_attr (D : Df K mg "_law_attributes" 84 f fd) (T : Txt K mg) : FnG P w K mg base CX0 1 f fd ["_law_made"] (spAttr K) := by
  refine fnG_of D.fn scAt (fun vs H Q E h => ?_) (fun cdv A outer s H vs Q E hr hgd h => ?_)
  · obtain ⟨p, us, v1, v2, d1, d2, rfl, _⟩ := h
    rfl
  · obtain ⟨p, us, v1, v2, d1, d2, rfl, hp, hm, hd1, hd2, hs1, hs2, k⟩ := h
    have ln : us.length = 57 := hm.len
    have hr0 := hr.units
    refine ⟨_, (pss_cons (ps_set (i := 1) scAt.nd rfl (.inl rfl) (pe_cat (pe_lc (own := [("_law_e", 2)]) (g := gName 2) (te := tRep K (tFldE K "given" (tVar 2))) (tt := tYes) rfl scAt.nd (pi_list (pe_slice sl_list (pv 0) po_none (po_some pe_int))) (blkOk_by (N := ["_law_made", "_law_found", "_law_e"]) (sc := defScope (top 84)) (by decide +kernel)) (fun _ _ _ _ _ => pg_name (i := 2) scAt.nd rfl (.inl rfl)) (fun _ _ _ _ _ => pts_nil) (fun _ _ _ _ _ => (pe_rep hgd hr0 (T.free "repr" (by decide +kernel)) (by rfl) (pa_cons (pe_fldE (pv 2)) pa_nil)))) (pe_lc (own := [("_law_e", 2)]) (g := gName 2) (te := tRep K (tFldE K "index" (tVar 2))) (tt := tYes) rfl scAt.nd (pi_list (pe_slice sl_list (pv 0) (po_some pe_int) (po_some pe_int))) (blkOk_by (N := ["_law_made", "_law_found", "_law_e"]) (sc := defScope (top 84)) (by decide +kernel)) (fun _ _ _ _ _ => pg_name (i := 2) scAt.nd rfl (.inl rfl)) (fun _ _ _ _ _ => pts_nil) (fun _ _ _ _ _ => (pe_rep hgd hr0 (T.free "repr" (by decide +kernel)) (by rfl) (pa_cons (pe_fldE (pv 2)) pa_nil))))))
      (pss_cons (ps_set (i := 1) scAt.nd rfl (.inl rfl) (pe_cat (pe_cat (pv 1) (pe_lc (own := [("_law_e", 2)]) (g := gName 2) (te := tRep K (tFldE K "kind" (tVar 2))) (tt := tYes) rfl scAt.nd (pi_list (pe_slice sl_list (pv 0) (po_some pe_int) (po_some pe_int))) (blkOk_by (N := ["_law_made", "_law_found", "_law_e"]) (sc := defScope (top 84)) (by decide +kernel)) (fun _ _ _ _ _ => pg_name (i := 2) scAt.nd rfl (.inl rfl)) (fun _ _ _ _ _ => pts_nil) (fun _ _ _ _ _ => (pe_rep hgd hr0 (T.free "repr" (by decide +kernel)) (by rfl) (pa_cons (pe_fldE (pv 2)) pa_nil))))) (pe_lc (own := [("_law_e", 2)]) (g := gName 2) (te := tRep K (tFldE K "shape" (tVar 2))) (tt := tYes) rfl scAt.nd (pi_list (pe_slice sl_list (pv 0) (po_some pe_int) (po_some pe_int))) (blkOk_by (N := ["_law_made", "_law_found", "_law_e"]) (sc := defScope (top 84)) (by decide +kernel)) (fun _ _ _ _ _ => pg_name (i := 2) scAt.nd rfl (.inl rfl)) (fun _ _ _ _ _ => pts_nil) (fun _ _ _ _ _ => (pe_rep hgd hr0 (T.free "repr" (by decide +kernel)) (by rfl) (pa_cons (pe_fldE (pv 2)) pa_nil))))))
      (pss_cons (ps_set (i := 1) scAt.nd rfl (.inl rfl) (pe_cat (pe_cat (pv 1) (pe_lst (pa_cons (pe_rep hgd hr0 (T.free "repr" (by decide +kernel)) (by rfl) (pa_cons (pe_fldE (pe_ix ix_list (pv 0) pe_int (fun _ _ => rfl))) pa_nil)) (pa_cons (pe_rep hgd hr0 (T.free "repr" (by decide +kernel)) (by rfl) (pa_cons (pe_fldE (pe_ix ix_list (pv 0) pe_int (fun _ _ => rfl))) pa_nil)) pa_nil)))) (pe_lc (own := [("_law_e", 2)]) (g := gName 2) (te := tRep K (tFldE K "given" (tVar 2))) (tt := tYes) rfl scAt.nd (pi_list (pe_slice sl_list (pv 0) (po_some pe_int) (po_some pe_int))) (blkOk_by (N := ["_law_made", "_law_found", "_law_e"]) (sc := defScope (top 84)) (by decide +kernel)) (fun _ _ _ _ _ => pg_name (i := 2) scAt.nd rfl (.inl rfl)) (fun _ _ _ _ _ => pts_nil) (fun _ _ _ _ _ => (pe_rep hgd hr0 (T.free "repr" (by decide +kernel)) (by rfl) (pa_cons (pe_fldE (pv 2)) pa_nil))))))
      (pss_cons (ps_set (i := 1) scAt.nd rfl (.inl rfl) (pe_cat (pv 1) (pe_lst (pa_cons (pe_rep hgd hr0 (T.free "repr" (by decide +kernel)) (by rfl) (pa_cons (pe_fldE (pe_ix ix_list (pv 0) pe_int (fun _ _ => rfl))) pa_nil)) (pa_cons (pe_rep hgd hr0 (T.free "repr" (by decide +kernel)) (by rfl) (pa_cons (pe_fldE (pe_ix ix_list (pv 0) pe_int (fun _ _ => rfl))) pa_nil)) pa_nil)))))
      (pss_one (ps_ret (pe_tup (pa_cons (pv 1) (pa_cons (pe_lst (pa_cons (pe_rep hgd hr0 (T.free "repr" (by decide +kernel)) (by rfl) (pa_cons (pe_fldE (pe_ix ix_list (pv 0) pe_int (fun _ _ => rfl))) pa_nil)) (pa_cons (pe_rep hgd hr0 (T.free "repr" (by decide +kernel)) (by rfl) (pa_cons (pe_fldE (pe_ix ix_list (pv 0) pe_int (fun _ _ => rfl))) pa_nil)) (pa_cons (pe_rep hgd hr0 (T.free "repr" (by decide +kernel)) (by rfl) (pa_cons (pe_fldE (pe_ix ix_list (pv 0) pe_int (fun _ _ => rfl))) pa_nil)) pa_nil)))) pa_nil))))))))), ?_⟩
    simp only [L2.start, tSeq, asgN, tRet, tCat, tTup, tLst, tCons, tNil]
    have c1 : ∀ {lo n : Nat} {g : Str}, ((List.range n).all fun j => decide ((t57[lo + j]?).bind (fun c => c.fl.head?) = some g)) = true → lo + n ≤ 57 → ∀ {H' : Hp}, Same H H' → ∀ j, j < n → ∀ x, us[lo + j]? = some x → ErrF K H' x g v1 :=
      fun hb _ _ s j hj x hx => ErrF.same s (Mds.seg T hm hb j hj x hx)
    have a1 : ∀ (j : Nat) {g : Str}, (t57[j]?).bind (fun c => c.fl.head?) = some g → j < 57 → ∀ {H' : Hp}, Same H H' → ∀ {te : TE} {σ : L2.St} {Q : VK}, σ[0]? = some (some (.ref p)) → te = tOp (rIxL K) (tVar 0) (tC (.int j)) → Q (.str d1.shown) H' → tRep K (tFldE K g te) σ H' Q := by
      intro j g hb hj H' s te σ Q hσ ht q
      obtain ⟨c, h1, h2⟩ := Option.bind_eq_some_iff.mp hb
      subst ht
      have hx : us[j]? = some us[j] := List.getElem?_eq_getElem (by omega)
      exact rd_fld (ErrF.same s (Mds.f1 T hm h1 h2 hx)) (dp_same s d1 v1 hd1) hs1 (rd_ix hσ (s _ _ hp) hx) q
    have a2 : ∀ (j : Nat) {g : Str}, (t57[j]?).bind (fun c => c.fl[1]?) = some g → j < 57 → ∀ {H' : Hp}, Same H H' → ∀ {te : TE} {σ : L2.St} {Q : VK}, σ[0]? = some (some (.ref p)) → te = tOp (rIxL K) (tVar 0) (tC (.int j)) → Q (.str d2.shown) H' → tRep K (tFldE K g te) σ H' Q := by
      intro j g hb hj H' s te σ Q hσ ht q
      obtain ⟨c, h1, h2⟩ := Option.bind_eq_some_iff.mp hb
      subst ht
      have hx : us[j]? = some us[j] := List.getElem?_eq_getElem (by omega)
      exact rd_fld (ErrF.same s (Mds.f2 T hm h1 h2 hx)) (dp_same s d2 v2 hd2) hs2 (rd_ix hσ (s _ _ hp) hx) q
    have lu : us.length ≤ 1000 := by rw [ln]; decide
    have S0 : Same H H := Same.refl H
    refine rd_comp (lov := none) (hiv := some ((17 : Nat) : Int)) (lo := 0) (n := 17) (v := v1) (d := d1) rfl (by show 2 < 3; decide) hp (fun _ _ q => q) (fun _ _ q => ⟨_, rfl, q⟩) (cut_to ln 17 (by decide)) (by rw [ln]; decide) lu (c1 (by decide +kernel) (by decide) S0) hd1 hs1 fun D1 H1 s1 h1 => ?_
    refine rd_comp (lov := some ((17 : Nat) : Int)) (hiv := some ((17 + 13 : Nat) : Int)) (lo := 17) (n := 13) (v := v1) (d := d1) rfl (by show 2 < 3; decide) (s1 _ _ hp) (fun _ _ q => ⟨_, rfl, q⟩) (fun _ _ q => ⟨_, rfl, q⟩) (cut_mid ln 17 13 (by decide)) (by rw [ln]; decide) lu (c1 (by decide +kernel) (by decide) s1) (dp_same s1 d1 v1 hd1) hs1 fun D2 H2 s2 h2 => ?_
    refine rd_cat (s2 _ _ h1) h2 (by simp only [List.length_append, List.length_replicate, List.length_cons, List.length_nil]; decide) fun p3 H3 s3 h3 => ?_
    have S3 := s1.trans (s2.trans s3)
    refine rd_var rfl ?_
    refine rd_comp (lov := some ((30 : Nat) : Int)) (hiv := some ((30 + 6 : Nat) : Int)) (lo := 30) (n := 6) (v := v1) (d := d1) rfl (by show 2 < 3; decide) (S3 _ _ hp) (fun _ _ q => ⟨_, rfl, q⟩) (fun _ _ q => ⟨_, rfl, q⟩) (cut_mid ln 30 6 (by decide)) (by rw [ln]; decide) lu (c1 (by decide +kernel) (by decide) S3) (dp_same S3 d1 v1 hd1) hs1 fun D4 H4 s4 h4 => ?_
    refine rd_cat (s4 _ _ h3) h4 (by simp only [List.length_append, List.length_replicate, List.length_cons, List.length_nil]; decide) fun p5 H5 s5 h5 => ?_
    have S5 := S3.trans (s4.trans s5)
    refine rd_comp (lov := some ((36 : Nat) : Int)) (hiv := some ((36 + 2 : Nat) : Int)) (lo := 36) (n := 2) (v := v1) (d := d1) rfl (by show 2 < 3; decide) (S5 _ _ hp) (fun _ _ q => ⟨_, rfl, q⟩) (fun _ _ q => ⟨_, rfl, q⟩) (cut_mid ln 36 2 (by decide)) (by rw [ln]; decide) lu (c1 (by decide +kernel) (by decide) S5) (dp_same S5 d1 v1 hd1) hs1 fun D6 H6 s6 h6 => ?_
    refine rd_cat (s6 _ _ h5) h6 (by simp only [List.length_append, List.length_replicate, List.length_cons, List.length_nil]; decide) fun p7 H7 s7 h7 => ?_
    have S7 := S5.trans (s6.trans s7)
    refine rd_var rfl ?_
    refine a1 38 (by decide +kernel) (by decide) S7 rfl rfl ?_
    refine a1 39 (by decide +kernel) (by decide) S7 rfl rfl ?_
    refine ⟨by show 2 ≤ sizeLine; decide, fun p8 h8 => ?_⟩
    refine rd_cat ((K1.same_new h8) _ _ h7) upd_same (by simp only [List.length_append, List.length_replicate, List.length_cons, List.length_nil]; decide) fun p9 H9 s9 h9 => ?_
    have S9 := S7.trans ((K1.same_new h8).trans s9)
    refine rd_comp (lov := some ((40 : Nat) : Int)) (hiv := some ((40 + 8 : Nat) : Int)) (lo := 40) (n := 8) (v := v1) (d := d1) rfl (by show 2 < 3; decide) (S9 _ _ hp) (fun _ _ q => ⟨_, rfl, q⟩) (fun _ _ q => ⟨_, rfl, q⟩) (cut_mid ln 40 8 (by decide)) (by rw [ln]; decide) lu (c1 (by decide +kernel) (by decide) S9) (dp_same S9 d1 v1 hd1) hs1 fun D10 H10 s10 h10 => ?_
    refine rd_cat (s10 _ _ h9) h10 (by simp only [List.length_append, List.length_replicate, List.length_cons, List.length_nil]; decide) fun p11 H11 s11 h11 => ?_
    have S11 := S9.trans (s10.trans s11)
    refine rd_var rfl ?_
    refine a1 48 (by decide +kernel) (by decide) S11 rfl rfl ?_
    refine a1 49 (by decide +kernel) (by decide) S11 rfl rfl ?_
    refine ⟨by show 2 ≤ sizeLine; decide, fun p12 h12 => ?_⟩
    refine rd_cat ((K1.same_new h12) _ _ h11) upd_same (by simp only [List.length_append, List.length_replicate, List.length_cons, List.length_nil]; decide) fun p13 H13 s13 h13 => ?_
    have S13 := S11.trans ((K1.same_new h12).trans s13)
    refine rd_var rfl ?_
    refine a2 34 (by decide +kernel) (by decide) S13 rfl rfl ?_
    refine a2 35 (by decide +kernel) (by decide) S13 rfl rfl ?_
    refine a2 37 (by decide +kernel) (by decide) S13 rfl rfl ?_
    refine ⟨by show 3 ≤ sizeLine; decide, fun p14 h14 => ?_⟩
    refine ⟨by show 2 ≤ sizeLine; decide, fun p15 h15 => ?_⟩
    exact k p15 p13 p14 _ (S13.trans ((K1.same_new h14).trans (K1.same_new h15))) upd_same ((K1.same_new h15) _ _ ((K1.same_new h14) _ _ h13)) ((K1.same_new h15) _ _ upd_same)
end
end K1
set_option Elab.async false
set_option linter.all false
set_option maxRecDepth 100000
set_option maxHeartbeats 4000000
/-! ### several clauses 'except x as n' -/
namespace HX
open PySem PySem.Spec PyProof.Rows L2 GX
abbrev Cls1 := Value × (Addr → Value → Option Addr → TS)
/-- what the clauses wish of an exception of the body; slot i is the name's -/
def wAsM (K : PySem.W.Frag) (i : Nat) (D : Ends) : List Cls1 → WX
  | [] => fun _ _ _ _ => False
  | (c, ts) :: r => fun cls d σ H => ∃ b, PySem.W.exmOne K cls c = some b ∧ (b = true → ∀ a, H a = none → ts a cls d { nx := fun σ' H' => D.nx (σ'.set i none) H', rt := D.rt, bk := fun σ' H' => D.bk (σ'.set i none) H', ct := fun σ' H' => D.ct (σ'.set i none) H' } (σ.set i (some (.ref a))) H) ∧
      (b = false → wAsM K i D r cls d σ H)
inductive HdsAs (X : Cx) (n : Str) : List ExceptHandler → List Cls1 → Prop
  | nil : HdsAs X n [] []
  | cons {x : Str} {c : Value} {ts : Addr → Value → Option Addr → TS} {b₀ : Stmt} {suite : List Stmt} {np pos' : Pos} {hds : List ExceptHandler} {l : List Cls1} (hc : Names X x c)
      (hsu : ∀ (a : Addr) (oe : Obj) (cls : Value) (d : Option Addr) (pn : List (Addr × Obj)), Zc cls d oe → (∃ vs, oe.data = .fields vs) → PSs (X.suite a ((a, oe) :: pn)) (b₀ :: suite) (ts a cls d)) (r : HdsAs X n hds l) :
      HdsAs X n (.ExceptHandler (some (.Name x np)) (some n) (b₀ :: suite) pos' :: hds) ((c, ts) :: l)
section
variable {X : Cx} {n : Str} {i : Nat} {body : List Stmt} {h₀ : ExceptHandler} {hds : List ExceptHandler} {l : List Cls1} {pos : Pos} {tb : WX → TS}
/-- try: body, several 'except x as n', the last of which takes all that is left -/
theorem ps_try_asM (hs : X.stack = X.env :: X.outer) (hf : X.env.frame = some X.env.locals) (hN : X.N.Nodup) (hi : X.N[i]? = some n) (hln : X.env.kindOf n = some .local)
    (hb : ∀ (W : WX) (pn : List (Addr × Obj)) (xe : Value → Shared → Prop), Takes (X.tr pn xe) W → PassesOwn (model X.prog X.w) X.A X.env xe → PSs (X.tr pn xe) body (tb W))
    (hh : HdsAs X n (h₀ :: hds) l) : PS X (.Try body (h₀ :: hds) [] [] pos) (fun D σ H => tb (wAsM X.K i D l) D σ H) := by
  refine ⟨fun pins s σ H D I h => ?_⟩
  have ok := I.ok
  have hfr : X.A.frames = some (X.env :: X.outer) := by rw [ok.frames, hs]
  refine wpAny_Try_except ?_
  refine wpAny_mono ((hb (wAsM X.K i D l) (X.pn ++ pins) (fun e s₁ => wpAny (model X.prog X.w) X.A (noteFrame e X.env) (fun _ s₂ => wpAny (model X.prog X.w) X.A (setFlight e none) (fun _ s₃ =>
    wpAny (model X.prog X.w) X.A (handleBy e X.env (h₀ :: hds)) (SP X pins D) X.xe s₃) X.xe s₂) X.xe s₁) (fun u s' xx => ?_) PassesOwn.looking).run [] s σ H D (I.toTry _) h) (fun f s1 hsp => ?_) (fun e s1 he => he)
  · obtain ⟨a, B, sI, pins', σ', H', cls, d, rfl, J', nb, up, sky, na, os, ag, w⟩ := xx
    have J : Inv X pins σ' H' sI := J'.ofTry ok
    refine Sky.land Zc.steady hfr hf (by rw [← hs]; exact sky) fun h3 fl3 up3 => ?_
    have J3 : Inv X pins σ' H' { s' with heap := h3 } := J.landed nb fl3.1 (up.trans up3) os ag
    obtain ⟨oe3, vs3, he3, hz3, hd3⟩ := fl3.there
    have nfr : a ∉ frs (X.env :: X.outer) := fun hm => by
      obtain ⟨_, o', e', hnf⟩ := fl3.2.2.1.mem hm
      rw [he3] at e'
      cases e'
      exact hnf _ hd3
    have nL : a ≠ X.env.locals := fun z => nfr (List.mem_filterMap.mpr ⟨X.env, List.mem_cons_self, by rw [hf, z]⟩)
    have nF : a ∉ X.fs := fun hm => by
      obtain ⟨e, he, q⟩ := List.mem_filterMap.mp hm
      exact nfr (List.mem_filterMap.mpr ⟨e, List.mem_cons_of_mem _ he, q⟩)
    have S3 := J3.suite he3 hd3 na nL nF
    have go : ∀ {cs : List ExceptHandler} {ls : List Cls1}, HdsAs X n cs ls → wAsM X.K i D ls cls d σ' H' → wpAny (model X.prog X.w) X.A (handleBy (.ref a) X.env cs) (SP X pins D) X.xe { s' with heap := h3 } := by
      intro cs ls hk
      induction hk with
      | nil => exact fun w => w.elim
      | @cons x c ts b₀ suite np pos' hds2 l2 hc hsu r ih =>
        rintro ⟨b, hb1, hyes, hno⟩
        have LT : PySem.W.Looks (model X.prog X.w) h3 (typeOf (.ref a)) cls := fun A Q E s k q => wpAny_typeOf_ref (k _ _ he3) (by rw [hz3.1]; exact q)
        have LM := PySem.W.exm_one (M := model X.prog X.w) J3.kIn LT hb1
        refine wpAny_handleBy_cons (codeAny_handlers_test ?_) (by intro q; cases q)
        have test : ∀ {Q E : Value → Shared → Prop}, Q c { s' with heap := h3 } → wpAny (model X.prog X.w) (X.A.mark (some (.ref a))) (eval (.Name x np) X.env) Q E { s' with heap := h3 } := fun {Q E} q => by
          obtain ⟨hg, hdbg, hm | ⟨hm, hv, hnn⟩⟩ := hc
          · exact ld_glob (X := X.suite a ((a, oe3) :: (X.pn ++ pins))) S3 hg hm q hdbg
          · exact ld_blt (X := X.suite a ((a, oe3) :: (X.pn ++ pins))) S3 hg hm hv q hnn hdbg
        refine test (LM.here ?_)
        cases b with
        | false => exact ih (hno rfl)
        | true =>
          refine codeAny_handlers_suite_as (HandSPX.lands_againZ fl3 fun h4 fl4 up4 => ?_)
          have J4 : Inv X pins σ' H' { s' with heap := h4 } := J.landed nb fl4.1 ((up.trans up3).trans up4) os ag
          obtain ⟨oe4, vs4, he4, hz4, hd4⟩ := fl4.there
          refine store_ok (X := X.suite a ((a, oe4) :: (X.pn ++ pins))) (v := .ref a) (J4.suite he4 hd4 na nL nF) hN hi (.inl hln) rfl (fun s5 S5 => ?_) (.inr hln)
          refine wpAny_mono ((hsu a oe4 cls d (X.pn ++ pins) hz4 ⟨_, hd4⟩).run [] s5 _ H' _ S5 (hyes rfl a na)) (fun f s6 hsp => ?_) (fun _ _ z => False.elim z)
          cases f with
          | ret u => obtain ⟨v6, σ6, H6, S6, r6, q6⟩ := hsp; exact gone_ok (S6.unsuite ok) hN hi hln fun s7 J7 => ⟨_, _, _, J7, r6, q6⟩
          | _ => obtain ⟨σ6, H6, S6, q6⟩ := hsp; exact gone_ok (S6.unsuite ok) hN hi hln fun s7 J7 => ⟨_, _, J7, q6⟩
    exact go hh w
  · cases f with
    | next => obtain ⟨σ', H', J', q⟩ := hsp; exact wpAny_execs_nil ⟨σ', H', J'.ofTry ok, q⟩
    | ret u => obtain ⟨v, σ', H', J', r, q⟩ := hsp; exact ⟨v, σ', H', J'.ofTry ok, r, q⟩
    | _ => obtain ⟨σ', H', J', q⟩ := hsp; exact ⟨σ', H', J'.ofTry ok, q⟩
end
/-- an error with one field, raised -/
def tRz (C : Addr) (f : Str) (i : Nat) : L2.St → Hp → XK → Prop := fun σ H Q => ∃ v, σ[i]? = some (some v) ∧ ∀ d H', Same H H' → H' d = some (.xd [(f, v)]) → Q (.ref C) (some d) H'
theorem pmk_one {X : Cx} {c : Ci} {st : Stmt} {f y : Str} {i : Nat} {C : Addr} {p q pos : Pos} (R : RowOk X.K c) (M : c.fl ≠ [] → MkF X.K c st) (gl : X.mg c.nm = some (.ref (ga X.K c.nm))) (hg : Gl X c.nm) (hdb : (c.nm == ("__debug__" : Str)) = false) (hr : Room 2 X.A)
    (e1 : c.fl = [f]) (hC : C = ga X.K c.nm) (he : PE X (.Name y q) (tVar i)) : PMk X (.Call (.Name c.nm p) [.Name y q] [] pos) (tRz C f i) := by
  have ne : c.fl ≠ [] := by rw [e1]; exact List.cons_ne_nil _ _
  obtain ⟨⟨fd, F⟩, hb, hf⟩ := M ne
  obtain ⟨i1, i2⟩ := R.i1 ne
  obtain ⟨B, j, Fb⟩ := facts_of c.kind
  have FI := ok_init (P := X.prog) (w := X.w) (mg := X.mg) (base := X.base) F hb ⟨_, _, R.ex, tlOk _⟩ R.no
  intro pins s σ H Q I h
  refine pmk_mkE R.ex (tlOk _) Fb i1 i2 FI hr pass0 hg gl (bind_init F hb hf) (pa_cons he pa_nil) hdb (by rfl) (by rfl) pins s σ H Q I ?_
  obtain ⟨v, hv, k⟩ := h
  refine ⟨v, hv, by show 1 ≤ 1000; decide, fun a ha => ⟨a, [v], rfl, by rw [e1]; rfl, upd_same, fun d H' hd h1 h2 h3 => ⟨rfl, a, d, [(f, v)], rfl, h1, by rw [h2, e1]; rfl, ?_, ?_⟩⟩⟩
  · have da : d ≠ a := by
      intro e
      rw [e, upd_same] at hd
      cases hd
    rw [upd_ne da] at hd
    exact hd
  · have da : d ≠ a := by
      intro e
      rw [e, upd_same] at hd
      cases hd
    rw [hC.symm]
    refine k d _ (fun b o hb => ?_) upd_same
    have ba : b ≠ a := ne_of_none hb ha
    have bd : b ≠ d := by
      rw [upd_ne da] at hd
      exact ne_of_none hb hd
    rw [upd_ne bd, del_ne ba]
    exact h3 b o ba (by rw [upd_ne ba]; exact hb)
end HX
namespace K1
open PySem PySem.Spec PyProof.Rows L2 GX HX
theorem exm_own {K : PySem.W.Frag} {mg : Str → Option Value} (T : Txt K mg) {c d : Ci} (hc : c ∈ tab) (hd : d ∈ tab) (hn : c ≠ d) : PySem.W.exmOne K (.ref (ga K c.nm)) (.ref (ga K d.nm)) = some (isOf c d.nm) := by
  have inj : ∀ x ∈ tab, ∀ y ∈ tab, ga K x.nm = ga K y.nm → x = y := inj_of T.nd
  have q := isa_own T hc hd
  unfold PySem.W.kitOne at q
  rw [if_neg (fun h => hn (inj c hc d hd (Value.ref.inj (beq_iff_eq.mp h))))] at q
  unfold PySem.W.exmOne
  rw [(T.rows d hd).ex.ex]
  exact q
abbrev cA : Ci := ⟨"NotAGrid", some "WrongValue", 0, ["given"]⟩
abbrev cB : Ci := ⟨"InUse", some "WrongName", 1, ["index"]⟩
abbrev cC : Ci := ⟨"TooMany", some "NoAnswer", 2, ["given"]⟩
abbrev bA : Ci := ⟨"WrongValue", none, 0, []⟩
abbrev bB : Ci := ⟨"WrongName", none, 1, []⟩
abbrev bC : Ci := ⟨"NoAnswer", none, 2, []⟩
theorem mA : cA ∈ tab := by decide +kernel
theorem mB : cB ∈ tab := by decide +kernel
theorem mC : cC ∈ tab := by decide +kernel
theorem nA : bA ∈ tab := by decide +kernel
theorem nB : bB ∈ tab := by decide +kernel
theorem nC : bC ∈ tab := by decide +kernel
def spCau : Sp := fun vs H Q _ => ∃ (t : Int) (v : V), vs = [.int t, v] ∧ (t = 0 ∨ t = 1 ∨ t = 2) ∧ ∀ p H', Same H H' → H' p = some (.tup [.int t, v]) → Q (.ref p) H'
abbrev NCa : List Str := ["_law_way", "_law_one", "_law_found", "_law_e"]
theorem scCa : FnScope NCa ["_law_way", "_law_one"] (defScope (top 85)) := ⟨rfl, rfl, rfl, by decide +kernel, rfl, by decide +kernel, by decide +kernel⟩
section
variable {P : Program} {w : World} {K : PySem.W.Frag} {mg : Str → Option Value} {base : Heap} {f : Addr} {fd : FuncData}
theorem xf_of {c : Ci} (R : RowOk K c) : XfC K (ga K c.nm) := ⟨R.ex.ga, R.ex.gg, R.ex.ex, R.ex.hd⟩
theorem ok_cau (D : Df K mg "_law_caught" 85 f fd) (T : Txt K mg) (M : Inits K) : FnOk P w K mg base CX0 3 f fd ["_law_way", "_law_one"] spCau := by
  refine D.fn.ok scCa (fun vs H Q E h => ?_) (fun cdv A outer s H vs Q E hr h => ?_)
  · obtain ⟨t, v, rfl, _⟩ := h
    rfl
  · obtain ⟨t, v, rfl, ht, k⟩ := h
    refine ⟨_, pss_cons (ps_set (i := 2) scCa.nd rfl (.inl rfl) pe_non) (pss_cons (ps_try_asM (i := 3) rfl rfl scCa.nd rfl rfl
      (fun W pn xe tk _ => pss_cons (ps_if (pt_cmpR op_eq (pv 0) pe_int (nomark _)) (pss_one (ps_raise rfl tk (pmk_one (c := cA) (C := ga K cA.nm) (T.rows _ mA) (M _ mA) (T.gl _ mA) (by rfl) (by decide) hr rfl rfl (pv 1)))) pss_nil)
        (pss_cons (ps_if (pt_cmpR op_eq (pv 0) pe_int (nomark _)) (pss_one (ps_raise rfl tk (pmk_one (c := cB) (C := ga K cB.nm) (T.rows _ mB) (M _ mB) (T.gl _ mB) (by rfl) (by decide) hr rfl rfl (pv 1)))) pss_nil)
        (pss_one (ps_raise rfl tk (pmk_one (c := cC) (C := ga K cC.nm) (T.rows _ mC) (M _ mC) (T.gl _ mC) (by rfl) (by decide) hr rfl rfl (pv 1))))))
      (.cons (c := .ref (ga K bA.nm)) ⟨rfl, by decide, .inl (T.gl _ nA)⟩ (fun a oe cls d pn hz hf => pss_one (ps_set (i := 2) scCa.nd rfl (.inl rfl) (pe_tup (pa_cons pe_int (pa_cons (pe_xf (C := ga K cA.nm) (xf_of (T.rows _ mA)) ((T.rows _ mA).no _ (by decide +kernel)) hz hf (pv 3)) pa_nil)))))
      (.cons (c := .ref (ga K bB.nm)) ⟨rfl, by decide, .inl (T.gl _ nB)⟩ (fun a oe cls d pn hz hf => pss_one (ps_set (i := 2) scCa.nd rfl (.inl rfl) (pe_tup (pa_cons pe_int (pa_cons (pe_xf (C := ga K cB.nm) (xf_of (T.rows _ mB)) ((T.rows _ mB).no _ (by decide +kernel)) hz hf (pv 3)) pa_nil)))))
      (.cons (c := .ref (ga K bC.nm)) ⟨rfl, by decide, .inl (T.gl _ nC)⟩ (fun a oe cls d pn hz hf => pss_one (ps_set (i := 2) scCa.nd rfl (.inl rfl) (pe_tup (pa_cons pe_int (pa_cons (pe_xf (C := ga K cC.nm) (xf_of (T.rows _ mC)) ((T.rows _ mC).no _ (by decide +kernel)) hz hf (pv 3)) pa_nil)))))
      .nil))))
      (pss_one (ps_ret (pv 2)))), ?_⟩
    simp only [L2.start, tSeq, tNext, asgN, tC, tIfS, tTest, tOp, rEq, tVar, tRz, tRet, wAsM, tTup, tCons, tNil, tXf]
    have dt : ∀ i : Int, decide (V.int i = V.int i) = true := fun i => decide_eq_true rfl
    have df : ∀ i j : Int, i ≠ j → decide (V.int i = V.int j) = false := fun i j h => decide_eq_false fun q => h (V.int.inj q)
    have isn : ∀ {b : Bool} {P Q : Prop}, b = false → (b = false → Q) → ((b = true → P) ∧ (b = false → Q)) := fun e q => ⟨fun h => by rw [e] at h; exact absurd h Bool.false_ne_true, q⟩
    rcases ht with rfl | rfl | rfl
    · refine ⟨_, rfl, rfl, true, congrArg V.bl (dt 0), ?_⟩
      rw [if_pos rfl]
      refine ⟨v, rfl, fun d H' s1 h1 => ⟨_, exm_own T mA nA (by decide), fun _ a ha => ⟨_, rfl, rfl, trivial, d, _, v, rfl, h1, rfl, by show 2 ≤ sizeLine; decide, fun p hp => ⟨_, rfl, ?_⟩⟩, fun z => absurd z (by decide)⟩⟩
      exact k p _ (s1.trans (same_new hp)) upd_same
    · refine ⟨_, rfl, rfl, false, congrArg V.bl (df 1 0 (by decide)), ?_⟩
      rw [if_neg Bool.false_ne_true]
      refine ⟨_, rfl, rfl, true, congrArg V.bl (dt 1), ?_⟩
      rw [if_pos rfl]
      refine ⟨v, rfl, fun d H' s1 h1 => ⟨_, exm_own T mB nA (by decide), isn (by decide) fun _ => ⟨_, exm_own T mB nB (by decide), fun _ a ha => ⟨_, rfl, rfl, trivial, d, _, v, rfl, h1, rfl, by show 2 ≤ sizeLine; decide, fun p hp => ⟨_, rfl, ?_⟩⟩, fun z => absurd z (by decide)⟩⟩⟩
      exact k p _ (s1.trans (same_new hp)) upd_same
    · refine ⟨_, rfl, rfl, false, congrArg V.bl (df 2 0 (by decide)), ?_⟩
      rw [if_neg Bool.false_ne_true]
      refine ⟨_, rfl, rfl, false, congrArg V.bl (df 2 1 (by decide)), ?_⟩
      rw [if_neg Bool.false_ne_true]
      refine ⟨v, rfl, fun d H' s1 h1 => ⟨_, exm_own T mC nA (by decide), isn (by decide) fun _ => ⟨_, exm_own T mC nB (by decide), isn (by decide) fun _ => ⟨_, exm_own T mC nC (by decide), fun _ a ha => ⟨_, rfl, rfl, trivial, d, _, v, rfl, h1, rfl, by show 2 ≤ sizeLine; decide, fun p hp => ⟨_, rfl, ?_⟩⟩, fun z => absurd z (by decide)⟩⟩⟩⟩
      exact k p _ (s1.trans (same_new hp)) upd_same
end
end K1
set_option Elab.async false
set_option linter.all false
set_option maxRecDepth 100000
set_option maxHeartbeats 4000000
namespace HX
open PySem PySem.Spec PyProof.Rows L2 GX
/-- as fnG_of, its body nowhere raising -/
theorem fnG_ok {P : Program} {w : World} {K : PySem.W.Frag} {mg : Str → Option Value} {base : Heap} {x qual : Str} {st : Stmt} {f : Addr} {fd : FuncData} {N ps : List Str} {k : Nat} {sp : Sp} (F : Fun K x qual st f fd) (S : FnScope N ps (defScope st)) (len : ∀ vs H Q E, sp vs H Q E → vs.length = ps.length)
    (hbody : ∀ (cdv : Value) (A : Around) (outer : List Env) (s : Shared) (H : Hp) (vs : List V) (Q : VK) (E : XK), Room k (A.deeper (envOfC qual (defScope st) s.heap.objs.size f cdv)) → A.guards = some [] → sp vs H Q E →
      ∃ t, PSs (cxOf CX0 P w K mg base N qual (defScope st) f cdv A outer s H E).nox (defBody st) t ∧ t { nx := fun _ H' => Q .non H', rt := Q } (L2.start N vs) H) : FnG P w K mg base CX0 (k + 1) f fd ps sp :=
  fnG_of F S len fun cdv A outer s H vs Q E hr hg h => by
    obtain ⟨t, h1, q⟩ := hbody cdv A outer s H vs Q E hr hg h
    exact ⟨t, h1.nox, q⟩
/-! ### data of texts and truths -/
theorem lay_rep {z : Str} (h : Pts z) : ∀ n, PyData.canLayAll0 (List.replicate n (.str z)) = true
  | 0 => rfl
  | n + 1 => by
    show (PyData.strOk z && PyData.canLayAll0 (List.replicate n (.str z))) = true
    rw [strOk_of h, lay_rep h n]
    rfl
theorem dep_rep {z : Str} : ∀ n, PyData.depthAll (List.replicate n (.str z)) ≤ 0
  | 0 => Nat.le_refl _
  | n + 1 => Nat.max_le.mpr ⟨Nat.le_refl _, dep_rep n⟩
theorem lay_bl : ∀ l : List Bool, PyData.canLayAll0 (l.map .bool) = true
  | [] => rfl
  | b :: l => lay_bl l
theorem dep_bl : ∀ l : List Bool, PyData.depthAll (l.map .bool) ≤ 0
  | [] => Nat.le_refl _
  | b :: l => Nat.max_le.mpr ⟨Nat.le_refl _, dep_bl l⟩
theorem dp_rep {K : PySem.W.Frag} {H : Hp} {z : Str} : ∀ n, DpAll K H (List.replicate n (.str z)) (List.replicate n (.str z))
  | 0 => .nil
  | n + 1 => .cons (.str z) (dp_rep n)
theorem dp_bl {K : PySem.W.Frag} {H : Hp} : ∀ l : List Bool, DpAll K H (l.map .bl) (l.map .bool)
  | [] => .nil
  | b :: l => .cons (.bl b) (dp_bl l)
theorem shp_bl (l : List Bool) : SeqAt.shaped (.list (l.map .bool)) = true := by
  have h : PyData.depth (.list (l.map .bool)) ≤ 1 := Nat.add_le_add_right (dep_bl l) 1
  exact Bool.and_eq_true_iff.mpr ⟨lay_bl l, decide_eq_true (Nat.le_trans h (by decide))⟩
abbrev dTwo (a b : Str) : PyData := .tuple [.list (List.replicate 50 (.str a)), .list (List.replicate 3 (.str b))]
theorem lay_two {a b : Str} (ha : Pts a) (hb : Pts b) : PyData.canLay0 (dTwo a b) = true := by
  show (PyData.canLayAll0 (List.replicate 50 (.str a)) && (PyData.canLayAll0 (List.replicate 3 (.str b)) && true)) = true
  rw [lay_rep ha, lay_rep hb]
  rfl
theorem shp_two {a b : Str} (ha : Pts a) (hb : Pts b) : SeqAt.shaped (dTwo a b) = true := by
  have h : PyData.depth (dTwo a b) ≤ 2 := by
    show max (PyData.depthAll (List.replicate 50 (.str a)) + 1) (max (PyData.depthAll (List.replicate 3 (.str b)) + 1) 0) + 1 ≤ 2
    have := dep_rep (z := a) 50
    have := dep_rep (z := b) 3
    omega
  exact Bool.and_eq_true_iff.mpr ⟨lay_two ha hb, decide_eq_true (Nat.le_trans h (by decide))⟩
theorem rd_rep {K : PySem.W.Frag} {te : TE} {σ : L2.St} {H : Hp} {v : V} {d : PyData} {Q : VK} (ht : ∀ Q' : VK, Q' v H → te σ H Q') (hd : Dp K H v d) (hs : Shw d) (q : Q (.str d.shown) H) : tRep K te σ H Q := ht _ ⟨v, d, rfl, hd, hs, q⟩
theorem rd_mul {l : Addr} {n : Nat} {xs : List V} {H : Hp} {Q : VK} (hx : H l = some (.lst xs)) (hn : n ≤ 1000) (hz : xs.length * n ≤ 1000) (k : ∀ p H', Same H H' → H' p = some (.lst (List.replicate n xs).flatten) → Q (.ref p) H') : rRep (.ref l) (.int n) H Q :=
  ⟨l, n, xs, rfl, rfl, hx, by omega, by omega, by rw [Int.toNat_natCast]; exact Nat.le_of_lt (small1000 hz), fun p hp => k p _ (K1.same_new hp) (by rw [upd_same, Int.toNat_natCast])⟩
/-- [x == y for x in range(n)] and the like, all else as it was -/
theorem lc_pureR {te : TE} {i n : Nat} {σ : L2.St} {H1 : Hp} {D : Addr} {Qd : Hp → Prop} (hD : H1 D = none) (hz : n ≤ 1000) (f : Nat → V)
    (hs : ∀ j, j < n → ∀ H', Same H1 H' → ∀ Q : VK, Q (f j) H' → te ((wipe σ [i]).set i (some (.int (0 + (j : Int))))) H' Q) (hd : Qd (upd H1 D (.lst ((List.range n).map f)))) :
    ∃ W : Nat → Nat → Hp → Prop, (∃ m, W 0 m (upd H1 D (.lst []))) ∧ ∀ j m H, W j m H →
      ((Itr 0 n).stop j H ∧ Qd H) ∨ ((Itr 0 n).go j H ∧ ∃ Nx : Hp → Prop, (∀ H', Nx H' → ∃ m', m' < m ∧ W (j + 1) m' H') ∧ ∀ x H', (Itr 0 n).yld j H x H' → gName i x (wipe σ [i]) H' fun σ2 H2 => wipe σ2 [i] = wipe σ [i] ∧ tYes σ2 H2 fun b H3 =>
        if b = true then te σ2 H3 fun y H4 => ∃ acc, H4 D = some (.lst acc) ∧ acc.length < sizeLine ∧ Nx (upd H4 D (.lst (acc ++ [y]))) else Nx H3) := by
  refine lc_range (fun j H => H = upd H1 D (.lst ((List.range j).map f))) rfl (fun j H hj h => ?_) (fun H h => ?_)
  · refine ⟨wipe_one, ?_⟩
    subst h
    simp only [tYes, ↓reduceIte]
    refine hs j hj _ (K1.same_new hD) _ ⟨_, upd_same, ?_, ?_⟩
    · rw [List.length_map, List.length_range]
      exact small1000 (Nat.le_trans (Nat.le_of_lt hj) hz)
    · show upd (upd H1 D _) D _ = _
      rw [List.range_succ, List.map_append]
      funext b
      by_cases hb : b = D
      · rw [hb, upd_same, upd_same]
        rfl
      · rw [upd_ne hb, upd_ne hb, upd_ne hb]
  · rw [h]
    exact hd
theorem rd_gn {i : Nat} {v : V} {σ : L2.St} {H : Hp} {k : L2.St → Hp → Prop} (h : k (σ.set i (some v)) H) : gName i v σ H k := h
theorem rd_sq {a b : TS} {D : Ends} {σ : L2.St} {H : Hp} (h : a { D with nx := b D } σ H) : tSeq a b D σ H := h
theorem rd_lcR {te : TE} {i n : Nat} {σ : L2.St} {H : Hp} {Q : VK} (hz : n ≤ 1000) (f : Nat → V) (hs : ∀ j, j < n → ∀ H', Same H H' → ∀ Q : VK, Q (f j) H' → te ((wipe σ [i]).set i (some (.int (0 + (j : Int))))) H' Q)
    (k : ∀ D H', Same H H' → H' D = some (.lst ((List.range n).map f)) → Q (.ref D) H') : tLc (iRng1 (tCons (tC (.int n)) tNil)) (gName i) tYes te [i] σ H Q := by
  refine ⟨n, rfl, by omega, by omega, fun D hD => ?_⟩
  rw [Int.toNat_natCast]
  exact lc_pureR hD hz f hs (k D _ (K1.same_new hD) upd_same)
theorem rd_lcL {K : PySem.W.Frag} {tl te : TE} {i : Nat} {xs : List V} {σ : L2.St} {H : Hp} {Q : VK} (htl : ∀ Q' : VK, (∀ a H', Same H H' → H' a = some (.lst xs) → Q' (.ref a) H') → tl σ H Q') (hz : xs.length ≤ 1000) (f : Nat → V)
    (hs : ∀ j x, xs[j]? = some x → ∀ H', Same H H' → ∀ Q : VK, Q (f j) H' → te ((wipe σ [i]).set i (some x)) H' Q)
    (k : ∀ D H', Same H H' → H' D = some (.lst ((List.range xs.length).map f)) → Q (.ref D) H') : tLc (iList K tl) (gName i) tYes te [i] σ H Q := by
  refine htl _ fun a H1 s1 h1 => ⟨a, rfl, ⟨_, SqL.of h1⟩, fun D hD => ?_⟩
  exact lc_pure hD (SqL.of h1) hz f (fun j x hx H' s' => hs j x hx H' (s1.trans s')) (k D _ (s1.trans (K1.same_new hD)) upd_same)
theorem dec_nat (i j : Nat) : decide (V.int (0 + (j : Int)) = V.int (0 + (i : Int))) = decide (j = i) := by
  rw [Bool.eq_iff_iff]
  simp
  omega
theorem rd_asg {te : TE} {g : TG} {D : Ends} {σ : L2.St} {H : Hp} (h : te σ H fun x H1 => g x σ H1 D.nx) : tAsg te g D σ H := h
theorem rd_ct {ta tb : TE} {σ : L2.St} {H : Hp} {Q : VK} (h : ta σ H fun x H1 => tb σ H1 fun y H2 => rCat x y H2 Q) : tCat ta tb σ H Q := h
theorem rd_op {r : R2} {ta tb : TE} {σ : L2.St} {H : Hp} {Q : VK} (h : ta σ H fun x H1 => tb σ H1 fun y H2 => r x y H2 Q) : tOp r ta tb σ H Q := h
theorem rd_c {v : V} {σ : L2.St} {H : Hp} {Q : VK} (h : Q v H) : tC v σ H Q := h
theorem flat_rep {α : Type} (x : α) : ∀ n, (List.replicate n [x]).flatten = List.replicate n x
  | 0 => rfl
  | n + 1 => by
    show x :: (List.replicate n [x]).flatten = x :: List.replicate n x
    rw [flat_rep x n]
end HX
namespace K1
open PySem PySem.Spec PyProof.Rows L2 GX HX
/-- which classes the error at the spot i is of, in the law's own words -/
def baseAt (i : Nat) : Nat := if i < 38 then 0 else if i < 40 then 1 else 2
def due (i : Nat) : List Bool := (List.range 57).map (fun j => decide (j = i)) ++ (List.replicate 2 ((List.range 3).map fun j => decide (j = baseAt i))).flatten
theorem due_ok : ∀ i, i < 57 → ∀ c, t57[i]? = some c → xsA.map (isOf c) = due i := by
  have h : ((List.range 57).all fun i => match t57[i]? with
    | some c => decide (xsA.map (isOf c) = due i)
    | none => true) = true := by decide +kernel
  intro i hi c hc
  have := List.all_eq_true.mp h i (List.mem_range.mpr hi)
  rw [hc] at this
  exact of_decide_eq_true this
theorem rd_base {σ : L2.St} {H : Hp} {Q : VK} {i : Nat} (h3 : σ[3]? = some (some (.int (0 + (i : Int))))) (q : Q (.int (0 + (baseAt i : Int))) H) :
    tIf (tTest (tOp (rI0 fun i j => V.bl (decide (i < j))) (tVar 3) (tC (V.int 38)))) (tC (V.int 0)) (tIf (tTest (tOp (rI0 fun i j => V.bl (decide (i < j))) (tVar 3) (tC (V.int 40)))) (tC (V.int 1)) (tC (V.int 2))) σ H Q := by
  refine ⟨_, h3, _, _, rfl, rfl, _, rfl, ?_⟩
  unfold baseAt at q
  by_cases h : i < 38
  · rw [if_pos h] at q
    rw [if_pos (decide_eq_true (by omega))]
    exact q
  · rw [if_neg h] at q
    rw [if_neg (by simp only [decide_eq_true_eq]; omega)]
    refine ⟨_, h3, _, _, rfl, rfl, _, rfl, ?_⟩
    by_cases h2 : i < 40
    · rw [if_pos h2] at q
      rw [if_pos (decide_eq_true (by omega))]
      exact q
    · rw [if_neg h2] at q
      rw [if_neg (by simp only [decide_eq_true_eq]; omega)]
      exact q
theorem due_v (i : Nat) : (List.range 57).map (fun j : Nat => V.bl (decide (V.int (0 + (j : Int)) = V.int (0 + (i : Int))))) ++ (List.replicate 2 ((List.range 3).map fun j : Nat => V.bl (decide (V.int (0 + (j : Int)) = V.int (0 + (baseAt i : Int)))))).flatten = (due i).map V.bl := by
  unfold due
  simp only [dec_nat, List.map_append, List.map_map, List.map_flatten, List.map_replicate]
  rfl
def spMR (K : PySem.W.Frag) : Sp := fun vs H Q _ => ∃ (p : Addr) (us : List V) (v1 v2 : V) (d1 d2 : PyData), vs = [.ref p, v1, v2] ∧ H p = some (.lst us) ∧ Mds K v1 v2 t57 us H ∧ Dp K H v1 d1 ∧ Dp K H v2 d2 ∧ Gd 30 1000000 d1 ∧ Gd 30 1000000 d2 ∧ ∀ H', Same H H' → Q (.bl true) H'
abbrev NMR : List Str := ["_law_made", "_law_one", "_law_two", "_law_spot", "_law_base", "_law_due", "_law_place"]
theorem scMR : FnScope NMR ["_law_made", "_law_one", "_law_two"] (defScope (top 86)) := ⟨rfl, rfl, rfl, by decide +kernel, rfl, by decide +kernel, by decide +kernel⟩
section
variable {P : Program} {w : World} {K : PySem.W.Frag} {mg : Str → Option Value} {base : Heap} {f fA fC f1 f2 f3 f4 f5 : Addr} {fd fdA fdC fd1 fd2 fd3 fd4 fd5 : FuncData}
theorem ok_mr (D : Df K mg "_law_made_right" 86 f fd) (T : Txt K mg) (DA : Df K mg "_law_attributes" 84 fA fdA) (DC : Df K mg "_law_classes" 81 fC fdC) (GC : FnOk P w K mg base CX0 2 fC fdC ["_law_e"] (spIs K xsA)) :
    FnG P w K mg base CX0 3 f fd ["_law_made", "_law_one", "_law_two"] (spMR K) := by
  have GA : FnG P w K mg base CX0 1 fA fdA ["_law_made"] (spAttr K) := ok_attr DA T
  have bA := DA.fn.binds (ps := ["_law_made"]) fun _ _ _ _ _ _ us hl => match us, hl with | [_], _ => rfl
  have bC := DC.fn.binds (ps := ["_law_e"]) fun _ _ _ _ _ _ us hl => match us, hl with | [_], _ => rfl
  refine fnG_ok D.fn scMR (fun vs H Q E h => ?_) (fun cdv A outer s H vs Q E hr hgd h => ?_)
  · obtain ⟨p, us, v1, v2, d1, d2, rfl, _⟩ := h
    rfl
  · obtain ⟨p, us, v1, v2, d1, d2, rfl, hp, hm, hd1, hd2, g1, g2, k⟩ := h
    have ln : us.length = 57 := hm.len
    have hr0 := hr.units
    have hr1 : Room 1 (A.deeper (envOfC "_law_made_right" (defScope (top 86)) s.heap.objs.size f cdv)) := hr.mono (by decide)
    have hs1 := g1.shw (Nat.le_refl _) (Nat.le_refl _)
    have hs2 := g2.shw (Nat.le_refl _) (Nat.le_refl _)
    refine ⟨_, (pss_cons (ps_if (pt_cmpR (op_neD hr0) (pe_callG GA hr1 hgd (by rfl) DA.gl DA.fn.kp bA pass0 (pa_cons (pv 0) pa_nil)) (pe_tup (pa_cons (pe_op op_rep (pe_lst (pa_cons (pe_rep hgd hr0 (T.free "repr" (by decide +kernel)) (by rfl) (pa_cons (pv 1) pa_nil)) pa_nil)) pe_int) (pa_cons (pe_op op_rep (pe_lst (pa_cons (pe_rep hgd hr0 (T.free "repr" (by decide +kernel)) (by rfl) (pa_cons (pv 2) pa_nil)) pa_nil)) pe_int) pa_nil))) (nomark _)) (pss_one (ps_ret pe_bl)) pss_nil)
      (pss_cons (ps_for PassesOwn.never rfl (pi_range1 rfl (T.free "range" (by decide +kernel)) (pa_cons pe_int pa_nil)) (pg_name (i := 3) scMR.nd rfl (.inr rfl)) (pss_cons (ps_set (i := 4) scMR.nd rfl (.inr rfl) (pe_ifExp (pt_cmpR op_lt (pv 3) pe_int (nomark _)) pe_int (pe_ifExp (pt_cmpR op_lt (pv 3) pe_int (nomark _)) pe_int pe_int)))
      (pss_cons (ps_set (i := 5) scMR.nd rfl (.inl rfl) (pe_cat (pe_lc (own := [("_law_place", 6)]) (g := gName 6) (te := tOp rEq (tVar 6) (tVar 3)) (tt := tYes) rfl scMR.nd (pi_range1 rfl (T.free "range" (by decide +kernel)) (pa_cons pe_int pa_nil)) (blkOk_by (N := ["_law_made", "_law_one", "_law_two", "_law_spot", "_law_base", "_law_due", "_law_place"]) (sc := defScope (top 86)) (by decide +kernel)) (fun _ _ _ _ _ => pg_name (i := 6) scMR.nd rfl (.inl rfl)) (fun _ _ _ _ _ => pts_nil) (fun _ _ _ _ _ => (pe_cmpR op_eq (pv 6) (pv 3) (nomark _)))) (pe_op op_rep (pe_lc (own := [("_law_place", 6)]) (g := gName 6) (te := tOp rEq (tVar 6) (tVar 4)) (tt := tYes) rfl scMR.nd (pi_list (pe_lst (pa_cons pe_int (pa_cons pe_int (pa_cons pe_int pa_nil))))) (blkOk_by (N := ["_law_made", "_law_one", "_law_two", "_law_spot", "_law_base", "_law_due", "_law_place"]) (sc := defScope (top 86)) (by decide +kernel)) (fun _ _ _ _ _ => pg_name (i := 6) scMR.nd rfl (.inl rfl)) (fun _ _ _ _ _ => pts_nil) (fun _ _ _ _ _ => (pe_cmpR op_eq (pv 6) (pv 4) (nomark _)))) pe_int)))
      (pss_one (ps_if (pt_cmpR (op_neD hr0) (pe_call GC hr (by rfl) DC.gl DC.fn.kp bC .nil pass0 (pa_cons (pe_ix ix_list (pv 0) (pv 3) (fun _ _ => rfl)) pa_nil)) (pv 5) (nomark _)) (pss_one (ps_ret pe_bl)) pss_nil)))))
      (pss_one (ps_ret pe_bl)))), ?_⟩
    refine rd_sq ?_
    refine ⟨.ref p, rfl, p, us, v1, v2, d1, d2, rfl, hp, hm, hd1, hd2, hs1, hs2, fun q q1 q2 H1 s1 e0 e1 e2 => ?_⟩
    refine rd_rep (v := v1) (fun Q' q' => rd_var rfl q') (dp_same s1 d1 v1 hd1) hs1 ⟨by show 1 ≤ sizeLine; decide, fun p2 h2 => ?_⟩
    refine rd_c (rd_mul (n := 50) (xs := [.str d1.shown]) upd_same (by decide) (by show 1 * 50 ≤ 1000; decide) fun p3 H3 s3 h3 => ?_)
    have S3 := s1.trans ((same_new h2).trans s3)
    refine rd_rep (v := v2) (fun Q' q' => rd_var rfl q') (dp_same S3 d2 v2 hd2) hs2 ⟨by show 1 ≤ sizeLine; decide, fun p4 h4 => ?_⟩
    refine rd_c (rd_mul (n := 3) (xs := [.str d2.shown]) upd_same (by decide) (by show 1 * 3 ≤ 1000; decide) fun p5 H5 s5 h5 => ?_)
    have S35 := (same_new (o := .lst [.str d2.shown]) h4).trans s5
    refine ⟨by show 2 ≤ sizeLine; decide, fun p6 h6 => ?_⟩
    have S16 := ((same_new (o := .lst [.str d1.shown]) h2).trans s3).trans (S35.trans (same_new (o := .tup [.ref p3, .ref p5]) h6))
    rw [flat_rep] at h3 h5
    have l1 := lay_two g1.pt g2.pt
    refine ⟨dTwo d1.shown d2.shown, dTwo d1.shown d2.shown, .tup (SqT.of (S16 _ _ e0)) (.cons (.lst (SqL.of (S16 _ _ e1)) (dp_rep 50)) (.cons (.lst (SqL.of (S16 _ _ e2)) (dp_rep 3)) .nil)),
      .tup (SqT.of upd_same) (.cons (.lst (SqL.of (same_new h6 _ _ (S35 _ _ h3))) (dp_rep 50)) (.cons (.lst (SqL.of (same_new h6 _ _ h5)) (dp_rep 3)) .nil)), shp_two g1.pt g2.pt, shp_two g1.pt g2.pt, false, ?_, ?_⟩
    · rw [SeqAt.eqv_refl _ l1]
      rfl
    dsimp only
    rw [if_neg Bool.false_ne_true]
    have S6 := s1.trans S16
    generalize upd H5 p6 (.tup [.ref p3, .ref p5]) = H6 at S6
    refine ⟨57, rfl, by decide, by decide, ?_⟩
    refine for_range (lo := 0) (n := 57) (fun i σ H1 => ∃ a b c : Option V, σ = [some (.ref p), some v1, some v2, a, b, c, none] ∧ Same H H1) ⟨none, none, none, rfl, S6⟩ (fun i σ H1 hi h => ?_) (fun σ H1 h => ?_)
    · obtain ⟨a, b, c, rfl, s7⟩ := h
      obtain ⟨ci, hci⟩ : ∃ ci, t57[i]? = some ci := ⟨_, List.getElem?_eq_getElem (show i < t57.length from hi)⟩
      obtain ⟨ea, hea, hee⟩ := Mds.at hm i ci hci
      have hcm : ci ∈ tab := t57tab ci (List.mem_of_getElem? hci)
      refine rd_gn (rd_sq (rd_asg (rd_base (i := i) rfl (rd_gn ?_))))
      dsimp only
      refine rd_sq (rd_asg (rd_ct ?_))
      refine rd_lcR (n := 57) (by decide) (fun j => .bl (decide (V.int (0 + (j : Int)) = V.int (0 + (i : Int))))) (fun j hj H' s' Q' q' => ⟨_, rfl, _, rfl, rfl, q'⟩) fun D8 H8 s8 h8 => ?_
      refine rd_op (rd_lcL (xs := [.int 0, .int 1, .int 2]) (fun Q' q' => ⟨by show 3 ≤ sizeLine; decide, fun a ha => q' a _ (same_new ha) upd_same⟩) (by decide) (fun j => .bl (decide (V.int (0 + (j : Int)) = V.int (0 + (baseAt i : Int))))) (fun j x hx H' s' Q' q' => ?_) fun D9 H9 s9 h9 => ?_)
      · have ex : x = .int (0 + (j : Int)) := by
          match j, hx with
          | 0, hx => cases hx; rfl
          | 1, hx => cases hx; rfl
          | 2, hx => cases hx; rfl
        subst ex
        exact ⟨_, rfl, _, rfl, rfl, q'⟩
      refine rd_c (rd_mul (n := 2) h9 (by decide) (by show 3 * 2 ≤ 1000; decide) fun D10 H10 s10 h10 => ?_)
      refine rd_cat (s10 _ _ (s9 _ _ h8)) h10 (by show 57 + 6 ≤ 1000; decide) fun D11 H11 s11 h11 => ?_
      have h11 : H11 D11 = some (.lst ((due i).map V.bl)) := by
        rw [← due_v]
        exact h11
      have S11 := s7.trans (s8.trans (s9.trans (s10.trans s11)))
      refine ⟨.ref p, rfl, .int (0 + (i : Int)), rfl, p, us, _, .ref ea, rfl, rfl, SqL.of (S11 _ _ hp), ?_, ?_⟩
      · have := atI_nat hea
        rw [Int.zero_add]
        exact this
      refine ⟨ea, ci, _, rfl, hcm, EAt.same S11 hee, fun r H12 s12 h12 => ?_⟩
      refine ⟨.ref D11, rfl, ?_⟩
      have hl : (xsA.map fun x => V.bl (isOf ci x)) = (due i).map V.bl := by
        rw [← due_ok i hi ci hci, List.map_map]
        rfl
      rw [hl] at h12
      refine ⟨.list ((due i).map .bool), .list ((due i).map .bool), .lst (SqL.of h12) (dp_bl _), .lst (SqL.of (s12 _ _ h11)) (dp_bl _), shp_bl _, shp_bl _, false, ?_, ?_⟩
      · rw [SeqAt.eqv_refl (.list ((due i).map .bool)) (lay_bl (due i))]
        rfl
      dsimp only
      rw [if_neg Bool.false_ne_true]
      exact ⟨_, _, _, rfl, S11.trans s12⟩
    · obtain ⟨a, b, c, rfl, s7⟩ := h
      exact k H1 s7
end
end K1
set_option Elab.async false
set_option linter.all false
set_option maxRecDepth 100000
set_option maxHeartbeats 4000000
namespace K1
open PySem PySem.Spec PyProof.Rows L2 GX HX
theorem rd_nx {D : Ends} {σ : L2.St} {H : Hp} (h : D.nx σ H) : tNext D σ H := h
theorem del_same_sub {H : Hp} {j : Addr} : Same (del H j) H := fun b o e => by
  by_cases hb : b = j
  · rw [hb, del_same] at e
    cases e
  · rw [del_ne hb] at e
    exact e
theorem SJ.del {j : Addr} {H H' : Hp} (s : SJ j H H') : Same (del H j) (del H' j) := fun b o e => by
  by_cases hb : b = j
  · rw [hb, del_same] at e
    cases e
  · rw [del_ne hb] at e ⊢
    exact s b o hb e
def spRt (K : PySem.W.Frag) : Sp := fun vs H Q _ => ∃ j : Addr, vs = [.ref j] ∧ Jar H j ∧ ∀ H', SJ j H H' → Q (.bl true) H'
abbrev NRt : List Str := ["_law_jar_here", "_law_one", "_law_two", "_law_kept", "_law_way"]
theorem scRt : FnScope NRt ["_law_jar_here"] (defScope (top 87)) := ⟨rfl, rfl, rfl, by decide +kernel, rfl, by decide +kernel, by decide +kernel⟩
theorem gd_pair {d1 d2 : PyData} {m : Nat} (h1 : Gd m 900 d1) (h2 : Gd m 900 d2) : Gd (m + 1) 2000 (.tuple [d1, d2]) := (gd_tup (m := m) (n := 900) (k := 2) (ds := [d1, d2]) (fun d hd => by
  rcases List.mem_cons.mp hd with e | e
  · rw [e]; exact h1
  · rw [List.mem_singleton.mp e]; exact h2) (by show 2 ≤ 2; decide)).mono (Nat.le_refl _) (by decide)
section
variable {P : Program} {w : World} {K : PySem.W.Frag} {mg : Str → Option Value} {base : Heap} {f fS fM fP fN fC : Addr} {fd fdS fdM fdP fdN fdC : FuncData}
theorem ok_right (D : Df K mg "_law_right" 87 f fd) (T : Txt K mg) (DS : Df K mg "_law_sort" 75 fS fdS) (GS : FnOk P w K mg base CX0 3 fS fdS ["_law_jar_here"] (spSort K)) (DM : Df K mg "_law_made_right" 86 fM fdM) (GM : FnG P w K mg base CX0 3 fM fdM ["_law_made", "_law_one", "_law_two"] (spMR K))
    (DP : Df K mg "_law_by_place" 82 fP fdP) (GP : FnOk P w K mg base CX0 3 fP fdP ["_law_one", "_law_two"] (spMake K)) (DN : Df K mg "_law_by_name" 83 fN fdN) (GN : FnOk P w K mg base CX0 3 fN fdN ["_law_one", "_law_two"] (spMake K))
    (DC : Df K mg "_law_caught" 85 fC fdC) (GC : FnOk P w K mg base CX0 3 fC fdC ["_law_way", "_law_one"] spCau) : FnG P w K mg base CX0 4 f fd ["_law_jar_here"] (spRt K) := by
  have bS := DS.fn.binds (ps := ["_law_jar_here"]) fun _ _ _ _ _ _ us hl => match us, hl with | [_], _ => rfl
  have bM := DM.fn.binds (ps := ["_law_made", "_law_one", "_law_two"]) fun _ _ _ _ _ _ us hl => match us, hl with | [_, _, _], _ => rfl
  have bP := DP.fn.binds (ps := ["_law_one", "_law_two"]) fun _ _ _ _ _ _ us hl => match us, hl with | [_, _], _ => rfl
  have bN := DN.fn.binds (ps := ["_law_one", "_law_two"]) fun _ _ _ _ _ _ us hl => match us, hl with | [_, _], _ => rfl
  have bC := DC.fn.binds (ps := ["_law_way", "_law_one"]) fun _ _ _ _ _ _ us hl => match us, hl with | [_, _], _ => rfl
  refine fnG_ok D.fn scRt (fun vs H Q E h => ?_) (fun cdv A outer s H vs Q E hr hgd h => ?_)
  · obtain ⟨j, rfl, _⟩ := h
    rfl
  · obtain ⟨j, rfl, hJ, k⟩ := h
    have hr0 := hr.units
    refine ⟨_, (pss_cons (ps_par (i := 1) (j := 2) (by rfl) scRt.nd rfl rfl (by decide) rfl rfl (pa_cons (pe_call GS hr (by rfl) DS.gl DS.fn.kp bS .nil pass0 (pa_cons (pv 0) pa_nil)) (pa_cons (pe_call GS hr (by rfl) DS.gl DS.fn.kp bS .nil pass0 (pa_cons (pv 0) pa_nil)) pa_nil)) (by rfl))
      (pss_cons (ps_set (i := 3) scRt.nd rfl (.inl rfl) (pe_rep hgd hr0 (T.free "repr" (by decide +kernel)) (by rfl) (pa_cons (pe_tup (pa_cons (pv 1) (pa_cons (pv 2) pa_nil))) pa_nil)))
      (pss_cons (ps_if (pt_not (pt_val (pe_callG GM hr hgd (by rfl) DM.gl DM.fn.kp bM pass0 (pa_cons (pe_call GP hr (by rfl) DP.gl DP.fn.kp bP .nil pass0 (pa_cons (pv 1) (pa_cons (pv 2) pa_nil))) (pa_cons (pv 1) (pa_cons (pv 2) pa_nil)))))) (pss_one (ps_ret pe_bl)) pss_nil)
      (pss_cons (ps_if (pt_not (pt_val (pe_callG GM hr hgd (by rfl) DM.gl DM.fn.kp bM pass0 (pa_cons (pe_call GN hr (by rfl) DN.gl DN.fn.kp bN .nil pass0 (pa_cons (pv 2) (pa_cons (pv 1) pa_nil))) (pa_cons (pv 2) (pa_cons (pv 1) pa_nil)))))) (pss_one (ps_ret pe_bl)) pss_nil)
      (pss_cons (ps_for PassesOwn.never rfl (pi_range1 rfl (T.free "range" (by decide +kernel)) (pa_cons pe_int pa_nil)) (pg_name (i := 4) scRt.nd rfl (.inl rfl)) (pss_one (ps_if (pt_cmpR op_ne (pe_rep hgd hr0 (T.free "repr" (by decide +kernel)) (by rfl) (pa_cons (pe_call GC hr (by rfl) DC.gl DC.fn.kp bC .nil pass0 (pa_cons (pv 4) (pa_cons (pv 1) pa_nil))) pa_nil)) (pe_rep hgd hr0 (T.free "repr" (by decide +kernel)) (by rfl) (pa_cons (pe_tup (pa_cons (pv 4) (pa_cons (pv 1) pa_nil))) pa_nil)) (nomark _)) (pss_one (ps_ret pe_bl)) pss_nil)))
      (pss_one (ps_ret (pe_cmpR op_eq (pe_rep hgd hr0 (T.free "repr" (by decide +kernel)) (by rfl) (pa_cons (pe_tup (pa_cons (pv 1) (pa_cons (pv 2) pa_nil))) pa_nil)) (pv 3) (nomark _))))))))), ?_⟩
    refine rd_sq ⟨.ref j, rfl, j, rfl, hJ, fun v1 d1 H1 p1 g1 j1 s1 => ?_⟩
    refine ⟨.ref j, rfl, j, rfl, j1, fun v2 d2 H2 p2 g2 j2 s2 => ?_⟩
    refine ⟨v1, v2, rfl, ?_⟩
    dsimp only
    have q1 : Dp K H2 v1 d1 := dp_same del_same_sub d1 v1 (dp_same s2.del d1 v1 p1)
    have q2 : Dp K H2 v2 d2 := dp_same del_same_sub d2 v2 p2
    have k2 : ∀ H', Same H2 H' → Q (.bl true) H' := fun H' s' => k H' (s1.trans (s2.trans (SJ.of s')))
    clear k p1 p2 j1 s1 hJ
    have g12 := gd_pair g1 g2
    have sh := g12.shw (by decide) (by decide)
    have G1 : Gd 30 1000000 d1 := g1.mono (by decide) (by decide)
    have G2 : Gd 30 1000000 d2 := g2.mono (by decide) (by decide)
    -- repr((one, two))
    have rep : ∀ {H' : Hp} {σ : L2.St} {Q' : VK}, Same H2 H' → σ[1]? = some (some v1) → σ[2]? = some (some v2) → (∀ H'', Same H' H'' → Q' (.str (PyData.tuple [d1, d2]).shown) H'') → tRep K (tTup (tCons (tVar 1) (tCons (tVar 2) tNil))) σ H' Q' := fun {H' σ Q'} s' e1 e2 q =>
      ⟨v1, e1, v2, e2, by show 2 ≤ sizeLine; decide, fun p hp => ⟨.ref p, .tuple [d1, d2], rfl, .tup (SqT.of upd_same) (.cons (dp_same (s'.trans (same_new hp)) d1 v1 q1) (.cons (dp_same (s'.trans (same_new hp)) d2 v2 q2) .nil)), sh, q _ (same_new hp)⟩⟩
    refine rd_sq (rd_asg (rep (Same.refl _) rfl rfl fun H3 s3 => rd_gn ?_))
    dsimp only
    refine rd_sq ⟨v1, rfl, v2, rfl, v1, v2, rfl, fun p us H4 s4 e4 m4 => ?_⟩
    have S4 := s3.trans s4
    refine ⟨v1, rfl, v2, rfl, p, us, v1, v2, d1, d2, rfl, e4, m4, dp_same S4 d1 v1 q1, dp_same S4 d2 v2 q2, G1, G2, fun H5 s5 => ?_⟩
    refine ⟨true, rfl, ?_⟩
    dsimp only
    first
      | rw [if_neg (show ¬ (!true) = true by decide)]
      | rw [if_neg Bool.false_ne_true]
    refine rd_nx ?_
    dsimp only
    have S5 := S4.trans s5
    refine rd_sq ⟨v2, rfl, v1, rfl, v2, v1, rfl, fun p6 us6 H6 s6 e6 m6 => ?_⟩
    have S6 := S5.trans s6
    refine ⟨v2, rfl, v1, rfl, p6, us6, v2, v1, d2, d1, rfl, e6, m6, dp_same S6 d2 v2 q2, dp_same S6 d1 v1 q1, G2, G1, fun H7 s7 => ?_⟩
    refine ⟨true, rfl, ?_⟩
    dsimp only
    first
      | rw [if_neg (show ¬ (!true) = true by decide)]
      | rw [if_neg Bool.false_ne_true]
    refine rd_nx ?_
    dsimp only
    have S7 := S6.trans s7
    refine rd_sq ⟨3, rfl, by decide, by decide, ?_⟩
    refine for_range (lo := 0) (n := 3) (fun i σ H1 => ∃ c : Option V, σ = [some (.ref j), some v1, some v2, some (.str (PyData.tuple [d1, d2]).shown), c] ∧ Same H2 H1) ⟨none, rfl, S7⟩ (fun i σ H1 hi h => ?_) (fun σ H1 h => ?_)
    · obtain ⟨c, rfl, s8⟩ := h
      refine rd_gn ⟨_, rfl, v1, rfl, 0 + (i : Int), v1, rfl, by omega, fun p9 H9 s9 h9 => ?_⟩
      have S9 := s8.trans s9
      have gt : Gd 3 2000 (.tuple [.int (0 + (i : Int)), d1]) := gd_pair ((gd_int (by omega)).mono (by decide) (by decide)) g1
      refine ⟨.ref p9, .tuple [.int (0 + (i : Int)), d1], rfl, .tup (SqT.of h9) (.cons (.int _) (.cons (dp_same S9 d1 v1 q1) .nil)), gt.shw (by decide) (by decide), ?_⟩
      refine ⟨_, rfl, v1, rfl, by show 2 ≤ sizeLine; decide, fun p10 h10 => ?_⟩
      refine ⟨.ref p10, .tuple [.int (0 + (i : Int)), d1], rfl, .tup (SqT.of upd_same) (.cons (.int _) (.cons (dp_same (S9.trans (same_new h10)) d1 v1 q1) .nil)), gt.shw (by decide) (by decide), ?_⟩
      refine ⟨rfl, false, ?_, ?_⟩
      · rw [decide_eq_true rfl]
        rfl
      dsimp only
      rw [if_neg Bool.false_ne_true]
      exact ⟨_, rfl, S9.trans (same_new h10)⟩
    · obtain ⟨c, rfl, s8⟩ := h
      refine rd_op (rep s8 rfl rfl fun H9 s9 => ⟨_, rfl, rfl, ?_⟩)
      rw [decide_eq_true rfl]
      exact k2 H9 (s8.trans s9)
end
end K1
set_option Elab.async false
set_option linter.all false
set_option maxRecDepth 100000
set_option maxHeartbeats 4000000
namespace K1
open PySem PySem.Spec PyProof.Rows L2 GX HX
def limN : List Int := [8, 1000000, 100, 64, 1000000000000000000000000000000, 40, 400, 12, 16]
theorem gd_lim : Gd 1 2000 (.list (limN.map .int)) := (gd_list (m := 0) (n := 62) (k := 9) (ds := limN.map .int) (fun d hd => by
  obtain ⟨i, hi, rfl⟩ := List.mem_map.mp hd
  exact gd_int (by
    have h : (limN.all fun i => decide (i.natAbs < 10 ^ 60)) = true := by decide +kernel
    exact of_decide_eq_true (List.all_eq_true.mp h i hi))) (by decide)).mono (by decide) (by decide)
theorem dp_ints {K : PySem.W.Frag} {H : Hp} : ∀ l : List Int, DpAll K H (l.map .int) (l.map .int)
  | [] => .nil
  | i :: l => .cons (.int i) (dp_ints l)
theorem limT {K : PySem.W.Frag} {mg : Str → Option Value} (T : Txt K mg) {x : Str} {n : Int} (h : (x, n) ∈ limits) : ∃ t, mg x = some (.int n t) := T.lim (x, n) h
theorem pe_lim {X : Cx} {x : Str} {n : Int} {pos : Pos} (T : Txt X.K X.mg) (hg : Gl X x) (h : (x, n) ∈ limits) (hd : (x == ("__debug__" : Str)) = false := by decide) : PE X (.Name x pos) (tC (.int n)) := by
  obtain ⟨t, e⟩ := limT T h
  exact pe_glob hg e ⟨t, rfl⟩ hd
def spLaw (K : PySem.W.Frag) : Sp := fun vs H Q _ => ∃ (a : Addr) (ns : List Int), vs = [.ref a] ∧ SqL K H a (ns.map V.int) ∧ ns.length ≤ 63 ∧ ∀ H', Q (.bl true) H'
abbrev NLw : List Str := ["_law_script", "_law_limits", "_law_nothing", "_law_turn"]
theorem scLw : FnScope NLw ["_law_script"] (defScope (top 88)) := ⟨rfl, rfl, rfl, by decide +kernel, rfl, by decide +kernel, by decide +kernel⟩
def due3 (b : Nat) : List Bool := List.replicate 57 false ++ (List.replicate 2 [decide (b = 0), decide (b = 1), decide (b = 2)]).flatten
theorem due3_A : xsA.map (isOf bA) = due3 0 := by decide +kernel
theorem due3_B : xsA.map (isOf bB) = due3 1 := by decide +kernel
theorem due3_C : xsA.map (isOf bC) = due3 2 := by decide +kernel
theorem pe_base {X : Cx} {c : Ci} {p pos : Pos} (T : Txt X.K X.mg) (hc : c ∈ tab) (e0 : c.fl = []) (hg : Gl X c.nm) (hdb : (c.nm == ("__debug__" : Str)) = false) : PE X (.Call (.Name c.nm p) [] [] pos) (fun σ H Q => ∀ a H', Same H H' → EAt H' a (ga X.K c.nm) [] → Q (.ref a) H') := by
  obtain ⟨B, i, F⟩ := facts_of c.kind
  have R := T.rows c hc
  exact pe_wk (pe_mkE0 F (R.i0 e0) (T.gl c hc) R.ex.kp hg hdb) fun σ H Q k a ha => k a _ (same_new ha) (.inl ⟨rfl, .inr upd_same⟩)
theorem rd_ret {te : TE} {D : Ends} {σ : L2.St} {H : Hp} (h : te σ H D.rt) : tRet te D σ H := h
theorem rd_cb1 {r : List V → Hp → VK → Prop} {te : TE} {σ : L2.St} {H : Hp} {Q : VK} (h : te σ H fun x H1 => r [x] H1 Q) : tCB r (tCons te tNil) σ H Q := h
theorem rd_lcRS {t : TA} {te : TE} {i : Nat} {σ : L2.St} {H : Hp} {Q : VK} (h : t σ H fun vs H1 => ∃ j : Int, vs = [.int j] ∧ -(2 ^ 62) ≤ j ∧ j < 2 ^ 62 ∧ ∀ D, H1 D = none → ∃ Pv : Nat → Hp → Prop, Pv 0 (upd H1 D (.lst [])) ∧
      (∀ (m : Nat) H', (m : Int) < j → Pv m H' → te ((wipe σ [i]).set i (some (.int (0 + (m : Int))))) H' fun y H4 => ∃ acc, H4 D = some (.lst acc) ∧ acc.length < sizeLine ∧ Pv (m + 1) (upd H4 D (.lst (acc ++ [y])))) ∧ ∀ H', Pv j.toNat H' → Q (.ref D) H') :
    ∀ (_ : ∀ {Q1 Q2 : List V → Hp → Prop}, (∀ vs H1, Q1 vs H1 → Q2 vs H1) → t σ H Q1 → t σ H Q2), tLc (iRng1 t) (gName i) tYes te [i] σ H Q := fun mono => by
  refine mono (fun vs H1 h => ?_) h
  obtain ⟨j, e, b1, b2, h⟩ := h
  refine ⟨j, e, b1, b2, fun D hD => ?_⟩
  obtain ⟨Pv, h0, hs, hd⟩ := h D hD
  refine lc_range Pv h0 (fun m H' hm p => ?_) hd
  refine ⟨wipe_one, ?_⟩
  simp only [tYes, ↓reduceIte]
  exact hs m H' (by omega) p
theorem bl_rep (l : List Bool) (n : Nat) : (List.replicate n (l.map V.bl)).flatten = ((List.replicate n l).flatten).map V.bl := by
  rw [List.map_flatten, List.map_replicate]
theorem rd_base3 {K : PySem.W.Frag} {mg : Str → Option Value} (T : Txt K mg) {c : Ci} (hc : c ∈ tab) {C : Addr} (hC : C = ga K c.nm) {x y z : Bool} (hx : xsA.map (isOf c) = List.replicate 57 false ++ (List.replicate 2 [x, y, z]).flatten) {σ : L2.St} {H : Hp} {q : Addr} {Q : VK}
    (h2 : σ[2]? = some (some (.ref q))) (hq : H q = some (.lst ((List.replicate 57 false).map V.bl))) (k : ∀ H', Same H H' → Q (.bl false) H') :
    tOp (rNeD K) (tCall (spIs K xsA) [] E0 (tCons (fun σ H Q => ∀ a H', Same H H' → EAt H' a C [] → Q (.ref a) H') tNil)) (tCat (tVar 2) (tOp rRep (tLst (tCons (tC (.bl x)) (tCons (tC (.bl y)) (tCons (tC (.bl z)) tNil)))) (tC (.int 2)))) σ H Q := by
  subst hC
  refine fun a H1 s1 e1 => ⟨a, c, [], rfl, hc, e1, fun r H2 s2 h2' => rd_ct (rd_var h2 (rd_op ⟨by show 3 ≤ sizeLine; decide, fun p5 h5 => rd_c (rd_mul (n := 2) (xs := [x, y, z].map V.bl) upd_same (by decide) (by show 3 * 2 ≤ 1000; decide) fun p6 H6 s6 h6 => ?_)⟩))⟩
  have S6 := (K1.same_new (o := .lst ([x, y, z].map V.bl)) h5).trans s6
  refine rd_cat (S6 _ _ (s2 _ _ (s1 _ _ hq))) h6 (by show 57 + 6 ≤ 1000; decide) fun p7 H7 s7 h7 => ?_
  rw [bl_rep, ← List.map_append, ← hx] at h7
  have hr : H2 r = some (.lst ((xsA.map (isOf c)).map V.bl)) := by
    rw [h2', List.map_map]
    rfl
  refine ⟨.list ((xsA.map (isOf c)).map .bool), .list ((xsA.map (isOf c)).map .bool), .lst (SqL.of (s7 _ _ (S6 _ _ hr))) (dp_bl _), .lst (SqL.of h7) (dp_bl _), shp_bl _, shp_bl _, ?_⟩
  rw [SeqAt.eqv_refl (.list ((xsA.map (isOf c)).map .bool)) (lay_bl _)]
  exact k H7 (s1.trans (s2.trans (S6.trans s7)))
theorem lim_eq : [V.int 8, V.int (10 ^ Int.toNat 6), V.int 100, V.int 64, V.int (10 ^ Int.toNat 30), V.int 40, V.int 400, V.int 12, V.int 16] = limN.map V.int := by
  have e6 : (10 : Int) ^ Int.toNat 6 = 1000000 := by decide
  have e30 : (10 : Int) ^ Int.toNat 30 = 1000000000000000000000000000000 := by decide
  rw [e6, e30]
  rfl
section
variable {P : Program} {w : World} {K : PySem.W.Frag} {mg : Str → Option Value} {base : Heap} {f fJ fR fC : Addr} {fd fdJ fdR fdC : FuncData}
theorem ok_law (D : Df K mg "law" 88 f fd) (T : Txt K mg) (DJ : Df K mg "_law_jar" 71 fJ fdJ) (DR : Df K mg "_law_right" 87 fR fdR) (GR : FnG P w K mg base CX0 4 fR fdR ["_law_jar_here"] (spRt K)) (DC : Df K mg "_law_classes" 81 fC fdC) (GC : FnOk P w K mg base CX0 2 fC fdC ["_law_e"] (spIs K xsA)) :
    FnG P w K mg base CX0 5 f fd ["_law_script"] (spLaw K) := by
  have GJ : FnOk P w K mg base CX0 1 fJ fdJ ["_law_script", "_law_turn"] (spJar K) := ok_jar DJ T
  have bJ := DJ.fn.binds (ps := ["_law_script", "_law_turn"]) fun _ _ _ _ _ _ us hl => match us, hl with | [_, _], _ => rfl
  have bR := DR.fn.binds (ps := ["_law_jar_here"]) fun _ _ _ _ _ _ us hl => match us, hl with | [_], _ => rfl
  have bCl := DC.fn.binds (ps := ["_law_e"]) fun _ _ _ _ _ _ us hl => match us, hl with | [_], _ => rfl
  refine fnG_ok D.fn scLw (fun vs H Q E h => ?_) (fun cdv A outer s H vs Q E hr hgd h => ?_)
  · obtain ⟨a, ns, rfl, _⟩ := h
    rfl
  · obtain ⟨a, ns, rfl, hS, hn, k⟩ := h
    have hr0 := hr.units
    have hr1 : Room 1 (A.deeper (envOfC "law" (defScope (top 88)) s.heap.objs.size f cdv)) := hr.mono (by decide)
    have hr2 : Room 2 (A.deeper (envOfC "law" (defScope (top 88)) s.heap.objs.size f cdv)) := hr.mono (by decide)
    refine ⟨_, (pss_cons (ps_set (i := 1) scLw.nd rfl (.inl rfl) (pe_lst (pa_cons (pe_lim T (by rfl) (n := 8) (by decide +kernel)) (pa_cons (pe_lim T (by rfl) (n := 1000000) (by decide +kernel)) (pa_cons (pe_lim T (by rfl) (n := 100) (by decide +kernel)) (pa_cons (pe_lim T (by rfl) (n := 64) (by decide +kernel)) (pa_cons (pe_lim T (by rfl) (n := 1000000000000000000000000000000) (by decide +kernel)) (pa_cons (pe_lim T (by rfl) (n := 40) (by decide +kernel)) (pa_cons (pe_lim T (by rfl) (n := 400) (by decide +kernel)) (pa_cons (pe_lim T (by rfl) (n := 12) (by decide +kernel)) (pa_cons (pe_lim T (by rfl) (n := 16) (by decide +kernel)) pa_nil)))))))))))
      (pss_cons (ps_if (pt_cmpR op_ne (pe_rep hgd hr0 (T.free "repr" (by decide +kernel)) (by rfl) (pa_cons (pv 1) pa_nil)) (pe_rep hgd hr0 (T.free "repr" (by decide +kernel)) (by rfl) (pa_cons (pe_lst (pa_cons pe_int (pa_cons (pe_op op_pow pe_int pe_int) (pa_cons pe_int (pa_cons pe_int (pa_cons (pe_op op_pow pe_int pe_int) (pa_cons pe_int (pa_cons pe_int (pa_cons pe_int (pa_cons pe_int pa_nil)))))))))) pa_nil)) (nomark _)) (pss_one (ps_ret pe_bl)) pss_nil)
      (pss_cons (ps_set (i := 2) scLw.nd rfl (.inl rfl) (pe_op op_rep (pe_lst (pa_cons pe_bl pa_nil)) pe_int))
      (pss_cons (ps_if (pt_cmpR (op_neD hr0) (pe_call GC hr2 (by rfl) DC.gl DC.fn.kp bCl .nil pass0 (pa_cons (pe_base (c := bA) T nA rfl (by rfl) (by decide)) pa_nil)) (pe_cat (pv 2) (pe_op op_rep (pe_lst (pa_cons pe_bl (pa_cons pe_bl (pa_cons pe_bl pa_nil)))) pe_int)) (nomark _)) (pss_one (ps_ret pe_bl)) pss_nil)
      (pss_cons (ps_if (pt_cmpR (op_neD hr0) (pe_call GC hr2 (by rfl) DC.gl DC.fn.kp bCl .nil pass0 (pa_cons (pe_base (c := bB) T nB rfl (by rfl) (by decide)) pa_nil)) (pe_cat (pv 2) (pe_op op_rep (pe_lst (pa_cons pe_bl (pa_cons pe_bl (pa_cons pe_bl pa_nil)))) pe_int)) (nomark _)) (pss_one (ps_ret pe_bl)) pss_nil)
      (pss_cons (ps_if (pt_cmpR (op_neD hr0) (pe_call GC hr2 (by rfl) DC.gl DC.fn.kp bCl .nil pass0 (pa_cons (pe_base (c := bC) T nC rfl (by rfl) (by decide)) pa_nil)) (pe_cat (pv 2) (pe_op op_rep (pe_lst (pa_cons pe_bl (pa_cons pe_bl (pa_cons pe_bl pa_nil)))) pe_int)) (nomark _)) (pss_one (ps_ret pe_bl)) pss_nil)
      (pss_one (ps_ret (pe_callB (cr_all rfl) (by rfl) (T.free "all" (by decide +kernel)) (by decide +kernel) (pa_cons (pe_lc (own := [("_law_turn", 3)]) (g := gName 3) (tt := tYes) rfl scLw.nd (pi_range1 rfl (T.free "range" (by decide +kernel)) (pa_cons (pe_callB (call_max2 rfl) (by rfl) (T.free "max" (by decide +kernel)) (by decide +kernel) (pa_cons pe_int (pa_cons (pe_callB (call_min2 rfl) (by rfl) (T.free "min" (by decide +kernel)) (by decide +kernel) (pa_cons (pe_callB call_len_seq (by rfl) (T.free "len" (by decide +kernel)) (by decide +kernel) (pa_cons (pv 0) pa_nil)) (pa_cons pe_int pa_nil))) pa_nil))) pa_nil)) (blkOk_by (N := ["_law_script", "_law_limits", "_law_nothing", "_law_turn"]) (sc := defScope (top 88)) (by decide +kernel)) (fun _ _ _ _ _ => pg_name (i := 3) scLw.nd rfl (.inl rfl)) (fun _ _ _ _ _ => pts_nil) (fun _ _ _ _ _ => (pe_callG GR hr hgd (by rfl) DR.gl DR.fn.kp bR pass0 (pa_cons (pe_call GJ hr1 (by rfl) DJ.gl DJ.fn.kp bJ .nil pass0 (pa_cons (pv 0) (pa_cons (pv 3) pa_nil))) pa_nil)))) pa_nil)))))))))), ?_⟩
    have shl : Shw (.list (limN.map .int)) := gd_lim.shw (by decide) (by decide)
    refine rd_sq ⟨by show 9 ≤ sizeLine; decide, fun p1 h1 => rd_gn ?_⟩
    dsimp only
    refine rd_sq ⟨.ref p1, rfl, .ref p1, .list (limN.map .int), rfl, .lst (SqL.of (xs := limN.map V.int) upd_same) (dp_ints limN), shl, ?_⟩
    refine ⟨10, 6, rfl, rfl, ⟨by decide, by decide, by decide⟩, 10, 30, rfl, rfl, ⟨by decide, by decide, by decide⟩, by show 9 ≤ sizeLine; decide, fun p2 h2 => ?_⟩
    refine ⟨.ref p2, .list (limN.map .int), rfl, .lst (SqL.of (xs := limN.map V.int) (by rw [upd_same, lim_eq])) (dp_ints limN), shl, rfl, false, ?_, ?_⟩
    · rw [decide_eq_true rfl]
      rfl
    dsimp only
    rw [if_neg Bool.false_ne_true]
    refine rd_nx ?_
    dsimp only
    have S2 := (same_new (o := .lst [V.int 8, V.int 1000000, V.int 100, V.int 64, V.int 1000000000000000000000000000000, V.int 40, V.int 400, V.int 12, V.int 16]) h1).trans (same_new (o := .lst [V.int 8, V.int (10 ^ Int.toNat 6), V.int 100, V.int 64, V.int (10 ^ Int.toNat 30), V.int 40, V.int 400, V.int 12, V.int 16]) h2)
    have hS2 := S2.seq hS
    refine rd_sq (rd_asg (rd_op ⟨by show 1 ≤ sizeLine; decide, fun p3 h3 => rd_c (rd_mul (n := 57) (xs := [.bl false]) upd_same (by decide) (by show 1 * 57 ≤ 1000; decide) fun p4 H4 s4 h4 => rd_gn ?_)⟩))
    dsimp only
    have hS4 : SqL K H4 a (ns.map V.int) := s4.seq ((same_new h3).seq hS2)
    have h4 : H4 p4 = some (.lst ((List.replicate 57 false).map V.bl)) := by
      rw [h4, flat_rep, List.map_replicate]
    clear hS2 S2 s4 h3 h2 h1 hS
    refine rd_sq (rd_base3 T nA rfl due3_A rfl h4 fun H5 s5 => ⟨false, rfl, ?_⟩)
    dsimp only
    rw [if_neg Bool.false_ne_true]
    refine rd_nx ?_
    dsimp only
    refine rd_sq (rd_base3 T nB rfl due3_B rfl (s5 _ _ h4) fun H6 s6 => ⟨false, rfl, ?_⟩)
    dsimp only
    rw [if_neg Bool.false_ne_true]
    refine rd_nx ?_
    dsimp only
    refine rd_sq (rd_base3 T nC rfl due3_C rfl (s6 _ _ (s5 _ _ h4)) fun H7 s7 => ⟨false, rfl, ?_⟩)
    dsimp only
    rw [if_neg Bool.false_ne_true]
    refine rd_nx ?_
    dsimp only
    have hS7 : SqL K H7 a (ns.map V.int) := s7.seq (s6.seq (s5.seq hS4))
    have bnd : ∀ l : Int, 2 ≤ (if (if (3 : Int) < l then (3 : Int) else l) > 2 then (if (3 : Int) < l then (3 : Int) else l) else 2) ∧ (if (if (3 : Int) < l then (3 : Int) else l) > 2 then (if (3 : Int) < l then (3 : Int) else l) else 2) ≤ 3 := by
      intro l
      split
      · rename_i h
        revert h
        split <;> intro h <;> omega
      · omega
    have bl := bnd ((ns.map V.int).length : Int)
    refine rd_ret (rd_cb1 (rd_lcRS ⟨.ref a, rfl, a, ns.map V.int, rfl, .inl hS7, _, _, rfl, _, _, rfl, _, rfl, by omega, by omega, fun D8 hD => ⟨fun i H1 => Same H7 H1 ∧ H1 D8 = some (.lst ((List.replicate i true).map V.bl)), ⟨same_new hD, upd_same⟩, fun i H1 hi h => ?_, fun H1 h => ?_⟩⟩ ?_))
    rotate_left 2
    · intro Q1 Q2 hq h
      obtain ⟨v, e1, p, ys, e2, e3, i, j, e4, i2, j2, e5, q⟩ := h
      exact ⟨v, e1, p, ys, e2, e3, i, j, e4, i2, j2, e5, hq _ _ q⟩
    · obtain ⟨s8, h8⟩ := h
      refine ⟨.ref a, rfl, .int (0 + (i : Int)), rfl, a, ns, 0 + (i : Int), rfl, s8.seq hS7, hn, by omega, by omega, fun j H9 hj jar s9 => ⟨j, rfl, jar, fun H10 s10 => ?_⟩⟩
      have dj : D8 ≠ j := ne_of_none h8 hj
      refine ⟨_, s10 _ _ dj (s9 _ _ h8), ?_, fun b o hb => ?_, ?_⟩
      · rw [List.length_map, List.length_replicate]
        exact small1000 (by omega)
      · rw [upd_ne (ne_of_none hb hD)]
        exact s10 _ _ (ne_of_none (s8 _ _ hb) hj) (s9 _ _ (s8 _ _ hb))
      · rw [upd_same, List.replicate_succ', List.map_append]
        rfl
    · obtain ⟨s8, h8⟩ := h
      refine ⟨D8, _, rfl, SqL.of h8, ?_⟩
      have e : ∀ n : Nat, (List.replicate n true).all id = true := fun n => by
        rw [List.all_replicate]
        simp
      rw [e]
      exact k _
end
end K1
set_option Elab.async false
set_option linter.all false
set_option maxRecDepth 100000
set_option maxHeartbeats 4000000
namespace GX
open PySem PySem.Spec PyProof.Rows L2
/-- a law whose def asks that no repr runs around it -/
theorem walkG {l : PySem.W.OpenLaw} {n k : Nat} {q : Program} {loose : List Str} {XP : (Str → Option Value) → Heap → Prop} {YP : World → Heap → Prop} {d : DefRec} {CX : CXT} {x : Str}
    (hn : l.most = some n) (hn2 : n ≤ sizeLine) (hdf : d.params.defaults = []) (hr : Room k callerA)
    (F : ∀ (w : World) (mg : Str → Option Value) (fa : Addr) (h : Heap), YP w h → h.Ns mainGlobals mg → mg d.name = some (.ref fa) →
      ∃ (K : PySem.W.Frag) (fd : FuncData) (sp : Sp), K.In h ∧ (∀ (s : Shared) (u : Value), BindsTo s fd ⟨[u], []⟩ [(x, u)]) ∧
        (∀ (H : Hp) (a : Addr) (ns : List Int), ns.length ≤ n → Only H → SqL K H a (ns.map V.int) → sp [.ref a] H (fun v _ => v = .bl true) fun _ _ _ => False) ∧
        ∀ base : Heap, K.In base → base.Ns mainGlobals mg → FnG l.prog w K mg base CX k fa fd [x] sp)
    (hCX : ∀ (H : Hp) (s : Shared) (e : Value) (s' : Shared), CX [] H s (fun _ _ _ => False) e s' → False) :
    PySem.W.WalkO q loose XP YP l.row.toRowW d [] (fun f vs => PySem.call f vs) :=
  Att.attach_call hn hdf fun w s₀ s₁ mg mb fa o pm cd doc a vs ns G Y ho hd hcd hmg hobj hints hlen hg => by
    obtain ⟨K, fd, sp, KX, hb, hsp, hF⟩ := F w mg fa _ Y G.T.g hmg
    exact lawG KX G.T.g G.T.b G.T.builtins G.T.nolimit hg hobj hints (Nat.le_trans hlen hn2) hr hF hb (fun H hO hS => hsp H a ns hlen hO hS) fun H e s' => hCX H s₁ e s'
end GX
namespace K1
open PySem PySem.Spec PyProof.Rows L2 GX HX
section
variable {P : Program} {w : World} {K : PySem.W.Frag} {h : Heap} {mg : Str → Option Value}
/-- what the four looks say -/
structure Says (K : PySem.W.Frag) : Prop where
  a : p1.says K
  b : p2.says K
  c : p3.says K
  d : p4.says K
theorem rows_of (c : Says K) : ∀ x ∈ tab, RowOk K x := fun x hx => by
  have h1 : ∀ y ∈ tab1 ++ tab2, rowB K y = true := fun y hy => List.all_eq_true.mp c.a.1 y hy
  have h2 : ∀ y ∈ tab3 ++ tab4, rowB K y = true := fun y hy => List.all_eq_true.mp c.b.1 y hy
  refine row_ok ?_
  rcases List.mem_append.mp (show x ∈ (tab1 ++ tab2) ++ tab3 ++ tab4 from hx) with q | q
  · rcases List.mem_append.mp q with q | q
    · exact h1 x q
    · exact h2 x (List.mem_append_left _ q)
  · exact h2 x (List.mem_append_right _ q)
theorem txt_of (X : K.In h) (G : h.Ns mainGlobals mg) (c : Says K) : Txt K mg := by
  obtain ⟨c3, c4⟩ := ba (show okM K = true from c.c.1)
  obtain ⟨c5, c6⟩ := ba c4
  obtain ⟨c7, c8⟩ := ba c6
  have rows := rows_of c
  exact ⟨rows, of_decide_eq_true c8, fun c hc => PySem.W.mg_of X G (rows c hc).gl, fun b hb => He.free_ok X G (List.all_eq_true.mp c5 b hb), fun l hl => He.int_ok X G (List.all_eq_true.mp c7 l hl)⟩
theorem df_of (X : K.In h) (G : h.Ns mainGlobals mg) (c : Says K) {x : Str} {i : Nat} (hm : dOf x i ∈ fnsL) : ∃ fd, Df K mg x i (He.fAd K (x, none)) fd := by
  obtain ⟨fd, F⟩ := Part.def_ c.c (d := dOf x i) hm
  obtain ⟨c3, c4⟩ := ba (show okM K = true from c.c.1)
  exact ⟨fd, fun_of F, He.glo_ok X G (List.all_eq_true.mp c3 _ hm)⟩
theorem initAt_ok : (tab.all fun c => c.fl == [] || (match initAt.find? fun p => p.1 == c.nm with
    | some p => initAt.contains p && (p.1 == c.nm && (decide (initAt.lookup c.nm = some p.2) && (initB (inClass (top p.2) 0) c.fl && fls.contains c.fl)))
    | none => false)) = true := by decide +kernel
theorem inits_of (c : Says K) : Inits K := by
  intro r hr ne
  have q := List.all_eq_true.mp initAt_ok r hr
  have nb : (r.fl == []) = false := by
    cases e : r.fl with
    | nil => exact absurd e ne
    | cons _ _ => rfl
  rw [nb, Bool.false_or] at q
  split at q
  · rename_i p hp
    obtain ⟨q1, q⟩ := ba q
    obtain ⟨q2, q⟩ := ba q
    obtain ⟨q3, q⟩ := ba q
    obtain ⟨q4, q5⟩ := ba q
    have hpm : p ∈ initAt := List.contains_iff_mem.mp q1
    have e1 : p.1 = r.nm := beq_iff_eq.mp q2
    have e3 : stOf r = inClass (top p.2) 0 := by
      unfold stOf
      rw [of_decide_eq_true q3]
      rfl
    obtain ⟨fd, F⟩ := Part.def_ c.d (d := iOf p) (List.mem_map.mpr ⟨p, hpm, rfl⟩)
    have F2 := fun_of F
    refine ⟨⟨fd, ?_⟩, by rw [e3]; exact q4, List.contains_iff_mem.mp q5⟩
    rw [e3, ← e1]
    exact F2
  · cases q
theorem facts (X : K.In h) (G : h.Ns mainGlobals mg) (c : Says K) {f : Addr} (hfa : mg ("law" : Str) = some (.ref f)) :
    ∃ fd : FuncData, (∀ (s : Shared) (v : Value), BindsTo s fd ⟨[v], []⟩ [("_law_script", v)]) ∧ ∀ base : Heap, K.In base → base.Ns mainGlobals mg → FnG P w K mg base CX0 5 f fd ["_law_script"] (spLaw K) := by
  have T := txt_of X G c
  have M := inits_of c
  obtain ⟨fdJ, DJ⟩ := df_of X G c (x := "_law_jar") (i := 71) (by simp [fnsL])
  obtain ⟨fdD, DD⟩ := df_of X G c (x := "_law_dip") (i := 72) (by simp [fnsL])
  obtain ⟨fdO, DO⟩ := df_of X G c (x := "_law_one_of") (i := 73) (by simp [fnsL])
  obtain ⟨fdG, DG⟩ := df_of X G c (x := "_law_great") (i := 74) (by simp [fnsL])
  obtain ⟨fdS, DS⟩ := df_of X G c (x := "_law_sort") (i := 75) (by simp [fnsL])
  obtain ⟨fd1, D1⟩ := df_of X G c (x := "_law_first_givens") (i := 76) (by simp [fnsL])
  obtain ⟨fd2, D2⟩ := df_of X G c (x := "_law_indexes") (i := 77) (by simp [fnsL])
  obtain ⟨fd3, D3⟩ := df_of X G c (x := "_law_kinds") (i := 78) (by simp [fnsL])
  obtain ⟨fd4, D4⟩ := df_of X G c (x := "_law_answers") (i := 79) (by simp [fnsL])
  obtain ⟨fd5, D5⟩ := df_of X G c (x := "_law_bases") (i := 80) (by simp [fnsL])
  obtain ⟨fdC, DC⟩ := df_of X G c (x := "_law_classes") (i := 81) (by simp [fnsL])
  obtain ⟨fdP, DP⟩ := df_of X G c (x := "_law_by_place") (i := 82) (by simp [fnsL])
  obtain ⟨fdN, DN⟩ := df_of X G c (x := "_law_by_name") (i := 83) (by simp [fnsL])
  obtain ⟨fdA, DA⟩ := df_of X G c (x := "_law_attributes") (i := 84) (by simp [fnsL])
  obtain ⟨fdT, DT⟩ := df_of X G c (x := "_law_caught") (i := 85) (by simp [fnsL])
  obtain ⟨fdM, DM⟩ := df_of X G c (x := "_law_made_right") (i := 86) (by simp [fnsL])
  obtain ⟨fdR, DR⟩ := df_of X G c (x := "_law_right") (i := 87) (by simp [fnsL])
  obtain ⟨fd, D⟩ := df_of X G c (x := "law") (i := 88) (by simp [fnsL])
  have e := hfa.symm.trans D.gl
  cases e
  have hb : ∀ (s : Shared) (v : Value), BindsTo s fd ⟨[v], []⟩ [("_law_script", v)] := fun s v => by
    obtain ⟨oc, od, kV, doc, pm, an, cdv, ct, osl, rfl, lk, hcd⟩ := D.fn.ex
    exact .of_eq rfl
  refine ⟨fd, hb, fun base _ _ => ?_⟩
  have GC := ok_cls (P := P) (w := w) (base := base) DC T D1 D2 D3 D4 D5
  exact ok_law D T DJ DR (ok_right DR T DS (ok_sort DS T DD DO DG) DM (ok_mr DM T DA DC GC) DP (ok_place DP T M) DN (ok_named DN T M) DT (ok_cau DT T M)) DC GC
end
end K1
set_option Elab.async false
set_option linter.all false
set_option maxRecDepth 100000
set_option maxHeartbeats 0
namespace K1
open PySem PySem.Spec PyProof.Rows L2 GX HX
def looks : List Part := [p1, p2, p3, p4]
theorem runs (w : World) : ∀ p ∈ looks, HX.Run1 R 15200 p w := by
  intro p hp
  rcases List.mem_cons.mp hp with e | hp
  · rw [e]; exact run1 w
  rcases List.mem_cons.mp hp with e | hp
  · rw [e]; exact run2 w
  rcases List.mem_cons.mp hp with e | hp
  · rw [e]; exact run3 w
  rw [List.mem_singleton.mp hp]
  exact run4 w
theorem says_of {K : PySem.W.Frag} (c : ∀ p ∈ looks, p.says K) : Says K :=
  ⟨c p1 (List.mem_cons_self ..), c p2 (List.mem_cons_of_mem _ (List.mem_cons_self ..)), c p3 (List.mem_cons_of_mem _ (List.mem_cons_of_mem _ (List.mem_cons_self ..))), c p4 (List.mem_cons_of_mem _ (List.mem_cons_of_mem _ (List.mem_cons_of_mem _ (List.mem_cons_self ..))))⟩
end K1
open PySem PySem.W PySem.Calls PyProof.Rows
theorem PySem.Challenge.cw_gridwright_k01_whole_errors_and_limits_holds : PySem.Challenge.rw_gridwright_k01_whole_errors_and_limits.Holds := by
  w_on; o_law
  refine HandSHeadRun.head_any (r := K1.R) (q := view K1.R.prog [88]) (H := HX.hookP K1.looks) (ob := fun s => K1.looks.map fun p => p.see (HandSHeadRun.getT s)) (M := 15200) (loose := K1.loose) (d := HandSHeadRun.topDef K1.R.prog 88) (kwd := []) (HX.see_eq K1.looks)
    (by kernel_rfl) (fun s => by kernel_rfl) (fun w => HX.run_all (K1.run0 w) (K1.runs w)) (by kernel_rfl) (by kernel_rfl) (by kernel_rfl) (by rfl) (by first | assumption | decide +kernel) (by decide +kernel) ⟨rfl, rfl, rfl, rfl, rfl, by decide +kernel⟩ ?hw ?hc
  case hw => w_witness2
  case hc =>
    refine GX.walkG (l := PySem.Challenge.rw_gridwright_k01_whole_errors_and_limits) (n := 63) (k := 5) (x := "_law_script") (CX := L2.CX0) rfl (by decide) (by kernel_rfl) ⟨rfl, by decide, by decide⟩ ?F (fun _ _ _ _ z => z)
    intro w mg fa h Y G hmg0
    obtain ⟨K, KX, c⟩ := Y
    have hmg : mg ("law" : PySem.Str) = some (.ref fa) := by
      have e : (HandSHeadRun.topDef K1.R.prog 88).name = ("law" : PySem.Str) := by kernel_rfl
      rw [← e]
      exact hmg0
    obtain ⟨fd, hb, hF⟩ := K1.facts (P := (PySem.Challenge.rw_gridwright_k01_whole_errors_and_limits).prog) (w := w) KX G (K1.says_of c) hmg
    exact ⟨K, fd, K1.spLaw K, KX, hb, fun H a ns hl _ hS => ⟨a, ns, rfl, hS, hl, fun _ => rfl⟩, hF⟩
