import PyProof.Rows.All
import Wide.All
import OpenK.AllK
import Wide.FinOn
import PyProof.EqAt
import PyProof.EqKinds
import PyProof.TupleCall
import PyProof.ReprRoads
import KE.KIsAll
import HandS.ForMost
import HandS.ForExc
import HandS.ExcInit
import HandS.ExcValue
import HandS.ExcIs
import HandS.ExcField
import HandS.MakeKw
import HandS.IsInst
import KE.KStateDown
import HandS.Defaults
import HandS.Head0
import HandS.Head1
import HandS.Head2
import HandS.HeadHook1
import HandS.HeadHook2
import HandS.Wide
import HandS.WideBits
import HandS.Gcd
import HandS.FStr
import HandS.Property
import HandS.Flow
import HandS.Style
import HandS.CallSlots
import HandS.StrMore
import KE.KOpsOwn
import HandS.OwnEq
import HandS.ClsMeth
import HandS.Codes
import HandS.MakeKwOnly
import KE.KMathG
import Flt.RightSqrt
import PyProof.ReprLen
import PyProof.FitsInt
import HandS.Head3
import OpenK.KCls
import PySem.Challenge.RW_gridwright_k03_whole_rests_and_their_sig
import HandS.Dict
import HandS.HeadEnd
set_option Elab.async false
set_option linter.all false
set_option maxRecDepth 100000
set_option maxHeartbeats 4000000
/-! A layer of my own over the hand layer: texts of data, errors held as values. -/
namespace GX
open PySem PySem.Spec PyProof.Rows L2

/-! ### repr of data -/
structure Shw (d : PyData) : Prop where
  sh : d.showable = true
  nd : d.hasDict = false
  ln : d.shown.length ≤ sizeLine
  dp : d.depth ≤ 30
def rRepr (K : PySem.W.Frag) : List V → Hp → VK → Prop := fun xs H Q => ∃ (v : V) (d : PyData), xs = [v] ∧ Dp K H v d ∧ Shw d ∧ Q (.str d.shown) H
theorem call_reprD {X : Cx} (hg : X.A.guards = some []) (hu : X.A.units + 64 < cLine) : CallR X (.builtin "repr") (rRepr X.K) := by
  intro pins s σ H xs us Q I r h
  obtain ⟨v, d, rfl, hd, hs, q⟩ := h
  obtain ⟨u, rfl, ru⟩ := Vals.one r
  cases hd with
  | non => cases ru; exact P.repr_of_none ⟨.str _, H, I.tok _, ⟨_, rfl⟩, q⟩
  | bl b => cases ru; exact P.repr_of_bool ⟨.str _, H, I.tok _, ⟨_, rfl⟩, q⟩
  | int i =>
    obtain ⟨t, rfl⟩ := ru
    exact P.repr_of_int (of_decide_eq_true hs.sh) ⟨.str _, H, I.tok _, ⟨_, rfl⟩, q⟩
  | str x =>
    obtain ⟨t, rfl⟩ := ru
    exact P.repr_of_str ⟨.str _, H, I.tok _, ⟨_, rfl⟩, q⟩ hs.ln
  | lst h1 h2 =>
    obtain ⟨as, rd⟩ := Dp.reads I _ _ _ (.lst h1 h2) ru
    cases ru
    refine repr_of_reads' rd hs.sh (fun z => by rw [hs.nd] at z; cases z) hg (by have := hs.dp; omega) (fun _ _ e => e) (fun h' u tk k => ?_) hs.ln
    exact ⟨.str _, H, I.kept k, ⟨_, rfl⟩, q⟩
  | tup h1 h2 =>
    obtain ⟨as, rd⟩ := Dp.reads I _ _ _ (.tup h1 h2) ru
    cases ru
    refine repr_of_reads' rd hs.sh (fun z => by rw [hs.nd] at z; cases z) hg (by have := hs.dp; omega) (fun _ _ e => e) (fun h' u tk k => ?_) hs.ln
    exact ⟨.str _, H, I.kept k, ⟨_, rfl⟩, q⟩
end GX
set_option Elab.async false
set_option linter.all false
set_option maxRecDepth 100000
set_option maxHeartbeats 4000000
/-! Promises of defs that show data: they ask that no repr runs around them. -/
namespace GX
open PySem PySem.Spec PyProof.Rows L2

structure FnG (P : Program) (w : World) (K : PySem.W.Frag) (mg : Str → Option Value) (base : Heap) (CX : CXT) (k : Nat) (f : Addr) (fd : FuncData) (ps : List Str) (sp : Sp) : Prop where
  len : ∀ vs H Q E, sp vs H Q E → vs.length = ps.length
  run : ∀ (A : Around) (outer : List Env) (s : Shared) (H : Hp) (args : Args) (us : List Value) (vs : List V) (Q : VK) (E : XK), Room k A → A.guards = some [] → Env0 P w K mg base A outer s H →
    BindsTo s fd args (ps.zip us) → Vals vs us → sp vs H Q E → codeAny (model P w) A (.call (.ref f) args) (CR CX outer P w H s Q E) s

section
variable {P : Program} {w : World} {K : PySem.W.Frag} {mg : Str → Option Value} {base : Heap}
theorem fnG_of {CX : CXT} {x qual : Str} {st : Stmt} {f : Addr} {fd : FuncData} {N ps : List Str} {k : Nat} {sp : Sp} (F : Fun K x qual st f fd) (S : FnScope N ps (defScope st)) (len : ∀ vs H Q E, sp vs H Q E → vs.length = ps.length)
    (hbody : ∀ (cdv : Value) (A : Around) (outer : List Env) (s : Shared) (H : Hp) (vs : List V) (Q : VK) (E : XK), Room k (A.deeper (envOfC qual (defScope st) s.heap.objs.size f cdv)) → A.guards = some [] → sp vs H Q E →
      ∃ t, PSs (cxOf CX P w K mg base N qual (defScope st) f cdv A outer s H E) (defBody st) t ∧ t { nx := fun _ H' => Q .non H', rt := Q } (start N vs) H) : FnG P w K mg base CX (k + 1) f fd ps sp := by
  obtain ⟨oc, od, kV, doc, pm, an, cdv, ct, osl, rfl, lk, hcd⟩ := F.ex
  refine ⟨len, ?_⟩
  intro A outer s H args us vs Q E hr hgd e0 hb r hsp
  have nVs := len vs H Q E hsp
  have inK : K.In s.heap := e0.mod.kin.keeps (fun b o z => (e0.bs b o z).1)
  have noLim : s.heap.NoLimit := e0.mod.nolimit.keeps (fun b o z => (e0.bs b o z).1)
  have params : ∀ y ∈ ps.zip us, (defScope st).names.lookup y.1 = some .local ∨ ((defScope st).names.lookup y.1 = some .cell ∧ ((cellsFrom (s.heap.objs.size + 1) (defScope st).names []).lookup y.1).isSome = true) := by
    rintro ⟨n, v⟩ hy
    have := S.par n (List.of_mem_zip hy).1
    rcases this with z | z
    · left; exact z
    · right; exact ⟨z, PySem.W.cellsFrom_some _ _ _ (.inl z)⟩
  refine codeAny_call_function hr.depth (inK _ _ lk) rfl S.co S.gen rfl (PySem.W.codeRec_of inK hcd) (hb _ _ _ _ (wpAny_newFunctionEnv_cells S.kind params (fun env he s1 ic => ?_)))
  subst he
  obtain ⟨t, ht, hq⟩ := hbody cdv A outer s H vs Q E (hr.deeper _) hgd hsp
  have J := inv_start (CX := CX) (P := P) (w := w) (E := E) S hr.hd e0 nVs r ic
  refine ⟨noLim.keeps ic.toInCall.keep, codeAny_func ?_⟩
  refine wpAny_mono (ht.run [] s1 (start N vs) H _ J hq) (fun fl s' hs => ?_) (fun e s' hs => hs)
  cases fl with
  | ret u => obtain ⟨v, σ', H', I, rv, q⟩ := hs; exact ⟨v, H', I.os, I.bare, I.base, I.hok, rv, q⟩
  | next => obtain ⟨σ', H', I, q⟩ := hs; exact ⟨V.non, H', I.os, I.bare, I.base, I.hok, rfl, q⟩
  | brk => obtain ⟨_, _, _, q⟩ := hs; exact q.elim
  | cont => obtain ⟨_, _, _, q⟩ := hs; exact q.elim
end

section
variable {X : Cx} {CX : CXT} {k : Nat} {f : Addr} {fd : FuncData} {ps : List Str} {sp : Sp} {E : XK} {x : Str} {p pos : Pos} {e : Expr} {es : List Expr} {t : TA}
theorem runG {pins : List (Addr × Obj)} {σ : L2.St} {H : Hp} {s : Shared} {Q : VK} {us : List Value} {vs : List V} (F : FnG X.prog X.w X.K X.mg X.base CX k f fd ps sp) (hr : Room k X.A) (hgd : X.A.guards = some []) (hb : Binds X.K fd ps []) (hx : Passes CX X E)
    (I : Inv X pins σ H s) (r : Vals vs us) (h : sp vs H Q E) : wpAny (model X.prog X.w) X.A (call (.ref f) us) (EP X pins σ Q) X.xe s := by
  have n1 : us.length = ps.length := r.length.symm.trans (F.len vs H Q E h)
  have b1 := hb s us I.kIn (by simpa using n1)
  rw [List.append_nil] at b1
  refine wpAny_call (codeAny_mono (F.run X.A X.stack s H ⟨us, []⟩ us vs Q E hr hgd I.env0 b1 r h) (fun r s' z => ?_))
  cases r with
  | error e => exact hx pins σ H s e s' I z
  | ok fl =>
    cases fl with
    | ret u => exact I.after z
    | next => exact False.elim z
    | brk => exact False.elim z
    | cont => exact False.elim z
theorem pe_callG (F : FnG X.prog X.w X.K X.mg X.base CX k f fd ps sp) (hr : Room k X.A) (hgd : X.A.guards = some []) (hg : Gl X x) (hm : X.mg x = some (.ref f)) (hk : PySem.W.keepIn X.K (.ref f) = true) (hb : Binds X.K fd ps []) (hx : Passes CX X E)
    (ha : PA X (e :: es) t) (hdb : (x == ("__debug__" : Str)) = false := by decide) (he : starEach (e :: es) X.env = (false, eval e X.env) :: starEach es X.env := by rfl) (hpl : (backTo pos (starEach es X.env)).any (·.1) = false := by rfl) :
    PE X (.Call (.Name x p) (e :: es) [] pos) (fun σ H Q => t σ H fun vs H1 => sp vs H1 Q E) := by
  refine ⟨fun pins s σ H Q I h => wpAny_Call_Name_kw (ld_glob I hg hm ?_ hdb)⟩
  refine PySem.W.callWith_K (h₀ := X.base) I.ok.mod.kin hk (thn (ha.run pos pins s σ H _ I h) (fun us s1 z => ?_)) he hpl
  obtain ⟨vs, H1, I1, r, q⟩ := z
  exact ⟨I1.kIn, runG F hr hgd hb hx I1 r q⟩
end

/-- the law's call, its def's promise asking for no repr around -/
theorem lawG {P : Program} {w : World} {K : PySem.W.Frag} {mg mb : Str → Option Value} {CX : CXT} {k : Nat} {fa a : Addr} {fd : FuncData} {x : Str} {sp : Sp} {s₁ : Shared} {vs : List Value} {ns : List Int}
    (KX : K.In s₁.heap) (hns : s₁.heap.Ns mainGlobals mg) (hb : s₁.heap.Ns builtinsNs mb) (hbb : ∀ x : Str, x ≠ "__name__" → mb x = bootBuiltins x) (hlim : s₁.heap.NoLimit) (hg : s₁.gens = #[])
    (ha : s₁.heap.get? a = some { cls := .type "list", data := .seq vs.toArray }) (hi : IntsAre vs ns) (hl : ns.length ≤ sizeLine) (hr : Room k callerA)
    (F : ∀ base : Heap, K.In base → base.Ns mainGlobals mg → FnG P w K mg base CX k fa fd [x] sp) (hbind : ∀ (s : Shared) (u : Value), BindsTo s fd ⟨[u], []⟩ [(x, u)])
    (hsp : ∀ H : Hp, Only H → SqL K H a (ns.map V.int) → sp [.ref a] H (fun v _ => v = .bl true) fun _ _ _ => False)
    (hCX : ∀ H e s', CX [] H s₁ (fun _ _ _ => False) e s' → False) :
    codeAny (model P w) callerA (.call (.ref fa) ⟨[.ref a], []⟩) (fun r s' => r = .ok (.ret (.bool true)) ∧ OldK s₁.heap s'.heap ∧ s'.os = s₁.os ∧ AllBare s'.gens) s₁ := by
  have rv := vals_ints hi
  have nV := hi.length
  have go : ∀ H : Hp, Only H → SqL K H a (ns.map V.int) → HOk P w H s₁.heap → (∀ b, H b ≠ none → b = a) → (H a ≠ none → K.lookup a = none) →
      codeAny (model P w) callerA (.call (.ref fa) ⟨[.ref a], []⟩) (fun r s' => r = .ok (.ret (.bool true)) ∧ OldK s₁.heap s'.heap ∧ s'.os = s₁.os ∧ AllBare s'.gens) s₁ := by
    intro H hO hS hok hA hK
    have noDict : ∀ {b : Addr} {o : Obj} {es : Array DictEntry} {ep : Nat}, s₁.heap.get? b = some o → o.data = .dict es ep → H b = none := by
      intro b o es ep e d
      cases q : H b with
      | none => rfl
      | some u =>
        obtain rfl : b = a := hA b (by rw [q]; exact fun z => nomatch z)
        rw [ha] at e
        cases e
        exact nomatch d
    have keepNs : ∀ {b : Addr} {m : Str → Option Value}, s₁.heap.Ns b m → (hidT s₁.heap H).Ns b m := by
      rintro b m ⟨o, es, ep, e, d, r⟩
      exact ⟨o, es, ep, hidT_get e (noDict e d), d, r⟩
    have kb : K.In (hidT s₁.heap H) := by
      intro b o e
      refine hidT_get (KX b o e) ?_
      cases q : H b with
      | none => rfl
      | some u =>
        obtain rfl : b = a := hA b (by rw [q]; exact fun z => nomatch z)
        rw [hK (by rw [q]; exact fun z => nomatch z)] at e
        cases e
    obtain ⟨mc, l1, l2⟩ := hlim
    have e0 : Env0 P w K mg (hidT s₁.heap H) callerA [] s₁ H :=
      ⟨rfl, ⟨kb, keepNs hns, ⟨mb, keepNs hb, hbb⟩, ⟨mc, keepNs l1, l2⟩⟩, fun b o e => of_hidT e, Nat.le_of_eq (hidT_size _ _), trivial, fun b hb => absurd (show b ∈ ([] : List Addr) from hb) (by simp), hok, .of_eq hg⟩
    refine codeAny_mono ((F _ kb (keepNs hns)).run callerA [] s₁ H ⟨[.ref a], []⟩ [.ref a] [.ref a] _ _ hr rfl e0 (hbind s₁ (.ref a)) (.cons rfl .nil) (hsp H hO hS)) (fun r s' h => ?_)
    cases r with
    | error e => exact (hCX H e s' h).elim
    | ok fl =>
    cases fl with
    | next => exact False.elim h
    | brk => exact False.elim h
    | cont => exact False.elim h
    | ret u =>
      obtain ⟨v, H', os, bare, un, hok', r', q⟩ := h
      obtain rfl : v = .bl true := q
      obtain rfl : u = Value.bool true := r'
      refine ⟨rfl, OldK.of_keep (fun b o e => ?_), os, bare⟩
      cases q : H b with
      | none => exact un.keep b o e q (fun z => absurd (show b ∈ ([] : List Addr) from z) (by simp)) (by simp)
      | some u =>
        rcases hO b with z | ⟨ob, xs, z⟩
        · rw [q] at z; cases z
        · obtain ⟨e2, _⟩ := hok' b _ (un.frzs b ob _ z)
          obtain ⟨e1, _⟩ := hok b _ z
          rw [e] at e1
          cases e1
          exact e2
  cases hk : K.lookup a with
  | some o =>
    have e := KX a o hk
    rw [ha] at e
    cases e
    exact go (fun _ => none) (fun _ => .inl rfl) (.inr ⟨_, vs.toArray, _, hk, rfl, rfl, rfl, by rw [List.size_toArray, nV]; exact hl, by simpa using rv⟩) (fun b u z => nomatch (show (none : Option HO) = some u from z)) (fun b z => absurd rfl z) (fun z => absurd rfl z)
  | none =>
    refine go (fun b => if b = a then some (.frz { cls := .type "list", data := .seq vs.toArray } (.lst (ns.map V.int))) else none) (fun b => ?_) (.inl (.inr ⟨{ cls := .type "list", data := .seq vs.toArray }, if_pos rfl⟩)) (fun b u z => ?_) (fun b z => ?_) (fun _ => hk)
    · by_cases hb : b = a
      · exact .inr ⟨_, _, if_pos hb⟩
      · exact .inl (if_neg hb)
    · by_cases hb : b = a
      · subst hb
        have z' : some (HO.frz { cls := .type "list", data := .seq vs.toArray } (.lst (ns.map V.int))) = some u := (if_pos rfl).symm.trans z
        cases z'
        exact ⟨ha, by rw [List.length_map]; exact hl, vs, _, rv, ha⟩
      · exact nomatch (show (none : Option HO) = some u from (if_neg hb).symm.trans z)
    · by_cases hb : b = a
      · exact hb
      · exact absurd (if_neg hb) z
end GX
set_option Elab.async false
set_option linter.all false
set_option maxRecDepth 100000
set_option maxHeartbeats 4000000
/-! Errors of own classes over any built-in error, made with places or names, held as values. -/
namespace GX
open PySem PySem.Spec PySem.Calls PyProof.Rows PySem.HandSPX Builtin Builtin.ObjectAttr

/-! ### own classes ahead of a built-in tail -/
def isR : Value → Bool
  | .ref _ => true
  | _ => false
def mroB (tl l : List Value) : Bool := l.dropWhile isR == tl
theorem refs_of : ∀ l : List Value, (∀ v ∈ l, isR v = true) → ∃ cs : List Addr, l = cs.map Value.ref
  | [], _ => ⟨[], rfl⟩
  | v :: r, h => by
    obtain ⟨cs, e⟩ := refs_of r fun u hu => h u (List.mem_cons_of_mem _ hu)
    have q := h v (List.mem_cons_self ..)
    cases v with
    | ref a => exact ⟨a :: cs, by rw [e]; rfl⟩
    | _ => cases q
theorem over_of {tl l : List Value} (h : mroB tl l = true) : ∃ cs : List Addr, l = cs.map Value.ref ++ tl := by
  obtain ⟨cs, e⟩ := refs_of (l.takeWhile isR) fun v hv => by
    have := List.all_takeWhile (p := isR) (l := l)
    exact List.all_eq_true.mp this v hv
  have q : l.dropWhile isR = tl := beq_iff_eq.mp h
  refine ⟨cs, ?_⟩
  rw [← e, ← q, List.takeWhile_append_dropWhile]
/-- what is asked of the tail -/
structure TlOk (tl : List Value) : Prop where
  pass : ∀ self, refuseLoop self "__setattr__" tl = pure ()
  obj : tl.contains (.type "object") = true
theorem pass_of {tl : List Value} (T : TlOk tl) (self : Value) : ∀ cs : List Addr, refuseLoop self "__setattr__" (cs.map Value.ref ++ tl) = pure ()
  | [] => T.pass self
  | c :: cs => by
    show refuseLoop self "__setattr__" (.ref c :: (cs.map Value.ref ++ tl)) = pure ()
    rw [refuseLoop_ref]
    exact pass_of T self cs
theorem has_of {tl : List Value} (Y : String) : ∀ cs : List Addr, (cs.map Value.ref ++ tl).contains (.type Y) = tl.contains (.type Y)
  | [] => rfl
  | c :: cs => by
    show (Value.ref c :: (cs.map Value.ref ++ tl)).contains (.type Y) = _
    rw [List.contains_cons, has_of Y cs]
    rfl
structure Mr (tl m : List Value) : Prop where
  pass : ∀ self, refuseLoop self "__setattr__" m = pure ()
  has : ∀ Y : String, m.contains (.type Y) = tl.contains (.type Y)
  ne : m.isEmpty = false
theorem mr_of {tl m : List Value} (T : TlOk tl) (h : mroB tl m = true) : Mr tl m := by
  obtain ⟨cs, rfl⟩ := over_of h
  refine ⟨fun self => pass_of T self cs, fun Y => has_of Y cs, ?_⟩
  cases cs with
  | cons _ _ => rfl
  | nil =>
    cases tl with
    | nil => exact absurd T.obj (by decide)
    | cons _ _ => rfl
theorem mr_cons {tl m : List Value} (C : Addr) (M : Mr tl m) : Mr tl (.ref C :: m) := by
  refine ⟨fun self => ?_, fun Y => ?_, rfl⟩
  · rw [refuseLoop_ref]
    exact M.pass self
  · rw [List.contains_cons, M.has]
    rfl
abbrev tlV : List Value := [.type "ValueError", .type "Exception", .type "BaseException", .type "object"]
abbrev tlL : List Value := [.type "LookupError", .type "Exception", .type "BaseException", .type "object"]
abbrev tlA : List Value := [.type "ArithmeticError", .type "Exception", .type "BaseException", .type "object"]
theorem tlOkV : TlOk tlV := ⟨fun self => by kernel_rfl, by decide +kernel⟩
theorem tlOkL : TlOk tlL := ⟨fun self => by kernel_rfl, by decide +kernel⟩
theorem tlOkA : TlOk tlA := ⟨fun self => by kernel_rfl, by decide +kernel⟩

/-! ### making, with places or names -/
section
variable {prog : Program} {w : World} {A : Around} {E : Value → Shared → Prop} {R : Result → Shared → Prop} {h : Heap} {g : Array GenState} {d : Drawn} {t : Nat} {os : OsState}
variable {nm q : Str} {C N : Addr} {bs bm bmB : List Value} {hdct : Bool} {sn : List Str} {sub : List Value} {ab : Bool} {col : Option Bool} {dd : Option Addr} {k0 k1 k2 k3 k5 : Option Value} {B newId initId : String}
theorem gx_checkNew {M : Model} (F : ExcBaseFacts B newId initId bmB) (hT : ∀ Y : String, bm.contains (.type Y) = bmB.contains (.type Y)) {rest : List Value} {kw : List (Str × Value)} {Q : Unit → Shared → Prop}
    (hC : h.get? C = some (excClassObj nm q C N bs bm hdct sn sub ab col dd k0 k1 k2 k3 k5 newId)) (hkw : kw = [] ∨ rest = []) (hq : Q () ⟨h, g, d, t, os⟩) : wpAny M A (checkBuiltinCall newId ⟨.ref C :: rest, kw⟩) Q E ⟨h, g, d, t, os⟩ := by
  have c1 : (Value.ref C :: bm).contains (.type B) = true := by
    rw [List.contains_cons, hT, F.hasB]
    exact Bool.or_true _
  have c2 := F.noStar
  simp only [checkBuiltinCall, F.newKind, F.newSplit, F.newRow]
  repeat (first | refine wpAny_loadPart_at hC ?_ | (refine wpAny_isSubtype_exc hC ?_; rw [c1]) | refine wpAny_staticBase_exc hC ?_ | refine wpAny_madeBy_exc hC ?_ | simp only [bne_self_eq_false, Bool.false_eq_true, if_false] | wp_step)
  exact hq
theorem gx_new (F : ExcBaseFacts B newId initId bmB) (hT : ∀ Y : String, bm.contains (.type Y) = bmB.contains (.type Y)) {rest : List Value} {kw : List (Str × Value)}
    (hC : h.get? C = some (excClassObj nm q C N bs bm hdct sn sub ab col dd k0 k1 k2 k3 k5 newId)) (hrest : rest.length ≤ sizeLine)
    (hq : R (.ok (.ret (.ref (h.objs.size + 1)))) ⟨(h.push (W.kdv_tup rest)).push (excO C h.objs.size), g, d, t, os⟩) :
    codeAny (model prog w) A (.builtin newId ⟨.ref C :: rest, kw⟩) R ⟨h, g, d, t, os⟩ := by
  have f0 := F.ends
  have c1 : (Value.ref C :: bm).contains (.type B) = true := by
    rw [List.contains_cons, hT, F.hasB]
    exact Bool.or_true _
  have c2 : (Value.ref C :: bm).contains (.type "AttributeError") = false := by
    rw [List.contains_cons, hT, F.noAttr]
    rfl
  have c3 : (Value.ref C :: bm).contains (.type "NameError") = false := by
    rw [List.contains_cons, hT, F.noName]
    rfl
  refine codeAny_builtinAt F.entry ?_
  unfold Builtin.«BaseException.__new__»
  refine PySem.wpAt_bind ?_
  show PySem.wpAt _ _ _ (stack >>= _) _ _ _
  refine PySem.wpAt_bind (PySem.wpAt_stack fun p below => PySem.wpAt_of_wpAny ?_)
  wp_walk
  refine PySem.wpAt_of_wpAny ?_
  rw [F.owner]
  repeat (first | with_reducible refine wpAny_madeHere_exc F.canon hC ?_ | with_reducible refine wpAny_loadPart_at hC ?_ | (with_reducible refine wpAny_isSubtype_exc hC ?_; first | rw [c1] | rw [c2] | rw [c3]) | wp_step)
  show R _ _
  rw [Heap.size_push]
  exact hq
theorem gx_typeCall (F : ExcBaseFacts B newId initId bmB) (hT : ∀ Y : String, bm.contains (.type Y) = bmB.contains (.type Y)) {rest : List Value} {kw : List (Str × Value)} {fI : Addr} {Q : Fin → Shared → Prop}
    (hC : h.get? C = some (excClassObj nm q C N bs bm hdct sn sub ab col dd k0 k1 k2 k3 k5 newId)) (hkw : kw = [] ∨ rest = [])
    (hi : W.Looks (model prog w) h (typeLookup (.ref C) "__init__") (some (.ref fI))) (hb : ∀ self, W.Looks (model prog w) h (bindSpecial (.ref fI) self) (.ref fI, [self])) (hrest : rest.length ≤ sizeLine)
    (hq : codeAny (model prog w) A (.call (.ref fI) ⟨.ref (h.objs.size + 1) :: rest, kw⟩)
      (fun r s' => match r with | .ok (.ret v) => v = .none ∧ Q (.done (.ret (.ref (h.objs.size + 1)))) s' | .ok _ => False | .error e => E e s')
      ⟨(h.push (W.kdv_tup rest)).push (excO C h.objs.size), g, d, t, os⟩) :
    wpAny (model prog w) A (Builtin.«type.__call__» ⟨.ref C :: rest, kw⟩) Q E ⟨h, g, d, t, os⟩ := by
  repeat (first | with_reducible refine wpAny_loadPart_at hC ?_ | with_reducible refine wpAny_madeBy_exc hC ?_ | wp_step)
  refine codeAny_call_builtin_code (Code.quiet_builtin _ F.quiet) (gx_checkNew F hT hC hkw ?_)
  refine gx_new F hT hC hrest ?_
  show wpAny _ _ _ _ _ _
  have k : ∀ b o, h.get? b = some o → ((h.push (W.kdv_tup rest)).push (excO C h.objs.size)).get? b = some o := fun b o e => Heap.get?_push_of_some _ (Heap.get?_push_of_some _ e)
  have hC2 := k _ _ hC
  have at2 : ((h.push (W.kdv_tup rest)).push (excO C h.objs.size)).get? (h.objs.size + 1) = some (excO C h.objs.size) := by heap_get
  have cC : (Value.ref C :: bm).contains (.ref C) = true := by simp
  have i2 := hi.keeps k
  have b2 := (hb (.ref (h.objs.size + 1))).keeps k
  unfold isInstance
  repeat (first | with_reducible refine wpAny_loadPart_at at2 ?_ | (with_reducible refine wpAny_isSubtype_exc hC2 ?_; rw [cC]) | wp_step)
  show wpAny _ _ (typeLookup (.ref C) _) _ _ _
  refine i2.at ?_
  refine wpAny_holding (wpAny_bind (b2.at ?_))
  refine wpAny_bind (wpAny_call (codeAny_mono hq fun r s' z => ?_))
  rcases r with e | (v | _ | _ | _) <;> first | exact z | exact z.elim | skip
  obtain ⟨rfl, z⟩ := z
  first
    | exact wpAny_pure (wpAny_pure z)
    | (wp_walk; exact z)
theorem gx_checkType {M : Model} {rest : List Value} {kw : List (Str × Value)} {Q : Unit → Shared → Prop} (hC : h.get? C = some (excClassObj nm q C N bs bm hdct sn sub ab col dd k0 k1 k2 k3 k5 newId))
    (hq : Q () ⟨h, g, d, t, os⟩) : wpAny M A (checkBuiltinCall "type.__call__" ⟨.ref C :: rest, kw⟩) Q E ⟨h, g, d, t, os⟩ := by
  have f3 := tc_sub
  have hT : (⟨h, g, d, t, os⟩ : Shared).TypeIs (.ref C) "type" := ⟨_, hC, rfl⟩
  simp only [checkBuiltinCall, tc_kind, tc_split]
  repeat (any_goals (first | assumption | with_reducible refine wpAny_loadPart_at hC ?_ | with_reducible refine wpAny_onRaise ?_ | with_reducible refine wpAny_map ?_ | wp_step))
theorem gx_call (F : ExcBaseFacts B newId initId bmB) (hT : ∀ Y : String, bm.contains (.type Y) = bmB.contains (.type Y)) {rest : List Value} {kw : List (Str × Value)} {fI : Addr}
    (hC : h.get? C = some (excClassObj nm q C N bs bm hdct sn sub ab col dd k0 k1 k2 k3 k5 newId)) (hkw : kw = [] ∨ rest = [])
    (hi : W.Looks (model prog w) h (typeLookup (.ref C) "__init__") (some (.ref fI))) (hb : ∀ self, W.Looks (model prog w) h (bindSpecial (.ref fI) self) (.ref fI, [self])) (hrest : rest.length ≤ sizeLine)
    (hq : codeAny (model prog w) (A.under (.builtin "type.__call__" ⟨.ref C :: rest, kw⟩)) (.call (.ref fI) ⟨.ref (h.objs.size + 1) :: rest, kw⟩) (W.InitBack (h.objs.size + 1) R)
      ⟨(h.push (W.kdv_tup rest)).push (excO C h.objs.size), g, d, t, os⟩) :
    codeAny (model prog w) A (.call (.ref C) ⟨rest, kw⟩) R ⟨h, g, d, t, os⟩ := by
  have f1 := tc_lookup
  have f2 := tc_bind (.ref C)
  have hTy : (⟨h, g, d, t, os⟩ : Shared).TypeIs (.ref C) "type" := ⟨_, hC, rfl⟩
  refine codeAny_of_tree ?_
  show wpAny _ _ (callAny (.ref C) _) _ _ _
  repeat (any_goals (first | assumption | with_reducible refine wpAny_loadPart_at hC ?_ | wp_step))
  refine ⟨rfl, ?_⟩
  refine codeAny_call_builtin_at (Code.quiet_builtin _ (by decide +kernel)) entry_typeCall (gx_checkType hC (gx_typeCall F hT hC hkw hi hb hrest ?_))
  refine codeAny_mono hq fun r s' z => ?_
  rcases r with e | (v | _ | _ | _) <;> exact z
end

/-! ### storing a field -/
section
variable {prog : Program} {w : World} {A : Around} {E : Value → Shared → Prop} {R : Result → Shared → Prop} {hp : Heap} {g : Array GenState} {d : Drawn} {t : Nat} {os : OsState} {tl : List Value}
theorem gx_osaNew {K : W.Frag} {name : Str} {tk : Tok} {v : Value} {x C : Addr} {fv : Array Value} {cd : ClassData}
    (X : K.In hp) (hx : hp.get? x = some { cls := .ref C, data := .fields fv }) (hcd : W.clsIn K C = some cd) (hm : Mr tl cd.mro) (ho : tl.contains (.type "object") = true) (hh : cd.hasDict = true) (ha : W.findIn K (.ref C) name = some none)
    (hq : ∀ h' tk' dx, (∀ b o, b ≠ x → hp.get? b = some o → h'.get? b = some o) → hp.objs.size ≤ dx → dx ≠ x → h'.get? x = some { cls := .ref C, dict := some dx, data := .fields fv } →
      h'.Ns1 dx (fun y => if y = name then some v else none) → R (.ok (.ret .none)) ⟨h', g, d, tk', os⟩) :
    codeAny (model prog w) A (.call (.builtin "object.__setattr__") ⟨[.ref x, .str name tk, v], []⟩) R ⟨hp, g, d, t, os⟩ := by
  have I : W.InstAt hp x { cls := .ref C, data := .fields fv } C none := ⟨hx, rfl, rfl, trivial⟩
  have SF := F.store_object
  have isObj : cd.mro.contains (.type "object") = true := (hm.has "object").trans ho
  have xs : x ≠ hp.objs.size := Nat.ne_of_lt (Heap.lt_size hx)
  have sub : W.Looks (model prog w) hp (isInstance (.ref x) (.type "object")) true := I.type.andThen (W.looks_mroIn X (by unfold W.mroIn; rw [hcd, Option.bind_some, if_neg (by rw [hm.ne]; decide), isObj]))
  refine codeAny_call_builtin SF.slot.plain SF.entry (@W.check_slot (model prog w) _ _ ⟨hp, g, d, t, os⟩ "object.__setattr__" "object" "__setattr__" (.ref x) [.str name tk, v] [] _ SF.kind SF.split sub (SF.args (.ref x) (.str name tk) v) ?_)
  have l1 : W.Looks (model prog w) hp (mroOf (.ref C)) cd.mro := (W.looks_clsIn X hcd).andThen .now
  have l2 : W.Looks (model prog w) hp (storeTaker? none) none := .now
  have l3 : W.Looks (model prog w) hp (classData C) cd := W.looks_clsIn X hcd
  rw [W.osa_eq, refuse_eq]
  refine wpAny_bind (wpAny_bind (I.type.at (wpAny_bind (l1.at ?_))))
  rw [hm.pass]
  refine wpAny_pure (wpAny_bind (I.type.at (wpAny_bind ((W.looks_findIn X ha).at (wpAny_bind (l2.at ?_))))))
  show wpAny _ _ (storeInOwnDict (.ref x) (.ref C) (.str name tk) name v false) _ _ _
  obtain ⟨n1, n2, n3, n4, n5, hd, n6, n7, n8, n9, n10⟩ := cd
  dsimp only at hh
  subst hh
  unfold storeInOwnDict ownDictForStores
  repeat (first | with_reducible refine store_in_new ?_ ?_ | with_reducible refine wpAny_loadPart_at hx ?_ | with_reducible refine l3.at ?_ | wp_step)
  · exact ⟨_, #[], _, (Heap.get?_update_ne _ _ _ _ xs.symm).trans (Heap.get?_push_at rfl rfl), rfl, fun e he => absurd he (by simp), fun _ => rfl⟩
  · intro h' tk' hn' hs
    have hx2 : (hp.push { cls := .type "dict", data := .dict #[] }).get? x = some { cls := .ref C, data := .fields fv } := Heap.get?_push_of_some _ hx
    refine hq h' tk' hp.objs.size (fun b o hb ho => ?_) (Nat.le_refl _) xs.symm ?_ hn'
    · exact (hs.2 b (Nat.ne_of_lt (Heap.lt_size ho))).trans ((Heap.get?_update_ne _ _ _ _ hb).trans (Heap.get?_push_of_some _ ho))
    · exact (hs.2 x xs).trans (Heap.get?_update_self _ hx2 rfl)
theorem gx_osaOld {K : W.Frag} {name : Str} {tk : Tok} {v : Value} {x C dx : Addr} {fv : Array Value} {cd : ClassData} {m0 : Str → Option Value} {nl : List Str}
    (X : K.In hp) (hx : hp.get? x = some { cls := .ref C, dict := some dx, data := .fields fv }) (hns : hp.Ns1 dx m0) (hw : Within m0 nl) (hz : nl.length ≤ 1000) (hcd : W.clsIn K C = some cd) (hm : Mr tl cd.mro) (ho : tl.contains (.type "object") = true) (hh : cd.hasDict = true)
    (ha : W.findIn K (.ref C) name = some none)
    (hq : ∀ h' tk', (∀ b o, b ≠ dx → hp.get? b = some o → h'.get? b = some o) → h'.Ns1 dx (fun y => if y = name then some v else m0 y) → R (.ok (.ret .none)) ⟨h', g, d, tk', os⟩) :
    codeAny (model prog w) A (.call (.builtin "object.__setattr__") ⟨[.ref x, .str name tk, v], []⟩) R ⟨hp, g, d, t, os⟩ := by
  obtain ⟨oD, esD, epD, hoD, hdD, _⟩ := hns.count hw
  have I : W.InstAt hp x { cls := .ref C, dict := some dx, data := .fields fv } C (some oD) := ⟨hx, rfl, rfl, hoD⟩
  have SF := F.store_object
  have isObj : cd.mro.contains (.type "object") = true := (hm.has "object").trans ho
  have sub : W.Looks (model prog w) hp (isInstance (.ref x) (.type "object")) true := I.type.andThen (W.looks_mroIn X (by unfold W.mroIn; rw [hcd, Option.bind_some, if_neg (by rw [hm.ne]; decide), isObj]))
  refine codeAny_call_builtin SF.slot.plain SF.entry (@W.check_slot (model prog w) _ _ ⟨hp, g, d, t, os⟩ "object.__setattr__" "object" "__setattr__" (.ref x) [.str name tk, v] [] _ SF.kind SF.split sub (SF.args (.ref x) (.str name tk) v) ?_)
  have l1 : W.Looks (model prog w) hp (mroOf (.ref C)) cd.mro := (W.looks_clsIn X hcd).andThen .now
  have l2 : W.Looks (model prog w) hp (storeTaker? none) none := .now
  have l3 : W.Looks (model prog w) hp (classData C) cd := W.looks_clsIn X hcd
  rw [W.osa_eq, refuse_eq]
  refine wpAny_bind (wpAny_bind (I.type.at (wpAny_bind (l1.at ?_))))
  rw [hm.pass]
  refine wpAny_pure (wpAny_bind (I.type.at (wpAny_bind ((W.looks_findIn X ha).at (wpAny_bind (l2.at ?_))))))
  show wpAny _ _ (storeInOwnDict (.ref x) (.ref C) (.str name tk) name v false) _ _ _
  obtain ⟨n1, n2, n3, n4, n5, hd, n6, n7, n8, n9, n10⟩ := cd
  dsimp only at hh
  subst hh
  unfold storeInOwnDict ownDictForStores
  repeat (first | with_reducible refine PySem.OEX.store_in_old hns hw hz ?_ | with_reducible refine wpAny_loadPart_at hx ?_ | with_reducible refine l3.at ?_ | wp_step)
  intro h' tk' hn' hs
  exact hq h' tk' (fun b o hb ho => (hs.2 b hb).trans ho) hn'
end

/-! ### isinstance: the class of an error with or without a dict -/
section
variable {prog : Program} {w : World} {A : Around} {E : Value → Shared → Prop} {s : Shared} {K : W.Frag} {x D : Addr} {ox : Obj} {od : Option Obj}
theorem gx_findCls {C : Addr} {name : Str} {a g : Value} (hc : (W.clsIn K C).isSome = true) (ha : W.findIn K (.ref C) name = some (some a)) (hg : W.specialIn K a "__get__" = some (some g)) (ht : W.takesIn K a = some true) :
    W.findObj K C od name = some (.bind g a) := by
  obtain ⟨cd, e⟩ := Option.isSome_iff_exists.mp hc
  unfold W.findObj
  rw [e, Option.bind_some, ha, Option.bind_some]
  simp [hg, ht]
open PySem.W in
theorem gx_class {Q : Option Value → Shared → Prop} (hga : findIn K (.ref D) "__getattribute__" = some (some (.builtin "BaseException.__getattribute__"))) (hgt : findIn K (.ref D) "__getattr__" = some none) (hsub : subIn K (.ref D) (.type "BaseException") = some true)
    (hdct : hasDictIn K D = true) (ha : findIn K (.ref D) "__class__" = some (some (.builtin "object.__class__")))
    (hn : specialIn K (.builtin "object.__class__") "__get__" = some (some (.builtin "getset_descriptor.__get__"))) (htk : takesIn K (.builtin "object.__class__") = some true) (hm : mroIn K D (.type "object") = some true)
    (X : K.In s.heap) (I : InstAt s.heap x ox D od) (h : Q (some (.ref D)) { s with toks := s.toks + 1 }) : wpAny (model prog w) A (getAttr? (.ref x) "__class__") Q E s := by
  have fo : findObj K D od "__class__" = some (.bind (.builtin "getset_descriptor.__get__") (.builtin "object.__class__")) :=
    gx_findCls (by obtain ⟨cd, hc, _⟩ := any_some hdct; rw [hc]; rfl) ha hn htk
  obtain ⟨hp, g, d, t, os⟩ := s
  have a0 := I.type (M := model prog w)
  have a1 := looks_findIn (M := model prog w) X hga
  have a2 := looks_findIn (M := model prog w) X hgt
  have a3 := looks_find (M := model prog w) X I fo
  have sub : Looks (model prog w) hp (isInstance (.ref x) (.type "BaseException")) true := a0.andThen (looks_subIn X hsub)
  have q0 : (false && onTheHeap (Value.builtin "BaseException.__getattribute__")) = false := rfl
  have q2 : (Value.builtin "BaseException.__getattribute__" == Value.builtin "object.__getattribute__") = false := by decide +kernel
  have q1 : (onTheHeap (Value.ref D) && Value.builtin "BaseException.__getattribute__" == Value.builtin "object.__getattribute__") = false := by
    rw [q2]
    rfl
  unfold getAttr? getAttrBy? getAttrBy
  refine wpAny_bind (wpAny_mkText (wpAny_bind (wpAny_attempt (wpAny_holding (wpAny_bind (a0.at (wpAny_bind (a1.at ?_))))))))
  show wpAny _ _ (if (onTheHeap (Value.ref D) && Value.builtin "BaseException.__getattribute__" == Value.builtin "object.__getattribute__") = true then _ else _) _ _ _
  rw [q1, if_neg Bool.false_ne_true]
  unfold getAttrByItsOwn hookBefore
  refine wpAny_bind ?_
  rw [if_pos (show onTheHeap (Value.ref D) = true from rfl)]
  refine a2.at ?_
  refine wpAny_bind (wpAny_attempt (wpAny_holding ?_))
  unfold callGetattribute
  rw [q0, if_neg Bool.false_ne_true]
  unfold boundAndCalled
  rw [PySem.F.excAttr_ValueError.ga.bind (.ref x)]
  refine wpAny_bind (wpAny_pure ?_)
  show wpAny _ _ (call (.builtin "BaseException.__getattribute__") [.ref x, .str "__class__" t]) _ _ _
  refine wpAny_call (codeAny_call_builtin PySem.F.excAttr_ValueError.ga.plain PySem.F.entry_bexc_ga ?_)
  refine @check_slot (model prog w) _ _ ⟨hp, g, d, t + 1, os⟩ "BaseException.__getattribute__" "BaseException" "__getattribute__" (.ref x) [.str "__class__" t] [] _ (by decide +kernel) (by decide +kernel) sub (PySem.F.args_bexc_ga (.ref x) (.str "__class__" t)) ?_
  unfold Builtin.«object.__getattribute__»
  refine wpAny_bind (wpAny_of_eq (a := ((Value.ref x : Value), [Value.str "__class__" t])) (by first | rfl | (simp only [slotArgs]; rfl)) ?_)
  refine wpAny_bind (wpAny_pure (wpAny_bind (a0.at (wpAny_bind (a3.at ?_)))))
  show wpAny _ _ (holding [Value.builtin "object.__class__"] (call (.builtin "getset_descriptor.__get__") [.builtin "object.__class__", .ref x, .ref D]) >>= ret) _ _ _
  refine wpAny_bind (wpAny_holding (wpAny_call (class_get (s := ⟨hp, g, d, t + 1, os⟩) (ox := ox) (od := od) X I hm ?_)))
  refine wpAny_pure ?_
  show wpAny _ _ (handedOut (.ref D)) _ _ _
  rw [handedOut_of (v := .ref D) rfl]
  first
    | exact wpAny_pure (wpAny_pure h)
    | exact wpAny_pure h
    | exact wpAny_pure (wpAny_bind (wpAny_pure (wpAny_pure h)))
open PySem.W in
theorem gx_kit (hga : findIn K (.ref D) "__getattribute__" = some (some (.builtin "BaseException.__getattribute__"))) (hgt : findIn K (.ref D) "__getattr__" = some none) (hsub : subIn K (.ref D) (.type "BaseException") = some true) (hdct : hasDictIn K D = true) (ha : findIn K (.ref D) "__class__" = some (some (.builtin "object.__class__")))
    (hn : specialIn K (.builtin "object.__class__") "__get__" = some (some (.builtin "getset_descriptor.__get__"))) (htk : takesIn K (.builtin "object.__class__") = some true) (hm : mroIn K D (.type "object") = some true) :
    KitX K (.ref x) (.ref D) (fun h => ∃ ox od, InstAt h x ox D od) where
  ty := fun _ _ _ ⟨ox, od, I⟩ => I.type
  it := fun _ _ X _ => by
    obtain ⟨cd, e, _⟩ := any_some hdct
    unfold clsIn at e
    split at e
    · rename_i c' d' cd' sl' ho
      intro A' Q' E' s' k q
      unfold isType loadHead
      exact wpAny_bind (wpAny_loadPart (k _ _ (X _ _ ho)) (wpAny_pure q))
    · cases e
  ne := fun h tp dd its n sl X htp => by
    obtain ⟨cd, e, _⟩ := any_some hdct
    refine Bool.eq_false_iff.mpr fun z => ?_
    obtain rfl : D = tp := Value.ref.inj (beq_iff_eq.mp z)
    unfold clsIn at e
    split at e
    · rename_i c' d' cd' sl' ho
      have z := (X _ _ ho).symm.trans htp
      cases z
    · cases e
  ca := fun X ⟨ox, od, I⟩ k => gx_class hga hgt hsub hdct ha hn htk hm X I k
end
end GX
set_option Elab.async false
set_option linter.all false
set_option maxRecDepth 100000
set_option maxHeartbeats 4000000
/-! Errors as values, by rules. -/
namespace GX
open PySem PySem.Spec PyProof.Rows L2

/-- what the written part says of an error's class, over the tail tl -/
structure ExC (K : PySem.W.Frag) (tl : List Value) (newId : String) (C : Addr) : Prop where
  cls : ∃ nm q N bs bm sn sub ab col dd k0 k1 k2 k3 k5, K.lookup C = some (excClassObj nm q C N bs bm true sn sub ab col dd k0 k1 k2 k3 k5 newId) ∧ mroB tl bm = true
  sa : PySem.W.findIn K (.ref C) "__setattr__" = some (some (.builtin "object.__setattr__"))
  ga : PySem.W.findIn K (.ref C) "__getattribute__" = some (some (.builtin "BaseException.__getattribute__"))
  gg : PySem.W.findIn K (.ref C) "__getattr__" = some none
  ex : PySem.W.subIn K (.ref C) (.type "BaseException") = some true
  ty : PySem.W.typeIn K (.ref C) = some (.type "type")
  kp : PySem.W.keepIn K (.ref C) = true
  hd : PySem.W.hasDictIn K C = true
  ca : PySem.W.findIn K (.ref C) "__class__" = some (some (.builtin "object.__class__"))
  ob : PySem.W.mroIn K C (.type "object") = some true
/-- what it says of the attribute __class__ -/
structure ClsA (K : PySem.W.Frag) : Prop where
  hn : PySem.W.specialIn K (.builtin "object.__class__") "__get__" = some (some (.builtin "getset_descriptor.__get__"))
  ht : PySem.W.takesIn K (.builtin "object.__class__") = some true
/-- an error at a, of the class at C, with these fields (the last one first) -/
def EAt (H : Hp) (a C : Addr) (fs : List (Str × V)) : Prop :=
  (fs = [] ∧ (H a = some (exo a C none) ∨ H a = some (ExO (.ref C) a))) ∨ ∃ d, H a = some (exo a C (some d)) ∧ H d = some (exd d fs)
section
variable {X : Cx} {pins : List (Addr × Obj)} {σ : L2.St} {H : Hp} {s : Shared} {a C dx : Addr} {fs : List (Str × V)}
theorem EAt.inst (I : Inv X pins σ H s) (h : EAt H a C fs) : ∃ ox od, PySem.W.InstAt s.heap a ox C od := by
  rcases h with ⟨_, h | h⟩ | ⟨d, h, hd⟩
  · obtain ⟨t1, e⟩ := exo_at I.hok h
    exact ⟨_, none, e, rfl, rfl, trivial⟩
  · obtain ⟨⟨oe, vs, ho, hz, hd, _⟩, _⟩ := I.hok a _ h
    obtain ⟨z1, z2⟩ := hz
    refine ⟨oe, none, ho, z1, by unfold PySem.W.notCls; rw [hd] <;> rfl, by rw [z2]; trivial⟩
  · obtain ⟨t1, e⟩ := exo_at I.hok h
    obtain ⟨mA, hns, rel⟩ := exd_at I.hok hd
    obtain ⟨od, ho, _⟩ := lookIn_ns hns
    exact ⟨_, some od, e, rfl, rfl, ho⟩
end

section
variable {X : Cx} {tl : List Value} {newId : String}
/-- isinstance(e, c) of an error held as a value -/
def rIsV (K : PySem.W.Frag) (P : Addr → Prop) : List V → Hp → VK → Prop := fun xs H Q => ∃ (a C : Addr) (fs : List (Str × V)) (c : V) (cv : Value) (b : Bool), xs = [.ref a, c] ∧ EAt H a C fs ∧ P C ∧ ClsV c cv ∧ PySem.W.kitOne K (.ref C) cv = some b ∧ Q (.bl b) H
theorem call_isV (A : ClsA X.K) : CallR X (.builtin "isinstance") (rIsV X.K fun C => ∃ tl n, ExC X.K tl n C) := by
  intro pins s σ H xs us Q I r h
  obtain ⟨a, C, fs, c, cv, b, rfl, ea, ⟨tl, n, T⟩, kc, e, q⟩ := h
  obtain ⟨u1, u2, rfl, r1, r2⟩ := vals2 r
  obtain rfl : u1 = Value.ref a := r1
  have e2 := kc.eq r2
  subst e2
  exact PySem.W.kia_one (gx_kit T.ga T.gg T.ex T.hd T.ca A.hn A.ht T.ob) I.kIn (ea.inst I) e (fun z => nomatch z) fun tk => ⟨.bl b, H, I.tok tk, rfl, q⟩
/-- e.f of an error held as a value -/
def tFldE (K : PySem.W.Frag) (f : Str) (te : TE) : TE := fun σ H Q => te σ H fun x H1 => ∃ (a C d : Addr) (fs : List (Str × V)) (v : V), x = .ref a ∧ H1 a = some (exo a C (some d)) ∧ H1 d = some (exd d fs) ∧ (∃ tl n, ExC K tl n C) ∧
  PySem.W.findIn K (.ref C) f = some none ∧ fs.lookup f = some v ∧ Q v H1
theorem pe_fldE {e : Expr} {te : TE} {pos : Pos} {f : Str} (he : PE X e te) (hb : attributeBase e f X.env (eval e X.env) = eval e X.env := by rfl) : PE X (.Attribute e f pos) (tFldE X.K f te) := by
  refine ⟨fun pins s σ H Q I h => ?_⟩
  refine attr_of hb (thn (he.run pins s σ H _ I h) fun u s1 hh => ?_)
  obtain ⟨x, H1, I1, rx, a, C, d, fs, v, ex, ea, ed, ⟨tl, n, T⟩, hno, l, q⟩ := hh
  subst ex
  obtain rfl : u = Value.ref a := rx
  obtain ⟨t1, e1⟩ := exo_at I1.hok ea
  obtain ⟨mA, hns, rel⟩ := exd_at I1.hok ed
  obtain ⟨od, ho, hl⟩ := lookIn_ns hns
  obtain ⟨u, hu, ru⟩ := RelO.some_of (v := v) (o := mA f) (by rw [← l]; exact rel f)
  have J : PySem.W.InstAt s1.heap a { cls := .ref C, dict := some d, data := .fields #[.ref t1, .none, .none, .none, .bool false, .none] } C (some od) := ⟨e1, rfl, rfl, ho⟩
  exact HandSPX.exc_get I1.kIn J T.ga T.gg T.ex (PySem.W.findObj_own T.hd hno rfl (by rw [hl, hu])) (handed_of ru) ⟨v, H1, I1.tok _, ru, q⟩
end

/-! ### self.f = e in an error's __init__ -/
section
variable {X : Cx} {pins : List (Addr × Obj)} {σ : L2.St} {H : Hp} {s : Shared} {a C dx : Addr} {f : Str} {y : V} {u : Value} {fs : List (Str × V)} {Q : Unit → Shared → Prop} {E : Value → Shared → Prop} {A : Around} {tl : List Value} {newId : String}
theorem ste_new (T : ExC X.K tl newId C) (W : TlOk tl) (I : Inv X pins σ H s) (e : H a = some (exo a C none)) (hno : PySem.W.findIn X.K (.ref C) f = some none) (ry : RelV y u)
    (h : ∀ dx s', H dx = none → dx ≠ a → Inv X pins σ (upd (upd H dx (exd dx [(f, y)])) a (exo a C (some dx))) s' → Q () s') : wpAny (model X.prog X.w) A (setAttr (.ref a) f u) Q E s := by
  obtain ⟨nm, q, N, bs, bm, sn, sub, ab, col, dd, k0, k1, k2, k3, k5, hC, hbm⟩ := T.cls
  have hcl : PySem.W.clsIn X.K C = some { name := nm, bases := bs, mro := .ref C :: bm, ns := N, qualname := q, hasDict := true, slotNames := sn, subclasses := sub, abstract := ab, collection := col, hasDel := false } := by unfold PySem.W.clsIn; rw [hC] <;> rfl
  have hM : Mr tl (.ref C :: bm) := mr_cons C (mr_of W hbm)
  obtain ⟨t1, ho⟩ := exo_at I.hok e
  obtain ⟨hp, g, d, t, os⟩ := s
  refine PySem.W.set_plain I.kIn (ox := { cls := .ref C, dict := none, data := .fields #[.ref t1, .none, .none, .none, .bool false, .none] }) (od := none) ⟨ho, rfl, rfl, trivial⟩ T.sa ?_
  refine gx_osaNew I.kIn ho hcl hM W.obj rfl hno (fun h' tk' dx k dn dne hx hn => ?_)
  have nDx : H dx = none := I.hok.fresh dn
  have hNe : ∀ {b : Addr} {o : Obj}, hp.get? b = some o → b ≠ dx := fun {b o} z => Nat.ne_of_lt (Nat.lt_of_lt_of_le (Heap.lt_size z) dn)
  have aNe : ∀ {b : Addr}, H b = none → b ≠ a := by
    intro b n z
    rw [z, e] at n
    cases n
  have U : Un X.fs [] H (upd (upd H dx (exd dx [(f, y)])) a (exo a C (some dx))) hp h' := by
    refine ⟨fun b o q n _ _ => k b o (aNe n) q, fun b o q n _ _ => ⟨o.slots, k b o (aNe n) q⟩, fun b o q n _ => ?_, fun b o q _ => ?_, fun b xs q => ?_, fun b o v q => ?_, fun b ps q => ⟨#[], ?_⟩⟩
    · rw [upd_ne (aNe n), upd_ne (hNe q)]
      exact n
    · by_cases hb : b = a
      · exact ⟨_, by rw [hb]; exact hx⟩
      · exact ⟨o, k b o hb q⟩
    · rw [upd_ne (at_ne e q exo_tup), upd_ne (ne_of_none q nDx)]
      exact q
    · rw [upd_ne (at_ne e q exo_frz), upd_ne (ne_of_none q nDx)]
      exact q
    · rw [upd_ne (at_ne e q exo_tbl), upd_ne (ne_of_none q nDx), q]
      simp
  refine h dx _ nDx dne (I.un (t' := tk') U (fun b o q => ?_))
  by_cases hb : b = a
  · subst hb
    rw [upd_same] at q
    cases q
    exact exo_ok hx
  rw [upd_ne hb] at q
  by_cases hd : b = dx
  · subst hd
    rw [upd_same] at q
    cases q
    exact exd_ok hn (relO_put (fs := []) ry fun g => True.intro)
  rw [upd_ne hd] at q
  refine (I.hok b o q).stay (fun c v hc z => k c v ?_ z) (fun c hc => ?_) (fun c xs hc => ?_)
  · rcases hc with hc | hc
    · rw [hc]; exact hb
    · exact at_ne e hc exo_own
  · rw [upd_ne (at_ne e hc exo_own), upd_ne (ne_of_none hc nDx)]
    exact hc
  · rw [upd_ne (at_ne e hc exo_tup), upd_ne (ne_of_none hc nDx)]
    exact hc
theorem ste_old (T : ExC X.K tl newId C) (W : TlOk tl) (I : Inv X pins σ H s) (e : H a = some (exo a C (some dx))) (ed : H dx = some (exd dx fs)) (hl : fs.length ≤ 900) (hno : PySem.W.findIn X.K (.ref C) f = some none) (ry : RelV y u)
    (h : ∀ s', Inv X pins σ (upd H dx (exd dx ((f, y) :: fs))) s' → Q () s') : wpAny (model X.prog X.w) A (setAttr (.ref a) f u) Q E s := by
  obtain ⟨nm, q, N, bs, bm, sn, sub, ab, col, dd, k0, k1, k2, k3, k5, hC, hbm⟩ := T.cls
  have hcl : PySem.W.clsIn X.K C = some { name := nm, bases := bs, mro := .ref C :: bm, ns := N, qualname := q, hasDict := true, slotNames := sn, subclasses := sub, abstract := ab, collection := col, hasDel := false } := by unfold PySem.W.clsIn; rw [hC] <;> rfl
  have hM : Mr tl (.ref C :: bm) := mr_cons C (mr_of W hbm)
  obtain ⟨t1, ho⟩ := exo_at I.hok e
  obtain ⟨mA, hns, rel⟩ := exd_at I.hok ed
  have hw := within_of rel
  obtain ⟨hp, g, d, t, os⟩ := s
  obtain ⟨oD, _, _, hoD, _, _⟩ := hns.count hw
  refine PySem.W.set_plain I.kIn (ox := { cls := .ref C, dict := some dx, data := .fields #[.ref t1, .none, .none, .none, .bool false, .none] }) (od := some oD) ⟨ho, rfl, rfl, hoD⟩ T.sa ?_
  refine gx_osaOld I.kIn ho hns hw (by rw [List.length_map]; omega) hcl hM W.obj rfl hno (fun h' tk' k hn => ?_)
  obtain ⟨o1, _, _, e1, _⟩ := id hn
  exact h _ (I.write (t' := tk') (x := dx) (e := dx) (o := exd dx ((f, y) :: fs)) (by rw [ed]; exact True.intro) (.inl rfl) k ⟨o1, e1⟩ (exd_ok hn (relO_put ry rel)))
end
def tSte (K : PySem.W.Frag) (f : Str) (to te : TE) : TS := fun D σ H => te σ H fun y H1 => to σ H1 fun x H2 => ∃ a C : Addr, x = .ref a ∧ (∃ tl n, ExC K tl n C ∧ TlOk tl) ∧ PySem.W.findIn K (.ref C) f = some none ∧
  ((H2 a = some (exo a C none) ∧ ∀ dx, H2 dx = none → dx ≠ a → D.nx σ (upd (upd H2 dx (exd dx [(f, y)])) a (exo a C (some dx)))) ∨
    ∃ (dx : Addr) (fs : List (Str × V)), H2 a = some (exo a C (some dx)) ∧ H2 dx = some (exd dx fs) ∧ fs.length ≤ 900 ∧ D.nx σ (upd H2 dx (exd dx ((f, y) :: fs))))
theorem ps_ste {X : Cx} {o e : Expr} {to te : TE} {f : Str} {p' pos : Pos} (ho : PE X o to) (he : PE X e te) (hs : swapsWith e (some (.Attribute o f p')) pos.line X.env = pure false := by rfl) : PS X (.Assign [.Attribute o f p'] e pos) (tSte X.K f to te) := by
  refine ⟨fun pins s σ H D I h => plainObj_wpAny_Assign_Attribute (thn (he.run pins s σ H _ I h) fun v s1 ⟨y, H1, I1, r1, q1⟩ => thn (ho.run pins s1 σ H1 _ I1 q1) fun u s2 hh => ?_) hs⟩
  obtain ⟨x, H2, I2, r2, a, C, ex, ⟨tl, n, T, W⟩, hno, q⟩ := hh
  subst ex
  obtain rfl : u = Value.ref a := r2
  rcases q with ⟨ea, q⟩ | ⟨dx, fs, ea, ed, hl, q⟩
  · exact ste_new T W I2 ea hno r1 fun dx s' n ne J => ⟨σ, _, J, q dx n ne⟩
  · exact ste_old T W I2 ea ed hl hno r1 fun s' J => ⟨σ, _, J, q⟩

/-! ### C(..): the error as a value; raised -/
section
variable {X : Cx} {CX : CXT} {x : Str} {C fI : Addr} {k : Nat} {fd : FuncData} {ps ks : List Str} {sp : Sp} {tl : List Value} {B newId initId : String} {p pos : Pos} {e : Expr} {es : List Expr} {kws : List Keyword} {ta : TA}
/-- what a making wants: the promise of __init__ at the new error -/
def rMkE (C : Addr) (sp : Sp) (g : List V → List V) (vs : List V) (H1 : Hp) (Q : VK) : Prop := vs.length ≤ 1000 ∧ ∀ a, H1 a = none → sp (.ref a :: g vs) (upd H1 a (exo a C none)) (fun v H2 => v = .non ∧ Q (.ref a) H2) (fun _ _ _ => False)
theorem mk_core {pins : List (Addr × Obj)} {σ : L2.St} {H1 : Hp} {s1 : Shared} {Q : Value → Shared → Prop} {rest : List Value} {kw : List (Str × Value)} {ws : List Value} {vs : List V} {R : V → Hp → Prop} (T : ExC X.K tl newId C) (W : TlOk tl) (Fb : ExcBaseFacts B newId initId tl)
    (iC : PySem.W.findIn X.K (.ref C) "__init__" = some (some (.ref fI))) (tI : PySem.W.typeIn X.K (.ref fI) = some (.type "function"))
    (F1 : FnOk X.prog X.w X.K X.mg X.base CX k fI fd ps sp) (hr : Room (k + 1) X.A) (hx : Passes CX X (fun _ _ _ => False)) (I1 : Inv X pins σ H1 s1) (r1 : Vals vs ws) (hz : rest.length ≤ sizeLine) (hkw : kw = [] ∨ rest = [])
    (hb : ∀ (s : Shared) (a : Addr), X.K.In s.heap → (Value.ref a :: ws).length = ps.length → BindsTo s fd ⟨.ref a :: rest, kw⟩ (ps.zip (.ref a :: ws)))
    (hsp : ∀ a, H1 a = none → sp (.ref a :: vs) (upd H1 a (exo a C none)) (fun v H2 => v = .non ∧ R (.ref a) H2) (fun _ _ _ => False))
    (done : ∀ (a : Addr) (hp2 : Heap) (H2 : Hp) (s' : Shared), s1.heap.objs.size ≤ a → (∀ b o, s1.heap.get? b = some o → hp2.get? b = some o) → Un (frs X.stack) [] (upd H1 a (exo a C none)) H2 hp2 s'.heap → HOk X.prog X.w H2 s'.heap → s'.os = s1.os → AllBare s'.gens →
      Inv X pins σ H2 s' → R (.ref a) H2 → Q (.ref a) s') :
    wpAny (model X.prog X.w) X.A (call (.ref C) rest kw) Q X.xe s1 := by
  obtain ⟨nm, q, N, bs, bm, sn, sub, ab, col, dd, k0, k1, k2, k3, k5, hC, hbm⟩ := T.cls
  have hT := (mr_of W hbm).has
  obtain ⟨hp, g, dr, tk, os⟩ := s1
  have hsz : hp.objs.size ≤ hp.objs.size + 1 := Nat.le_succ _
  have nA : H1 (hp.objs.size + 1) = none := I1.hok.fresh hsz
  have hq := hsp (hp.objs.size + 1) nA
  have kk : ∀ b o, hp.get? b = some o → ((hp.push (PySem.W.kdv_tup rest)).push (PySem.HandSPX.excO C hp.objs.size)).get? b = some o := fun b o z => Heap.get?_push_of_some _ (Heap.get?_push_of_some _ z)
  have hget : ((hp.push (PySem.W.kdv_tup rest)).push (PySem.HandSPX.excO C hp.objs.size)).get? (hp.objs.size + 1) = some (PySem.HandSPX.excO C hp.objs.size) := by heap_get
  have I2 : Inv X pins σ (upd H1 (hp.objs.size + 1) (exo (hp.objs.size + 1) C none)) ⟨(hp.push (PySem.W.kdv_tup rest)).push (PySem.HandSPX.excO C hp.objs.size), g, dr, tk, os⟩ :=
    I1.laid (t' := tk) (a := hp.objs.size + 1) (o := exo (hp.objs.size + 1) C none) (h' := (hp.push (PySem.W.kdv_tup rest)).push (PySem.HandSPX.excO C hp.objs.size)) kk hsz (exo_ok hget)
  have r2 : Vals (V.ref (hp.objs.size + 1) :: vs) (Value.ref (hp.objs.size + 1) :: ws) := .cons rfl r1
  have nPs : (Value.ref (hp.objs.size + 1) :: ws).length = ps.length := r2.length.symm.trans (F1.len _ _ _ _ hq)
  refine wpAny_call (gx_call Fb hT (I1.kIn _ _ hC) hkw (PySem.W.looks_findIn I1.kIn iC) (fun self => PySem.W.bind_fn I1.kIn self tI) hz
    (codeAny_mono (F1.run _ X.stack _ _ ⟨Value.ref (hp.objs.size + 1) :: rest, kw⟩ (Value.ref (hp.objs.size + 1) :: ws) _ _ (fun _ _ _ => False) (hr.make C rest kw) (I2.env0.make C rest kw) (hb _ _ I2.kIn nPs) r2 hq) (fun r s' hq' => ?_)))
  cases r with
  | error er => exact hx pins σ _ _ er s' I2 hq'
  | ok fl =>
    cases fl with
    | ret u =>
      have J := I2.after (Q := fun v H2 => v = .non ∧ R (.ref (hp.objs.size + 1)) H2) hq'
      obtain ⟨v, H2, os2, bare2, un2, hok2, rv, ev, q2⟩ := hq'
      subst ev
      refine ⟨rv, ?_⟩
      have I3 : Inv X pins σ H2 s' := I2.call' (ch := []) os2 un2 hok2 bare2 (fun b z => absurd z (by simp))
      exact done _ _ H2 s' hsz kk un2 hok2 os2 bare2 I3 q2
    | next => exact False.elim hq'
    | brk => exact False.elim hq'
    | cont => exact False.elim hq'
/-- C(e, ..) by places, as a value -/
theorem pe_mkE (T : ExC X.K tl newId C) (W : TlOk tl) (Fb : ExcBaseFacts B newId initId tl) (iC : PySem.W.findIn X.K (.ref C) "__init__" = some (some (.ref fI))) (tI : PySem.W.typeIn X.K (.ref fI) = some (.type "function"))
    (F1 : FnOk X.prog X.w X.K X.mg X.base CX k fI fd ps sp) (hr : Room (k + 1) X.A) (hx : Passes CX X (fun _ _ _ => False)) (hg : Gl X x) (hm : X.mg x = some (.ref C)) (hb : Binds X.K fd ps []) (ha : PA X (e :: es) ta)
    (hdb : (x == ("__debug__" : Str)) = false := by decide) (he : starEach (e :: es) X.env = (false, eval e X.env) :: starEach es X.env := by rfl) (hpl : (backTo pos (starEach es X.env)).any (·.1) = false := by rfl) :
    PE X (.Call (.Name x p) (e :: es) [] pos) (fun σ H Q => ta σ H fun vs H1 => rMkE C sp id vs H1 Q) := by
  refine ⟨fun pins s σ H Q I h => wpAny_Call_Name_kw (ld_glob I hg hm ?_ hdb)⟩
  refine PySem.W.callWith_K (h₀ := X.base) I.ok.mod.kin T.kp (thn (ha.run pos pins s σ H _ I h) (fun us s1 hh => ?_)) he hpl
  obtain ⟨vs, H1, I1, r1, hz, q1⟩ := hh
  refine ⟨I1.kIn, ?_⟩
  refine mk_core (rest := us) (kw := []) (ws := us) (R := Q) T W Fb iC tI F1 hr hx I1 r1 (by rw [← Paired.length r1, sizeLine_eq]; omega) (.inl rfl) (fun s2 a X2 n => ?_) q1 (fun a hp2 H2 s' _ _ _ _ _ _ J q => ⟨.ref a, H2, J, rfl, q⟩)
  have b := hb s2 (.ref a :: us) X2 (by rw [List.append_nil]; exact n)
  rw [List.append_nil] at b
  exact b
/-- C(e, ..) by places, raised -/
theorem pmk_mkE (T : ExC X.K tl newId C) (W : TlOk tl) (Fb : ExcBaseFacts B newId initId tl) (iC : PySem.W.findIn X.K (.ref C) "__init__" = some (some (.ref fI))) (tI : PySem.W.typeIn X.K (.ref fI) = some (.type "function"))
    (F1 : FnOk X.prog X.w X.K X.mg X.base CX k fI fd ps sp) (hr : Room (k + 1) X.A) (hx : Passes CX X (fun _ _ _ => False)) (hg : Gl X x) (hm : X.mg x = some (.ref C)) (hb : Binds X.K fd ps []) (ha : PA X (e :: es) ta)
    (hdb : (x == ("__debug__" : Str)) = false := by decide) (he : starEach (e :: es) X.env = (false, eval e X.env) :: starEach es X.env := by rfl) (hpl : (backTo pos (starEach es X.env)).any (·.1) = false := by rfl) :
    PMk X (.Call (.Name x p) (e :: es) [] pos) (fun σ H Q => ta σ H fun vs H1 => rMkE C sp id vs H1 (fun u H2 => ∃ (a d : Addr) (fs : List (Str × V)), u = .ref a ∧ H2 a = some (exo a C (some d)) ∧ H2 d = some (exd d fs) ∧ H1 d = none ∧ Q (.ref C) (some d) (upd (del H2 a) d (.xd fs)))) := by
  intro pins s σ H Q I h
  refine wpAny_Call_Name_kw (ld_glob I hg hm ?_ hdb)
  refine PySem.W.callWith_K (h₀ := X.base) I.ok.mod.kin T.kp (thn (ha.run pos pins s σ H _ I h) (fun us s1 hh => ?_)) he hpl
  obtain ⟨vs, H1, I1, r1, hz, q1⟩ := hh
  refine ⟨I1.kIn, ?_⟩
  refine mk_core (rest := us) (kw := []) (ws := us) (R := fun u H2 => ∃ (a d : Addr) (fs : List (Str × V)), u = .ref a ∧ H2 a = some (exo a C (some d)) ∧ H2 d = some (exd d fs) ∧ H1 d = none ∧ Q (.ref C) (some d) (upd (del H2 a) d (.xd fs))) T W Fb iC tI F1 hr hx I1 r1 (by rw [← Paired.length r1, sizeLine_eq]; omega) (.inl rfl) (fun s2 a X2 n => ?_) q1 (fun a hp2 H2 s' hs kk un hok os bare J q => ?_)
  · have b := hb s2 (.ref a :: us) X2 (by rw [List.append_nil]; exact n)
    rw [List.append_nil] at b
    exact b
  · obtain ⟨a', d, fs, ea, e1, e2, e3, q2⟩ := q
    cases ea
    obtain ⟨hp, g, dr, tk, os1⟩ := s1
    obtain ⟨h2, g2, d2, t2, os2⟩ := s'
    exact mk_end (raises_own T.ex T.ty) I1 hs kk un hok os bare e1 e2 e3 q2
/-- C(k = e, ..) by names alone, as a value; g puts the values into the parameters' order -/
theorem pe_mkEK {g : {α : Type} → List α → List α} {n : Nat} (T : ExC X.K tl newId C) (W : TlOk tl) (Fb : ExcBaseFacts B newId initId tl) (iC : PySem.W.findIn X.K (.ref C) "__init__" = some (some (.ref fI))) (tI : PySem.W.typeIn X.K (.ref fI) = some (.type "function"))
    (F1 : FnOk X.prog X.w X.K X.mg X.base CX k fI fd ps sp) (hr : Room (k + 1) X.A) (hx : Passes CX X (fun _ _ _ => False)) (hg : Gl X x) (hm : X.mg x = some (.ref C))
    (hb : ∀ (s : Shared) (a : Addr) (ws : List Value), X.K.In s.heap → ws.length = n → BindsTo s fd ⟨[.ref a], ks.zip ws⟩ (ps.zip (.ref a :: g ws)))
    (hrel : ∀ {vs : List V} {us : List Value}, vs.length = n → Vals vs us → Vals (g vs) (g us)) (hkw : PK X kws ta) (hall : (backToKw pos (keywordEach kws X.env)).all (·.1.isSome) = true := by rfl) (hks : (backToKw pos (keywordEach kws X.env)).filterMap (·.1) = ks := by rfl)
    (hdb : (x == ("__debug__" : Str)) = false := by decide) (hpl : ((backTo pos (starEach [] X.env)).any (·.1) || (backToKw pos (keywordEach kws X.env)).any (·.1.isNone)) = false := by rfl) :
    PE X (.Call (.Name x p) [] kws pos) (fun σ H Q => ta σ H fun vs H1 => vs.length = n ∧ rMkE C sp g vs H1 Q) := by
  refine ⟨fun pins s σ H Q I h => wpAny_Call_Name_kw (ld_glob I hg hm ?_ hdb)⟩
  refine PySem.W.callWith_KW0 (h₀ := X.base) I.ok.mod.kin T.kp hall (thn (hkw.run pos pins s σ H _ I h) (fun us s1 hh => ?_)) hpl
  obtain ⟨vs, H1, I1, r1, hn, hz, q1⟩ := hh
  refine ⟨I1.kIn, ?_⟩
  rw [hks]
  show wpAny _ _ (call (.ref C) [] (ks.zip us)) _ _ _
  exact mk_core (rest := []) (kw := ks.zip us) (ws := g us) (vs := g vs) (R := Q) T W Fb iC tI F1 hr hx I1 (hrel hn r1) (by rw [sizeLine_eq]; decide) (.inr rfl) (fun s2 a X2 _ => hb s2 a us X2 (r1.length.symm.trans hn)) q1 (fun a hp2 H2 s' _ _ _ _ _ _ J q => ⟨.ref a, H2, J, rfl, q⟩)
/-- C(), an own error class without an own __init__, as a value -/
theorem pe_mkE0 {bmB : List Value} (F : ExcBaseFacts B newId initId bmB) (q : PySem.W.excIn X.K C bmB newId = true) (gC : X.mg x = some (.ref C)) (kC : PySem.W.keepIn X.K (.ref C) = true) (hg : Gl X x) (hdb : (x == ("__debug__" : Str)) = false := by decide) :
    PE X (.Call (.Name x p) [] [] pos) (fun σ H Q => ∀ a, H a = none → Q (.ref a) (upd H a (ExO (.ref C) a))) := by
  refine ⟨fun pins s σ H Q I h => wpAny_Call_Name_kw (ld_glob I hg gC ?_ hdb)⟩
  refine PySem.W.callWith_K0 I.kIn kC ?_
  show wpAny _ _ (call (.ref C) []) _ _ _
  obtain ⟨bm, N, nm, qn, bs, hdct, sn, sub, ab, col, dd, k0, k1, k2, k3, k5, mN, hC, hN, hni, T⟩ := exc_obj I.kIn q
  refine wpAny_call_exc_subT F T hC hN hni (fun h' a hm => ?_) (by show 0 ≤ sizeLine; exact Nat.zero_le _)
  have hn : H a = none := I.hok.gone hm.new
  obtain ⟨t, ht, _, _⟩ := hm.there
  exact ⟨.ref a, upd H a (ExO (.ref C) a), I.laidN hm.keeps hm.new hn (exO_ok ht ⟨rfl, rfl⟩ rfl rfl rfl (show 4 < 6 by decide)), rfl, h a hn⟩
end
end GX
set_option Elab.async false
set_option linter.all false
set_option maxRecDepth 100000
set_option maxHeartbeats 4000000
/-! The facts of a program's top that has error classes of its own, read off the heap behind it. -/
namespace HX
open PySem PySem.Spec PyProof.Rows L2 GX

/-! ### which objects are looked at -/
def refsD : Option Obj → List Addr
  | some ⟨_, _, .dict es _, _⟩ => es.toList.flatMap fun e => He.refV e.val
  | _ => []
def codeO : Option Obj → List Addr
  | some ⟨_, _, .func fd, _⟩ => He.refV fd.code
  | _ => []
def partsO (g : Addr → Option Obj) : Option Obj → List Addr
  | some ⟨_, _, .cls cd, _⟩ => cd.ns :: (refsD (g cd.ns) ++ (refsD (g cd.ns)).flatMap fun a => codeO (g a))
  | o => codeO o
def asX (g : Addr → Option Obj) : List Addr := mainGlobals :: ((refsD (g mainGlobals)) ++ (refsD (g mainGlobals)).flatMap fun a => partsO g (g a))

/-! ### the table of the error classes -/
structure Ci where
  nm : Str
  base : Option Str
  kind : Nat
  fl : List Str
  deriving DecidableEq
def tlOf : Nat → List Value
  | 0 => tlV
  | 1 => tlL
  | _ => tlA
def newOf : Nat → String
  | 0 => "ValueError.__new__"
  | 1 => "LookupError.__new__"
  | _ => "ArithmeticError.__new__"
theorem tlOk : ∀ n, TlOk (tlOf n)
  | 0 => tlOkV
  | 1 => tlOkL
  | _ + 2 => tlOkA
theorem facts_of : ∀ n, ∃ B i, ExcBaseFacts B (newOf n) i (tlOf n)
  | 0 => ⟨_, _, F.excBase_ValueError⟩
  | 1 => ⟨_, _, F.excBase_LookupError⟩
  | _ + 2 => ⟨_, _, F.excBase_ArithmeticError⟩
def formB (K : PySem.W.Frag) (C : Addr) (tl : List Value) (newId : String) : Bool := match K.lookup C with
  | some ⟨.type c, _, .cls cd, sl⟩ => (match cd.mro, sl.toList with
    | .ref C' :: bm, [_, _, _, _, some (.builtin n), _] => c == "type" && (C' == C && (n == newId && (!cd.hasDel && (cd.hasDict && mroB tl bm))))
    | _, _ => false)
  | _ => false
theorem form_ok {K : PySem.W.Frag} {C : Addr} {tl : List Value} {newId : String} (q : formB K C tl newId = true) :
    ∃ nm q N bs bm sn sub ab col dd k0 k1 k2 k3 k5, K.lookup C = some (excClassObj nm q C N bs bm true sn sub ab col dd k0 k1 k2 k3 k5 newId) ∧ mroB tl bm = true := by
  unfold formB at q
  split at q
  · rename_i c dd cd sl ho
    split at q
    · rename_i C' bm k0 k1 k2 k3 n k5 hm hs
      simp only [Bool.and_eq_true, beq_iff_eq, Bool.not_eq_true'] at q
      obtain ⟨rfl, rfl, rfl, hdel, hdc, ht⟩ := q
      obtain ⟨nm, bs, mro, ns, qn, hd, sn, sub, ab, col, del⟩ := cd
      dsimp only at hm hdel hdc
      subst hm hdel hdc
      have hsl : sl = #[k0, k1, k2, k3, some (.builtin n), k5] := by
        obtain ⟨l⟩ := sl
        simp only at hs
        rw [hs]
      subst hsl
      exact ⟨nm, qn, ns, bs, bm, sn, sub, ab, col, dd, k0, k1, k2, k3, k5, ho, ht⟩
    · cases q
  · cases q
abbrev isB (K : PySem.W.Frag) (C : Addr) (m : Str) (v : Option Value) : Bool := He.eqO (PySem.W.findIn K (.ref C) m) (some v)
/-- the facts of one class at C -/
def excB (K : PySem.W.Frag) (C : Addr) (n : Nat) : Bool := formB K C (tlOf n) (newOf n) && (isB K C "__setattr__" (some (.builtin "object.__setattr__")) && (isB K C "__getattribute__" (some (.builtin "BaseException.__getattribute__")) && (isB K C "__getattr__" none &&
  (decide (PySem.W.subIn K (.ref C) (.type "BaseException") = some true) && (decide (PySem.W.typeIn K (.ref C) = some (.type "type")) && (PySem.W.keepIn K (.ref C) && (PySem.W.hasDictIn K C && (isB K C "__class__" (some (.builtin "object.__class__")) &&
  decide (PySem.W.mroIn K C (.type "object") = some true)))))))))
theorem ba {a b : Bool} (h : (a && b) = true) : a = true ∧ b = true := Bool.and_eq_true_iff.mp h
theorem exc_ok {K : PySem.W.Frag} {C : Addr} {n : Nat} (h : excB K C n = true) : ExC K (tlOf n) (newOf n) C := by
  obtain ⟨h1, h⟩ := ba h
  obtain ⟨h2, h⟩ := ba h
  obtain ⟨h3, h⟩ := ba h
  obtain ⟨h4, h⟩ := ba h
  obtain ⟨h5, h⟩ := ba h
  obtain ⟨h6, h⟩ := ba h
  obtain ⟨h7, h⟩ := ba h
  obtain ⟨h8, h⟩ := ba h
  obtain ⟨h9, h10⟩ := ba h
  exact ⟨form_ok h1, He.eqO_ok h2, He.eqO_ok h3, He.eqO_ok h4, of_decide_eq_true h5, of_decide_eq_true h6, h7, h8, He.eqO_ok h9, of_decide_eq_true h10⟩
/-- what is asked of the attribute __class__ (of the library alone) -/
theorem clsA (K : PySem.W.Frag) : ClsA K := ⟨by kernel_rfl, by kernel_rfl⟩
abbrev ga := He.ga
def mroOfC (K : PySem.W.Frag) (c : Ci) : List Value := .ref (ga K c.nm) :: ((match c.base with
  | some b => [.ref (ga K b)]
  | none => []) ++ tlOf c.kind)
/-- one row of the table -/
def rowB (K : PySem.W.Frag) (c : Ci) : Bool := He.eqO (PySem.W.nsIn K mainGlobals c.nm) (some (some (.ref (ga K c.nm)))) && (excB K (ga K c.nm) c.kind && (decide ((PySem.W.clsIn K (ga K c.nm)).map (·.mro) = some (mroOfC K c)) && ((c.fl.all fun f => isB K (ga K c.nm) f none) &&
  (match c.fl with
    | [] => PySem.W.excIn K (ga K c.nm) (tlOf c.kind) (newOf c.kind)
    | _ => isB K (ga K c.nm) "__init__" (some (.ref (He.ma K (ga K c.nm) "__init__"))) && decide (PySem.W.typeIn K (.ref (He.ma K (ga K c.nm) "__init__")) = some (.type "function"))))))
structure RowOk (K : PySem.W.Frag) (c : Ci) : Prop where
  gl : PySem.W.nsIn K mainGlobals c.nm = some (some (.ref (ga K c.nm)))
  ex : ExC K (tlOf c.kind) (newOf c.kind) (ga K c.nm)
  mro : (PySem.W.clsIn K (ga K c.nm)).map (·.mro) = some (mroOfC K c)
  no : ∀ f ∈ c.fl, PySem.W.findIn K (.ref (ga K c.nm)) f = some none
  i0 : c.fl = [] → PySem.W.excIn K (ga K c.nm) (tlOf c.kind) (newOf c.kind) = true
  i1 : c.fl ≠ [] → PySem.W.findIn K (.ref (ga K c.nm)) "__init__" = some (some (.ref (He.ma K (ga K c.nm) "__init__"))) ∧ PySem.W.typeIn K (.ref (He.ma K (ga K c.nm) "__init__")) = some (.type "function")
theorem row_ok {K : PySem.W.Frag} {c : Ci} (h : rowB K c = true) : RowOk K c := by
  obtain ⟨h1, h⟩ := ba h
  obtain ⟨h2, h⟩ := ba h
  obtain ⟨h3, h⟩ := ba h
  obtain ⟨h4, h5⟩ := ba h
  refine ⟨He.eqO_ok h1, exc_ok h2, of_decide_eq_true h3, fun f hf => He.eqO_ok (List.all_eq_true.mp h4 f hf), fun e => ?_, fun e => ?_⟩
  · rw [e] at h5
    exact h5
  · cases q : c.fl with
    | nil => exact absurd q e
    | cons _ _ =>
      rw [q] at h5
      obtain ⟨h6, h7⟩ := ba h5
      exact ⟨He.eqO_ok h6, of_decide_eq_true h7⟩

/-! ### the Hook, looked at by parts -/
def frK {α : Type} : List (Addr × Obj) → (List (Addr × Obj) → α) → α
  | [], k => k []
  | (a, ⟨c, d, t, sl⟩) :: r, k => HandSHeadRun.frNat a fun a => frK r fun r => k ((a, ⟨c, d, t, sl⟩) :: r)
theorem frK_eq {α : Type} : ∀ (l : List (Addr × Obj)) (k : List (Addr × Obj) → α), frK l k = k l
  | [], k => rfl
  | (a, ⟨c, d, t, sl⟩) :: r, k => by
    show HandSHeadRun.frNat a (fun a => frK r fun r => k ((a, ⟨c, d, t, sl⟩) :: r)) = _
    rw [HandSHeadRun.frNat_eq, frK_eq r]
def frag (g : Addr → Option Obj) : PySem.W.Frag := He.frG g (asX g)
/-- one look -/
structure Part where
  ok : PySem.W.Frag → Bool
  fn : List He.DefD
def Part.says (p : Part) (K : PySem.W.Frag) : Prop := p.ok K = true ∧ (∀ d ∈ p.fn, d.ok K = true) ∧ p.fn.map (fun d => He.fnW K d.at_) = p.fn.map He.DefD.val
def Part.see (p : Part) (g : Addr → Option Obj) : Bool × List He.FnW := frK (frag g) fun K => (p.ok K && p.fn.all fun d => d.ok K, p.fn.map fun d => He.fnW K d.at_)
theorem Part.of {p : Part} {g : Addr → Option Obj} (h : p.see g = (true, p.fn.map He.DefD.val)) : p.says (frag g) := by
  unfold Part.see at h
  rw [frK_eq] at h
  obtain ⟨h1, h2⟩ := Prod.mk.inj h
  obtain ⟨h3, h4⟩ := ba h1
  exact ⟨h3, fun d hd => List.all_eq_true.mp h4 d hd, h2⟩
theorem Part.def_ {p : Part} {K : PySem.W.Frag} (c : p.says K) {d : He.DefD} (h : d ∈ p.fn) : ∃ fd, FunD K d.name d.qual d.params d.body d.scope (d.dvs K) (d.kws K) (He.fAd K d.at_) fd := by
  obtain ⟨_, c2, e⟩ := c
  obtain ⟨i, hi, ei⟩ := List.mem_iff_getElem.mp h
  have e2 : (p.fn.map fun d => He.fnW K d.at_)[i]? = (p.fn.map He.DefD.val)[i]? := by rw [e]
  have e3 : p.fn[i]? = some d := by rw [List.getElem?_eq_getElem hi, ei]
  rw [List.getElem?_map, List.getElem?_map, e3] at e2
  exact He.DefD.funD (Option.some.inj e2) (c2 d h)
def hookP (ps : List Part) : PySem.W.Hook where
  α := List (Bool × List He.FnW)
  obs := fun s => ps.map fun p => p.see s.heap.get?
  val := fun _ => ps.map fun p => (true, p.fn.map He.DefD.val)
  says := fun _ h => ∃ K : PySem.W.Frag, K.In h ∧ ∀ p ∈ ps, p.says K
  of := fun _ s e => ⟨frag s.heap.get?, He.frG_in, fun p hp => Part.of (by
    obtain ⟨i, hi, ei⟩ := List.mem_iff_getElem.mp hp
    have e2 : (ps.map fun p => p.see s.heap.get?)[i]? = (ps.map fun p => ((true, p.fn.map He.DefD.val) : Bool × List He.FnW))[i]? := by rw [e]
    have e3 : ps[i]? = some p := by rw [List.getElem?_eq_getElem hi, ei]
    rw [List.getElem?_map, List.getElem?_map, e3] at e2
    exact Option.some.inj e2)⟩
  keeps := fun _ _ _ ⟨K, hK, c⟩ k => ⟨K, PySem.W.Frag.In.keeps hK k, c⟩
open HandSHeadRun PySem.W in
/-- the run alone -/
def Run0 (r : OpenRow) (q : Program) (M : Nat) (loose : List PySem.Str) (w : World) : Prop :=
  ∀ os : OsState, (endF (stepQ (denQ tabQ) r.prog w) M r.prog w os).map (fun s => (looksF r.prog (boot_heap w.params) s.abs, seenQ q loose (importedModules r.prog.main.body) (fun s => xlAt q [] s && recOk r.toRowW.records s) s.abs)) = some (true, openGood q loose)
open HandSHeadRun PySem.W in
/-- one look behind the run -/
def Run1 (r : OpenRow) (M : Nat) (p : Part) (w : World) : Prop :=
  ∀ os : OsState, (endF (stepQ (denQ tabQ) r.prog w) M r.prog w os).map (fun s => p.see (getT s)) = some (true, p.fn.map He.DefD.val)
open HandSHeadRun PySem.W in
theorem run_all {r : OpenRow} {q : Program} {M : Nat} {loose : List PySem.Str} {w : World} {ps : List Part} (h0 : Run0 r q M loose w) (h1 : ∀ p ∈ ps, Run1 r M p w) : RunEq r q (hookP ps) (fun s => ps.map fun p => p.see (getT s)) M loose w := by
  intro os
  obtain ⟨s, e, v⟩ := Option.map_eq_some_iff.mp (h0 os)
  rw [e]
  obtain ⟨v1, v2⟩ := Prod.mk.inj v
  show some (looksF r.prog (boot_heap w.params) s.abs, seenQ q loose (importedModules r.prog.main.body) (fun s => xlAt q [] s && recOk r.toRowW.records s) s.abs, ps.map fun p => p.see (getT s)) = some (true, openGood q loose, ps.map fun p => (true, p.fn.map He.DefD.val))
  rw [v1, v2]
  refine congrArg some (Prod.ext rfl (Prod.ext rfl (List.map_congr_left fun p hp => ?_)))
  have z := h1 p hp os
  rw [e] at z
  exact Option.some.inj z
theorem see_eq (ps : List Part) (s : PySem.W.SharedT) : (ps.map fun p => p.see (HandSHeadRun.getT s)) = (hookP ps).obs s.abs := by
  have e : HandSHeadRun.getT s = s.abs.heap.get? := funext (HandSHeadRun.getT_eq s)
  rw [e] <;> rfl
end HX
set_option Elab.async false
set_option linter.all false
set_option maxRecDepth 100000
set_option maxHeartbeats 4000000
/-! A layer without a heap: what defs do, told of data. -/
namespace PL
open PySem PySem.Spec PyProof.Rows L2 GX HX

inductive D where
  | non | bl (b : Bool) | int (i : Int) | str (x : Str) | tup (l : List D) | lst (l : List D) | dic | ins (c : Str) (fs : List (Str × D)) | jar | scr (ns : List Int)

section
variable (K : PySem.W.Frag) (J : Option Addr) (H : Hp)
mutual
/-- the value v is the datum d; J: the one object that is written -/
inductive Is : V → D → Prop
  | non : Is .non .non
  | bl (b : Bool) : Is (.bl b) (.bl b)
  | int (i : Int) : Is (.int i) (.int i)
  | str (x : Str) : Is (.str x) (.str x)
  | tup {a : Addr} {xs : List V} {l : List D} : SqT K H a xs → J ≠ some a → IsL xs l → Is (.ref a) (.tup l)
  | lst {a : Addr} {xs : List V} {l : List D} : H a = some (.lst xs) → J ≠ some a → IsL xs l → Is (.ref a) (.lst l)
  | scr {a : Addr} {ns : List Int} : SqL K H a (ns.map V.int) → J ≠ some a → Is (.ref a) (.scr ns)
  | dic {a : Addr} : H a = some (.dK []) → J ≠ some a → Is (.ref a) .dic
  | ins {a dx : Addr} {c : Str} {fs : List (Str × V)} {gs : List (Str × D)} : H a = some (.ins (He.ga K c) dx fs) → J ≠ some a → IsF fs gs → Is (.ref a) (.ins c gs)
  | jar {j : Addr} : J = some j → Is (.ref j) .jar
inductive IsL : List V → List D → Prop
  | nil : IsL [] []
  | cons {v : V} {d : D} {vs : List V} {ds : List D} : Is v d → IsL vs ds → IsL (v :: vs) (d :: ds)
inductive IsF : List (Str × V) → List (Str × D) → Prop
  | nil : IsF [] []
  | cons {n : Str} {v : V} {d : D} {vs : List (Str × V)} {ds : List (Str × D)} : Is v d → IsF vs ds → IsF ((n, v) :: vs) ((n, d) :: ds)
end
end
/-- the written object: three whole numbers -/
def Jar (H : Hp) (j : Addr) : Prop := ∃ a b c : Int, H j = some (.lst [.int a, .int b, .int c])
structure Wr (J : Option Addr) (H H' : Hp) : Prop where
  st : ∀ b o, J ≠ some b → H b = some o → H' b = some o
  jr : ∀ j, J = some j → Jar H' j
abbrev Keep (J : Option Addr) (H H' : Hp) : Prop := ∀ b o, J ≠ some b → H b = some o → H' b = some o
theorem Wr.trans {J : Option Addr} {H H1 H2 : Hp} (a : Wr J H H1) (b : Wr J H1 H2) : Wr J H H2 := ⟨fun c o n h => b.st c o n (a.st c o n h), b.jr⟩
theorem Wr.refl {J : Option Addr} {H0 H : Hp} (a : Wr J H0 H) : Wr J H H := ⟨fun _ _ _ h => h, a.jr⟩
theorem Wr.new {J : Option Addr} {H0 H : Hp} {p : Addr} {o : HO} (a : Wr J H0 H) (h : H p = none) : Wr J H (upd H p o) := by
  refine ⟨fun c u _ e => ?_, fun j e => ?_⟩
  · rw [upd_ne (ne_of_none e h)]
    exact e
  · obtain ⟨x, y, z, q⟩ := a.jr j e
    exact ⟨x, y, z, by rw [upd_ne (ne_of_none q h)]; exact q⟩
theorem Wr.same {J : Option Addr} {H0 H H' : Hp} (a : Wr J H0 H) (h : Same H H') : Wr J H H' := by
  refine ⟨fun c u _ e => h _ _ e, fun j e => ?_⟩
  obtain ⟨x, y, z, q⟩ := a.jr j e
  exact ⟨x, y, z, h _ _ q⟩
theorem Wr.nj {J : Option Addr} {H0 H : Hp} {p : Addr} (a : Wr J H0 H) (h : H p = none) : J ≠ some p := fun e => by
  obtain ⟨x, y, z, q⟩ := a.jr p e
  rw [h] at q
  cases q
theorem sqT_keep {K : PySem.W.Frag} {J : Option Addr} {H H' : Hp} {a : Addr} {xs : List V} (w : Keep J H H') (n : J ≠ some a) (h : SqT K H a xs) : SqT K H' a xs :=
  h.elim (fun h => .inl (h.elim (fun h => .inl (w _ _ n h)) fun ⟨o, h⟩ => .inr ⟨o, w _ _ n h⟩)) fun h => .inr h
theorem sqL_keep {K : PySem.W.Frag} {J : Option Addr} {H H' : Hp} {a : Addr} {xs : List V} (w : Keep J H H') (n : J ≠ some a) (h : SqL K H a xs) : SqL K H' a xs :=
  h.elim (fun h => .inl (h.elim (fun h => .inl (w _ _ n h)) fun ⟨o, h⟩ => .inr ⟨o, w _ _ n h⟩)) fun h => .inr h
section
variable {K : PySem.W.Frag} {J : Option Addr} {H H' : Hp}
mutual
theorem Is.keep (w : Keep J H H') : ∀ {v : V} {d : D}, Is K J H v d → Is K J H' v d
  | _, _, .non => .non
  | _, _, .bl b => .bl b
  | _, _, .int i => .int i
  | _, _, .str x => .str x
  | _, _, .tup h n l => .tup (sqT_keep w n h) n (IsL.keep w l)
  | _, _, .lst h n l => .lst (w _ _ n h) n (IsL.keep w l)
  | _, _, .scr h n => .scr (sqL_keep w n h) n
  | _, _, .dic h n => .dic (w _ _ n h) n
  | _, _, .ins h n l => .ins (w _ _ n h) n (IsF.keep w l)
  | _, _, .jar h => .jar h
theorem IsL.keep (w : Keep J H H') : ∀ {v : List V} {d : List D}, IsL K J H v d → IsL K J H' v d
  | _, _, .nil => .nil
  | _, _, .cons h t => .cons (Is.keep w h) (IsL.keep w t)
theorem IsF.keep (w : Keep J H H') : ∀ {v : List (Str × V)} {d : List (Str × D)}, IsF K J H v d → IsF K J H' v d
  | _, _, .nil => .nil
  | _, _, .cons h t => .cons (Is.keep w h) (IsF.keep w t)
end
theorem Is.mono {v : V} {d : D} (h : Is K J H v d) (w : Wr J H H') : Is K J H' v d := h.keep w.st
theorem IsL.mono {v : List V} {d : List D} (h : IsL K J H v d) (w : Wr J H H') : IsL K J H' v d := h.keep w.st
theorem IsL.len : ∀ {v : List V} {d : List D}, IsL K J H v d → v.length = d.length
  | _, _, .nil => rfl
  | _, _, .cons _ t => congrArg Nat.succ (IsL.len t)
theorem IsL.get : ∀ {vs : List V} {ds : List D} {i : Nat} {d : D}, IsL K J H vs ds → ds[i]? = some d → ∃ v, vs[i]? = some v ∧ Is K J H v d
  | _, _, _, _, .nil, e => by simp at e
  | _, _, 0, _, .cons h _, e => by simp at e; subst e; exact ⟨_, rfl, h⟩
  | _, _, i + 1, _, .cons _ t, e => by
    obtain ⟨v, h1, h2⟩ := IsL.get (i := i) t (by simpa using e)
    exact ⟨v, by simpa using h1, h2⟩
theorem IsL.get' : ∀ {vs : List V} {ds : List D} {i : Nat} {v : V}, IsL K J H vs ds → vs[i]? = some v → ∃ d, ds[i]? = some d ∧ Is K J H v d
  | _, _, _, _, .nil, e => by simp at e
  | _, _, 0, _, .cons h _, e => by simp at e; subst e; exact ⟨_, rfl, h⟩
  | _, _, i + 1, _, .cons _ t, e => by
    obtain ⟨v, h1, h2⟩ := IsL.get' (i := i) t (by simpa using e)
    exact ⟨v, by simpa using h1, h2⟩
theorem IsL.app : ∀ {vs ws : List V} {ds es : List D}, IsL K J H vs ds → IsL K J H ws es → IsL K J H (vs ++ ws) (ds ++ es)
  | _, _, _, _, .nil, r => r
  | _, _, _, _, .cons h t, r => .cons h (IsL.app t r)
theorem IsL.take : ∀ {vs : List V} {ds : List D} (n : Nat), IsL K J H vs ds → IsL K J H (vs.take n) (ds.take n)
  | _, _, 0, _ => .nil
  | _, _, _ + 1, .nil => .nil
  | _, _, n + 1, .cons h t => .cons h (IsL.take n t)
theorem IsL.drop : ∀ {vs : List V} {ds : List D} (n : Nat), IsL K J H vs ds → IsL K J H (vs.drop n) (ds.drop n)
  | _, _, 0, h => h
  | _, _, _ + 1, .nil => .nil
  | _, _, n + 1, .cons _ t => IsL.drop n t
theorem IsL.rep {vs : List V} {ds : List D} (h : IsL K J H vs ds) : ∀ n : Nat, IsL K J H (List.replicate n vs).flatten (List.replicate n ds).flatten
  | 0 => .nil
  | n + 1 => by
    rw [List.replicate_succ, List.replicate_succ, List.flatten_cons, List.flatten_cons]
    exact h.app (IsL.rep h n)
theorem IsL.ints : ∀ ns : List Int, IsL K J H (ns.map V.int) (ns.map D.int)
  | [] => .nil
  | n :: r => .cons (.int n) (IsL.ints r)
theorem IsL.snoc {vs : List V} {ds : List D} {v : V} {d : D} (h : IsL K J H vs ds) (x : Is K J H v d) : IsL K J H (vs ++ [v]) (ds ++ [d]) := h.app (.cons x .nil)
theorem IsF.lookup : ∀ {fs : List (Str × V)} {gs : List (Str × D)} {f : Str} {d : D}, IsF K J H fs gs → gs.lookup f = some d → ∃ v, fs.lookup f = some v ∧ Is K J H v d
  | _, _, _, _, .nil, e => by simp at e
  | (n, v) :: fs, _, f, d, .cons h t, e => by
    rw [List.lookup_cons] at e ⊢
    cases q : f == n with
    | true => rw [q] at e; cases e; exact ⟨_, rfl, h⟩
    | false => rw [q] at e; exact IsF.lookup t e
theorem IsF.none : ∀ {fs : List (Str × V)} {gs : List (Str × D)} {f : Str}, IsF K J H fs gs → gs.lookup f = none → fs.lookup f = none
  | _, _, _, .nil, e => rfl
  | (n, v) :: fs, _, f, .cons h t, e => by
    rw [List.lookup_cons] at e ⊢
    cases q : f == n with
    | true => rw [q] at e; cases e
    | false => rw [q] at e; exact IsF.none t e
theorem IsL.inv1 {ws : List V} {d : D} (h : IsL K J H ws [d]) : ∃ v, ws = [v] ∧ Is K J H v d := by
  cases h with
  | cons a t => cases t; exact ⟨_, rfl, a⟩
theorem IsL.inv2 {ws : List V} {d e : D} (h : IsL K J H ws [d, e]) : ∃ v u, ws = [v, u] ∧ Is K J H v d ∧ Is K J H u e := by
  cases h with
  | cons a t => obtain ⟨u, rfl, b⟩ := t.inv1; exact ⟨_, _, rfl, a, b⟩
theorem IsL.inv3 {ws : List V} {d e f : D} (h : IsL K J H ws [d, e, f]) : ∃ v u x, ws = [v, u, x] ∧ Is K J H v d ∧ Is K J H u e ∧ Is K J H x f := by
  cases h with
  | cons a t => obtain ⟨u, x, rfl, b, c⟩ := t.inv2; exact ⟨_, _, _, rfl, a, b, c⟩
end

/-! ### slots -/
abbrev Rho := List (Option D)
structure En (K : PySem.W.Frag) (J : Option Addr) (H : Hp) (σ : L2.St) (ρ : Rho) : Prop where
  len : σ.length = ρ.length
  at_ : ∀ (i : Nat) (d : D), ρ[i]? = some (some d) → ∃ v, σ[i]? = some (some v) ∧ Is K J H v d
section
variable {K : PySem.W.Frag} {J : Option Addr} {H H' : Hp} {σ : L2.St} {ρ : Rho}
theorem En.keep (e : En K J H σ ρ) (w : Keep J H H') : En K J H' σ ρ := ⟨e.len, fun i d h => by
  obtain ⟨v, h1, h2⟩ := e.at_ i d h
  exact ⟨v, h1, h2.keep w⟩⟩
theorem En.mono (e : En K J H σ ρ) (w : Wr J H H') : En K J H' σ ρ := e.keep w.st
theorem En.set (e : En K J H σ ρ) {v : V} {d : D} (h : Is K J H v d) (i : Nat) : En K J H (σ.set i (some v)) (ρ.set i (some d)) := by
  refine ⟨by rw [List.length_set, List.length_set, e.len], fun k x hk => ?_⟩
  rw [List.getElem?_set] at hk ⊢
  by_cases q : i = k
  · rw [if_pos q] at hk ⊢
    split at hk
    · rename_i hl
      rw [e.len, if_pos hl]
      cases hk
      exact ⟨v, rfl, h⟩
    · cases hk
  · rw [if_neg q] at hk ⊢
    exact e.at_ k x hk
theorem En.unset (e : En K J H σ ρ) (i : Nat) : En K J H (σ.set i none) (ρ.set i none) := by
  refine ⟨by rw [List.length_set, List.length_set, e.len], fun k x hk => ?_⟩
  rw [List.getElem?_set] at hk ⊢
  by_cases q : i = k
  · rw [if_pos q] at hk
    split at hk <;> cases hk
  · rw [if_neg q] at hk ⊢
    exact e.at_ k x hk
def startD (N : List Str) (ds : List D) : Rho := ds.map some ++ List.replicate (N.length - ds.length) none
theorem En.begin {N : List Str} {vs : List V} {ds : List D} (h : IsL K J H vs ds) : En K J H (L2.start N vs) (startD N ds) := by
  refine ⟨by unfold L2.start startD; rw [List.length_append, List.length_append, List.length_map, List.length_map, h.len, List.length_replicate, List.length_replicate], fun i d e => ?_⟩
  unfold L2.start
  unfold startD at e
  by_cases q : i < ds.length
  · rw [List.getElem?_append_left (by rw [List.length_map]; exact q), List.getElem?_map] at e
    rw [List.getElem?_append_left (by rw [List.length_map, h.len]; exact q), List.getElem?_map]
    obtain ⟨x, h1, h2⟩ := Option.map_eq_some_iff.mp e
    cases h2
    obtain ⟨v, h3, h4⟩ := h.get h1
    exact ⟨v, by rw [h3]; rfl, h4⟩
  · rw [List.getElem?_append_right (by rw [List.length_map]; omega)] at e
    have := List.mem_of_getElem? e
    cases List.eq_of_mem_replicate this
end
end PL
set_option Elab.async false
set_option linter.all false
set_option maxRecDepth 100000
set_option maxHeartbeats 4000000
namespace PL
open PySem PySem.Spec PyProof.Rows L2 GX HX

abbrev PEx := Rho → (D → Prop) → Prop
abbrev PTx := Rho → (Bool → Prop) → Prop
abbrev PAx := Rho → (List D → Prop) → Prop
abbrev PSx := Rho → (Rho → Prop) → (D → Prop) → Prop
abbrev POx := Rho → (Option Int → Prop) → Prop

def SE (K : PySem.W.Frag) (J : Option Addr) (H0 : Hp) (te : TE) (pe : PEx) : Prop := ∀ ρ Φ, pe ρ Φ → ∀ σ H, Wr J H0 H → En K J H σ ρ → ∀ Q : VK, (∀ v d H', Wr J H H' → Is K J H' v d → Φ d → Q v H') → te σ H Q
def ST (K : PySem.W.Frag) (J : Option Addr) (H0 : Hp) (tt : TT) (pt : PTx) : Prop := ∀ ρ Φ, pt ρ Φ → ∀ σ H, Wr J H0 H → En K J H σ ρ → ∀ Q : Bool → Hp → Prop, (∀ b H', Wr J H H' → Φ b → Q b H') → tt σ H Q
def SA (K : PySem.W.Frag) (J : Option Addr) (H0 : Hp) (ta : TA) (pa : PAx) : Prop := ∀ ρ Φ, pa ρ Φ → ∀ σ H, Wr J H0 H → En K J H σ ρ → ∀ Q : List V → Hp → Prop, (∀ vs ds H', Wr J H H' → IsL K J H' vs ds → Φ ds → Q vs H') → ta σ H Q
def SO (K : PySem.W.Frag) (J : Option Addr) (H0 : Hp) (to : TO) (po : POx) : Prop := ∀ ρ Φ, po ρ Φ → ∀ σ H, Wr J H0 H → En K J H σ ρ → ∀ Q : Option Int → Hp → Prop, (∀ o H', Wr J H H' → Φ o → Q o H') → to σ H Q
def SS (K : PySem.W.Frag) (J : Option Addr) (H0 : Hp) (ts : TS) (ps : PSx) : Prop := ∀ ρ N R, ps ρ N R → ∀ σ H, Wr J H0 H → En K J H σ ρ → ∀ Dn : Ends, (∀ σ' ρ' H', Wr J H H' → En K J H' σ' ρ' → N ρ' → Dn.nx σ' H') → (∀ v d H', Wr J H H' → Is K J H' v d → R d → Dn.rt v H') → ts Dn σ H
section
variable (X : Cx) (J : Option Addr) (H0 : Hp)
def QE (e : Expr) (pe : PEx) : Prop := ∃ te, PE X e te ∧ SE X.K J H0 te pe
def QT (e : Expr) (pt : PTx) : Prop := ∃ tt, PT X e tt ∧ ST X.K J H0 tt pt
def QW (e : Expr) (pt : PTx) : Prop := ∃ tt, PW X e tt ∧ ST X.K J H0 tt pt
def QA (es : List Expr) (pa : PAx) : Prop := ∃ ta, PA X es ta ∧ SA X.K J H0 ta pa
def QO (e : Option Expr) (po : POx) : Prop := ∃ to, PO X e to ∧ SO X.K J H0 to po
def QS (s : Stmt) (ps : PSx) : Prop := ∃ ts, PS X s ts ∧ SS X.K J H0 ts ps
def QSs (s : List Stmt) (ps : PSx) : Prop := ∃ ts, PSs X s ts ∧ SS X.K J H0 ts ps
end
section
variable {X : Cx} {J : Option Addr} {H0 : Hp}

/-! ### names, constants -/
def pVar (i : Nat) : PEx := fun ρ Φ => ∃ d, ρ[i]? = some (some d) ∧ Φ d
theorem qv (i : Nat) {x : Str} {pos : Pos} (hN : X.N[i]? = some x := by rfl) (hv : Vis X.env.scope x := by first | exact Or.inl rfl | exact Or.inr (Or.inl rfl) | exact Or.inr (Or.inr rfl)) (hd : (x == ("__debug__" : Str)) = false := by decide)
    (hcd : (x == ("__classdict__" : Str)) = false := by decide) : QE X J H0 (.Name x pos) (pVar i) := by
  refine ⟨_, pv i hN hv hd hcd, fun ρ Φ h σ H w e Q k => ?_⟩
  obtain ⟨d, h1, h2⟩ := h
  obtain ⟨v, h3, h4⟩ := e.at_ i d h1
  exact ⟨v, h3, k v d H w.refl h4 h2⟩
def pC (d : D) : PEx := fun _ Φ => Φ d
theorem q_int {i j pos} : QE X J H0 (.Constant (.int i) j pos) (pC (.int i)) := ⟨_, pe_int, fun ρ Φ h σ H w e Q k => k _ _ H w.refl (.int i) h⟩
theorem q_bl {i j pos} : QE X J H0 (.Constant (.bool i) j pos) (pC (.bl i)) := ⟨_, pe_bl, fun ρ Φ h σ H w e Q k => k _ _ H w.refl (.bl i) h⟩
theorem q_non {j pos} : QE X J H0 (.Constant .none j pos) (pC .non) := ⟨_, pe_non, fun ρ Φ h σ H w e Q k => k _ _ H w.refl .non h⟩
theorem q_str {i j pos} : QE X J H0 (.Constant (.str i) j pos) (pC (.str i)) := ⟨_, pe_str, fun ρ Φ h σ H w e Q k => k _ _ H w.refl (.str i) h⟩
/-- a module's constant -/
theorem q_glob {x : Str} {i : Int} {pos : Pos} (hg : Gl X x) (hm : ∃ t, X.mg x = some (.int i t)) (hd : (x == ("__debug__" : Str)) = false := by decide) : QE X J H0 (.Name x pos) (pC (.int i)) := by
  obtain ⟨t, e⟩ := hm
  exact ⟨_, pe_glob (v := .int i) hg e ⟨t, rfl⟩ hd, fun ρ Φ h σ H w e Q k => k _ _ H w.refl (.int i) h⟩

/-! ### lists of expressions -/
def pNil : PAx := fun _ Φ => Φ []
def pCons (pe : PEx) (pa : PAx) : PAx := fun ρ Φ => pe ρ fun d => pa ρ fun ds => Φ (d :: ds)
theorem qa_nil : QA X J H0 [] pNil := ⟨_, pa_nil, fun ρ Φ h σ H w e Q k => k [] [] H w.refl .nil h⟩
theorem qa_cons {e : Expr} {es : List Expr} {pe : PEx} {pa : PAx} (he : QE X J H0 e pe) (ha : QA X J H0 es pa) (hs : starEach (e :: es) X.env = (false, eval e X.env) :: starEach es X.env := by rfl) : QA X J H0 (e :: es) (pCons pe pa) := by
  obtain ⟨te, h1, s1⟩ := he
  obtain ⟨ta, h2, s2⟩ := ha
  refine ⟨_, pa_cons h1 h2 hs, fun ρ Φ h σ H w e Q k => ?_⟩
  refine s1 ρ _ h σ H w e _ fun v d H1 w1 i1 q1 => s2 ρ _ q1 σ H1 (w.trans w1) (e.mono w1) _ fun vs ds H2 w2 i2 q2 => ?_
  exact k _ _ H2 (w1.trans w2) (.cons (i1.mono w2) i2) q2
def pTup (pa : PAx) : PEx := fun ρ Φ => pa ρ fun ds => ds.length ≤ 1000 ∧ Φ (.tup ds)
def pLst (pa : PAx) : PEx := fun ρ Φ => pa ρ fun ds => ds.length ≤ 1000 ∧ Φ (.lst ds)
theorem q_tup {es : List Expr} {x1} {pos : Pos} {pa : PAx} (ha : QA X J H0 es pa) : QE X J H0 (.Tuple es x1 pos) (pTup pa) := by
  obtain ⟨ta, h2, s2⟩ := ha
  refine ⟨_, pe_tup h2, fun ρ Φ h σ H w e Q k => s2 ρ _ h σ H w e _ fun vs ds H1 w1 i1 q1 => ⟨by rw [i1.len]; exact Nat.le_of_lt (small1000 q1.1), fun p hp => ?_⟩⟩
  have wn := (w.trans w1).new (o := .tup vs) hp
  exact k _ _ _ (w1.trans wn) (.tup (SqT.of upd_same) ((w.trans w1).nj hp) (i1.mono wn)) q1.2
theorem q_lst {es : List Expr} {pos : Pos} {pa : PAx} (ha : QA X J H0 es pa) : QE X J H0 (.List es pos) (pLst pa) := by
  obtain ⟨ta, h2, s2⟩ := ha
  refine ⟨_, pe_lst h2, fun ρ Φ h σ H w e Q k => s2 ρ _ h σ H w e _ fun vs ds H1 w1 i1 q1 => ⟨by rw [i1.len]; exact Nat.le_of_lt (small1000 q1.1), fun p hp => ?_⟩⟩
  have wn := (w.trans w1).new (o := .lst vs) hp
  exact k _ _ _ (w1.trans wn) (.lst upd_same ((w.trans w1).nj hp) (i1.mono wn)) q1.2

/-! ### operators by values -/
/-- r, told of data -/
def RD (K : PySem.W.Frag) (r : R2) (q : D → D → (D → Prop) → Prop) : Prop := ∀ (J : Option Addr) (H0 H : Hp) (x y : V) (c d : D) (Φ : D → Prop), Wr J H0 H → Is K J H x c → Is K J H y d → q c d Φ → ∀ Q : VK, (∀ v d H', Wr J H H' → Is K J H' v d → Φ d → Q v H') → r x y H Q
def pOp (q : D → D → (D → Prop) → Prop) (pa pb : PEx) : PEx := fun ρ Φ => pa ρ fun c => pb ρ fun d => q c d Φ
theorem se_op {K : PySem.W.Frag} {r : R2} {q : D → D → (D → Prop) → Prop} {ta tb : TE} {pa pb : PEx} (hr : RD K r q) (sa : SE K J H0 ta pa) (sb : SE K J H0 tb pb) : SE K J H0 (tOp r ta tb) (pOp q pa pb) := fun ρ Φ h σ H w e Q k =>
  sa ρ _ h σ H w e _ fun v c H1 w1 i1 q1 => sb ρ _ q1 σ H1 (w.trans w1) (e.mono w1) _ fun u d H2 w2 i2 q2 => hr J H0 H2 v u c d Φ (w.trans (w1.trans w2)) (i1.mono w2) i2 q2 Q fun z b H3 w3 i3 q3 => k z b H3 (w1.trans (w2.trans w3)) i3 q3
theorem q_op {op : Operator} {r : R2} {q : D → D → (D → Prop) → Prop} {a b : Expr} {pa pb : PEx} {pos : Pos} (ho : OpR X (binaryOp op) r) (hr : RD X.K r q) (ha : QE X J H0 a pa) (hb : QE X J H0 b pb) : QE X J H0 (.BinOp a op b pos) (pOp q pa pb) := by
  obtain ⟨ta, h1, s1⟩ := ha
  obtain ⟨tb, h2, s2⟩ := hb
  exact ⟨_, pe_op ho h1 h2, se_op hr s1 s2⟩
def dI (C : Int → Int → Prop) (g : Int → Int → D) : D → D → (D → Prop) → Prop := fun c d Φ => ∃ i j, c = .int i ∧ d = .int j ∧ C i j ∧ Φ (g i j)
def dI0 (g : Int → Int → D) : D → D → (D → Prop) → Prop := fun c d Φ => ∃ i j, c = .int i ∧ d = .int j ∧ Φ (g i j)
theorem rd_I {K : PySem.W.Frag} {C : Int → Int → Prop} {g : Int → Int → Int} : RD K (rI C fun i j => .int (g i j)) (dI C fun i j => .int (g i j)) := by
  intro J H0 H x y c d Φ w hx hy h Q k
  obtain ⟨i, j, rfl, rfl, hc, q⟩ := h
  cases hx; cases hy
  exact ⟨i, j, rfl, rfl, hc, k _ _ H w.refl (.int _) q⟩
theorem rd_I0 {K : PySem.W.Frag} {g : Int → Int → Int} : RD K (rI0 fun i j => .int (g i j)) (dI0 fun i j => .int (g i j)) := by
  intro J H0 H x y c d Φ w hx hy h Q k
  obtain ⟨i, j, rfl, rfl, q⟩ := h
  cases hx; cases hy
  exact ⟨i, j, rfl, rfl, k _ _ H w.refl (.int _) q⟩
theorem rd_B0 {K : PySem.W.Frag} {g : Int → Int → Bool} : RD K (rI0 fun i j => .bl (g i j)) (dI0 fun i j => .bl (g i j)) := by
  intro J H0 H x y c d Φ w hx hy h Q k
  obtain ⟨i, j, rfl, rfl, q⟩ := h
  cases hx; cases hy
  exact ⟨i, j, rfl, rfl, k _ _ H w.refl (.bl _) q⟩
section
variable {a b : Expr} {pa pb : PEx} {pos : Pos}
theorem q_add (ha : QE X J H0 a pa) (hb : QE X J H0 b pb) : QE X J H0 (.BinOp a .Add b pos) (pOp (dI0 fun i j => .int (i + j)) pa pb) := q_op op_add rd_I0 ha hb
theorem q_sub (ha : QE X J H0 a pa) (hb : QE X J H0 b pb) : QE X J H0 (.BinOp a .Sub b pos) (pOp (dI0 fun i j => .int (i - j)) pa pb) := q_op op_sub rd_I0 ha hb
theorem q_mul (ha : QE X J H0 a pa) (hb : QE X J H0 b pb) : QE X J H0 (.BinOp a .Mult b pos) (pOp (dI CMulW fun i j => .int (i * j)) pa pb) := q_op op_mulW rd_I ha hb
theorem q_fdiv (ha : QE X J H0 a pa) (hb : QE X J H0 b pb) : QE X J H0 (.BinOp a .FloorDiv b pos) (pOp (dI CDivW fun i j => .int (i / j)) pa pb) := q_op op_fdivW rd_I ha hb
theorem q_mod (ha : QE X J H0 a pa) (hb : QE X J H0 b pb) : QE X J H0 (.BinOp a .Mod b pos) (pOp (dI (fun _ j => 0 < j) fun i j => .int (i % j)) pa pb) := q_op op_mod rd_I ha hb
theorem q_pow (ha : QE X J H0 a pa) (hb : QE X J H0 b pb) : QE X J H0 (.BinOp a .Pow b pos) (pOp (dI CPow fun i j => .int (i ^ j.toNat)) pa pb) := q_op op_pow rd_I ha hb
end
def dCat : D → D → (D → Prop) → Prop := fun c d Φ => ∃ x y, c = .lst x ∧ d = .lst y ∧ x.length + y.length ≤ 1000 ∧ Φ (.lst (x ++ y))
theorem rd_cat {K : PySem.W.Frag} : RD K rCat dCat := by
  intro J H0 H x y c d Φ w hx hy h Q k
  obtain ⟨a, b, rfl, rfl, hz, q⟩ := h
  cases hx with
  | lst h1 n1 l1 =>
  cases hy with
  | lst h2 n2 l2 =>
  refine ⟨_, _, _, _, rfl, rfl, h1, h2, by rw [l1.len, l2.len]; exact Nat.le_of_lt (small1000 hz), fun p hp => ?_⟩
  refine k _ _ _ (w.new hp) ?_ q
  exact .lst upd_same (w.nj hp) ((l1.app l2).mono (w.new hp))
def dRep : D → D → (D → Prop) → Prop := fun c d Φ => ∃ x n, c = .lst x ∧ d = .int n ∧ 0 ≤ n ∧ n ≤ 1000 ∧ x.length * n.toNat ≤ 1000 ∧ Φ (.lst (List.replicate n.toNat x).flatten)
theorem rd_rep {K : PySem.W.Frag} : RD K rRep dRep := by
  intro J H0 H x y c d Φ w hx hy h Q k
  obtain ⟨a, b, rfl, rfl, h0, h9, hz, q⟩ := h
  cases hx with
  | lst h1 n1 l1 =>
  cases hy
  refine ⟨_, _, _, rfl, rfl, h1, by omega, by omega, by rw [l1.len]; exact Nat.le_of_lt (small1000 hz), fun p hp => ?_⟩
  refine k _ _ _ (w.new hp) ?_ q
  exact .lst upd_same (w.nj hp) ((l1.rep _).mono (w.new hp))
section
variable {a b : Expr} {pa pb : PEx} {pos : Pos}
theorem q_cat (ha : QE X J H0 a pa) (hb : QE X J H0 b pb) : QE X J H0 (.BinOp a .Add b pos) (pOp dCat pa pb) := q_op op_cat rd_cat ha hb
theorem q_rep (ha : QE X J H0 a pa) (hb : QE X J H0 b pb) : QE X J H0 (.BinOp a .Mult b pos) (pOp dRep pa pb) := q_op op_rep rd_rep ha hb
def dAddS : D → D → (D → Prop) → Prop := fun c d Φ => ∃ x y, c = .str x ∧ d = .str y ∧ x.length + y.length ≤ 100000 ∧ Φ (.str (x ++ y))
theorem q_adds (ha : QE X J H0 a pa) (hb : QE X J H0 b pb) : QE X J H0 (.BinOp a .Add b pos) (pOp dAddS pa pb) := by
  refine q_op op_add_str (fun J H0 H x y c d Φ w hx hy h Q k => ?_) ha hb
  obtain ⟨i, j, rfl, rfl, hz, q⟩ := h
  cases hx; cases hy
  exact ⟨i, j, rfl, rfl, Nat.le_trans hz (by decide), k _ _ H w.refl (.str _) q⟩
/-- one value's operator -/
theorem q_neg (ha : QE X J H0 a pa) : QE X J H0 (.UnaryOp .USub a pos) (fun ρ Φ => pa ρ fun c => ∃ i, c = .int i ∧ Φ (.int (-i))) := by
  obtain ⟨ta, h1, s1⟩ := ha
  refine ⟨_, pe_un un_neg h1, fun ρ Φ h σ H w e Q k => s1 ρ _ h σ H w e _ fun v c H1 w1 i1 q1 => ?_⟩
  obtain ⟨i, rfl, q⟩ := q1
  cases i1
  exact ⟨i, rfl, k _ _ H1 w1 (.int _) q⟩

/-! ### comparisons -/
theorem q_cmp {op : CmpOp} {r : R2} {q : D → D → (D → Prop) → Prop} (ho : OpR X (compareOp op) r) (hr : RD X.K r q) (ha : QE X J H0 a pa) (hb : QE X J H0 b pb) (hm : behindInMarks op b = false) : QE X J H0 (.Compare a [op] [b] pos) (pOp q pa pb) := by
  obtain ⟨ta, h1, s1⟩ := ha
  obtain ⟨tb, h2, s2⟩ := hb
  exact ⟨_, pe_cmpR ho h1 h2 hm, se_op hr s1 s2⟩
/-- a value True or False as a test -/
def pTest (pe : PEx) : PTx := fun ρ Φ => pe ρ fun d => ∃ k, d = .bl k ∧ Φ k
theorem qt_val {e : Expr} {pe : PEx} (h : QE X J H0 e pe) (he : ∀ whole, isTrue e X.env whole = (do let v ← whole; standAt e.pos; holding [v] (truthy v)) := by intro _; rfl) : QT X J H0 e (pTest pe) := by
  obtain ⟨te, h1, s1⟩ := h
  refine ⟨_, pt_val h1 he, fun ρ Φ h σ H w e Q k => s1 ρ _ h σ H w e _ fun v d H1 w1 i1 q1 => ?_⟩
  obtain ⟨b, rfl, q⟩ := q1
  cases i1
  exact ⟨b, rfl, k b H1 w1 q⟩
theorem qt_cmp {op : CmpOp} {r : R2} {q : D → D → (D → Prop) → Prop} (ho : OpR X (compareOp op) r) (hr : RD X.K r q) (ha : QE X J H0 a pa) (hb : QE X J H0 b pb) (hm : behindInMarks op b = false) : QT X J H0 (.Compare a [op] [b] pos) (pTest (pOp q pa pb)) := by
  obtain ⟨ta, h1, s1⟩ := ha
  obtain ⟨tb, h2, s2⟩ := hb
  refine ⟨_, pt_cmpR ho h1 h2 hm, fun ρ Φ h σ H w e Q k => se_op hr s1 s2 ρ _ h σ H w e _ fun v d H1 w1 i1 q1 => ?_⟩
  obtain ⟨b, rfl, q⟩ := q1
  cases i1
  exact ⟨b, rfl, k b H1 w1 q⟩
/-- == of scalars -/
def scD : D → D → Bool
  | .non, .non => true | .non, .int _ => true | .int _, .non => true | .non, .bl _ => true | .bl _, .non => true | .non, .str _ => true | .str _, .non => true
  | .int _, .int _ => true | .bl _, .bl _ => true | .str _, .str _ => true
  | .int _, .str _ => true | .str _, .int _ => true | .bl _, .str _ => true | .str _, .bl _ => true
  | _, _ => false
def eqS : D → D → Bool
  | .non, .non => true
  | .int i, .int j => decide (i = j)
  | .bl i, .bl j => i == j
  | .str i, .str j => decide (i = j)
  | _, _ => false
theorem dec_ints {i j : Int} : decide (V.int i = V.int j) = decide (i = j) := by
  rw [Bool.eq_iff_iff]
  simp
theorem dec_strs {i j : Str} : decide (V.str i = V.str j) = decide (i = j) := by
  rw [Bool.eq_iff_iff]
  simp
theorem dec_bls {i j : Bool} : decide (V.bl i = V.bl j) = (i == j) := by
  cases i <;> cases j <;> rfl
theorem scal_of {K : PySem.W.Frag} {J : Option Addr} {H : Hp} {x y : V} {c d : D} (hx : Is K J H x c) (hy : Is K J H y d) (h : scD c d = true) : scal x y = true ∧ decide (x = y) = eqS c d := by
  cases hx <;> cases hy <;> first
    | exact Bool.noConfusion (show false = true from h)
    | exact ⟨rfl, rfl⟩
    | exact ⟨rfl, decide_eq_false fun z => nomatch z⟩
    | exact ⟨rfl, dec_ints⟩
    | exact ⟨rfl, dec_strs⟩
    | exact ⟨rfl, dec_bls⟩
def dEq : D → D → (D → Prop) → Prop := fun c d Φ => scD c d = true ∧ Φ (.bl (eqS c d))
def dNe : D → D → (D → Prop) → Prop := fun c d Φ => scD c d = true ∧ Φ (.bl (!eqS c d))
theorem rd_eq {K : PySem.W.Frag} : RD K rEq dEq := by
  intro J H0 H x y c d Φ w hx hy h Q k
  obtain ⟨h1, h2⟩ := scal_of hx hy h.1
  exact ⟨h1, by rw [h2]; exact k _ _ H w.refl (.bl _) h.2⟩
theorem rd_ne {K : PySem.W.Frag} : RD K rNe dNe := by
  intro J H0 H x y c d Φ w hx hy h Q k
  obtain ⟨h1, h2⟩ := scal_of hx hy h.1
  exact ⟨h1, by rw [h2]; exact k _ _ H w.refl (.bl _) h.2⟩
/-! plain data -/
mutual
def toP : D → Option PyData
  | .non => some .none
  | .bl b => some (.bool b)
  | .int i => some (.int i)
  | .str x => some (.str x)
  | .tup l => (toPs l).map .tuple
  | .lst l => (toPs l).map .list
  | _ => none
def toPs : List D → Option (List PyData)
  | [] => some []
  | d :: r => match toP d, toPs r with
    | some a, some b => some (a :: b)
    | _, _ => none
end
section
variable {K : PySem.W.Frag} {J : Option Addr} {H : Hp}
mutual
theorem Is.dp : ∀ {v : V} {d : D} {p : PyData}, Is K J H v d → toP d = some p → Dp K H v p
  | _, _, _, .non, e => by cases e; exact .non
  | _, _, _, .bl b, e => by cases e; exact .bl b
  | _, _, _, .int b, e => by cases e; exact .int b
  | _, _, _, .str b, e => by cases e; exact .str b
  | _, .tup l, _, .tup h n t, e => by
    rw [toP] at e
    obtain ⟨ps, h1, h2⟩ := Option.map_eq_some_iff.mp e
    subst h2
    exact .tup h (IsL.dp t h1)
  | _, .lst l, _, .lst h n t, e => by
    rw [toP] at e
    obtain ⟨ps, h1, h2⟩ := Option.map_eq_some_iff.mp e
    subst h2
    exact .lst (SqL.of h) (IsL.dp t h1)
  | _, _, _, .dic _ _, e => by rw [toP] at e <;> first | cases e | (intros; contradiction)
  | _, _, _, .ins _ _ _, e => by rw [toP] at e <;> first | cases e | (intros; contradiction)
  | _, _, _, .jar _, e => by rw [toP] at e <;> first | cases e | (intros; contradiction)
  | _, _, _, .scr _ _, e => by rw [toP] at e <;> first | cases e | (intros; contradiction)
theorem IsL.dp : ∀ {v : List V} {d : List D} {p : List PyData}, IsL K J H v d → toPs d = some p → DpAll K H v p
  | _, _, _, .nil, e => by rw [toPs] at e; cases e; exact .nil
  | _, d :: ds, _, .cons h t, e => by
    rw [toPs] at e
    split at e
    · rename_i a b h1 h2
      cases e
      exact .cons (Is.dp h h1) (IsL.dp t h2)
    · cases e
end
end
def dEqD : D → D → (D → Prop) → Prop := fun c d Φ => ∃ p q, toP c = some p ∧ toP d = some q ∧ SeqAt.shaped p = true ∧ SeqAt.shaped q = true ∧ Φ (.bl (PyData.eqv p q))
def dNeD : D → D → (D → Prop) → Prop := fun c d Φ => ∃ p q, toP c = some p ∧ toP d = some q ∧ SeqAt.shaped p = true ∧ SeqAt.shaped q = true ∧ Φ (.bl (!PyData.eqv p q))
theorem rd_eqD {K : PySem.W.Frag} : RD K (rEqD K) dEqD := by
  intro J H0 H x y c d Φ w hx hy h Q k
  obtain ⟨p, q, h1, h2, h3, h4, h5⟩ := h
  exact ⟨p, q, hx.dp h1, hy.dp h2, h3, h4, k _ _ H w.refl (.bl _) h5⟩
theorem rd_neD {K : PySem.W.Frag} : RD K (rNeD K) dNeD := by
  intro J H0 H x y c d Φ w hx hy h Q k
  obtain ⟨p, q, h1, h2, h3, h4, h5⟩ := h
  exact ⟨p, q, hx.dp h1, hy.dp h2, h3, h4, k _ _ H w.refl (.bl _) h5⟩
def isNon : D → Bool
  | .non => true
  | _ => false
theorem q_isN {j pos'} (ha : QE X J H0 a pa) : QE X J H0 (.Compare a [.Is] [.Constant .none j pos'] pos) (fun ρ Φ => pa ρ fun c => Φ (.bl (isNon c))) := by
  obtain ⟨ta, h1, s1⟩ := ha
  refine ⟨_, pe_cmp (pc_isN h1), fun ρ Φ h σ H w e Q k => s1 ρ _ h σ H w e _ fun v c H1 w1 i1 q1 => ?_⟩
  have : decide (v = V.non) = isNon c := by cases i1 <;> simp [isNon]
  rw [this]
  exact k _ _ H1 w1 (.bl _) q1
theorem q_notN {j pos'} (ha : QE X J H0 a pa) : QE X J H0 (.Compare a [.IsNot] [.Constant .none j pos'] pos) (fun ρ Φ => pa ρ fun c => Φ (.bl (!isNon c))) := by
  obtain ⟨ta, h1, s1⟩ := ha
  refine ⟨_, pe_cmp (pc_notN h1), fun ρ Φ h σ H w e Q k => s1 ρ _ h σ H w e _ fun v c H1 w1 i1 q1 => ?_⟩
  have : decide (v = V.non) = isNon c := by cases i1 <;> simp [isNon]
  rw [this]
  exact k _ _ H1 w1 (.bl _) q1

/-! ### and, or, not, if -/
theorem qt_pw {e : Expr} {pt : PTx} (h : QW X J H0 e pt) : QT X J H0 e pt := by
  obtain ⟨t, h1, s⟩ := h
  exact ⟨t, h1.pt, s⟩
def pAnd (p q : PTx) : PTx := fun ρ Φ => p ρ fun c => (c = true → q ρ Φ) ∧ (c = false → Φ false)
def pOr (p q : PTx) : PTx := fun ρ Φ => p ρ fun c => (c = true → Φ true) ∧ (c = false → q ρ Φ)
def pNot (p : PTx) : PTx := fun ρ Φ => p ρ fun c => Φ (!c)
theorem ite_of {b : Bool} {A B : Prop} (h1 : b = true → A) (h2 : b = false → B) : if b = true then A else B := by
  cases b with
  | true => rw [if_pos rfl]; exact h1 rfl
  | false => rw [if_neg Bool.false_ne_true]; exact h2 rfl
section
variable {p q : PTx} {rest : List Expr}
theorem qw_and1 (h : QT X J H0 a p) : QW X J H0 (.BoolOp .And [a] pos) p := by
  obtain ⟨t, h1, s⟩ := h
  exact ⟨t, pw_and1 h1, s⟩
theorem qw_or1 (h : QT X J H0 a p) : QW X J H0 (.BoolOp .Or [a] pos) p := by
  obtain ⟨t, h1, s⟩ := h
  exact ⟨t, pw_or1 h1, s⟩
theorem qw_and (h : QT X J H0 a p) (g : QW X J H0 (.BoolOp .And (b :: rest) pos) q) : QW X J H0 (.BoolOp .And (a :: b :: rest) pos) (pAnd p q) := by
  obtain ⟨t, h1, s1⟩ := h
  obtain ⟨u, h2, s2⟩ := g
  exact ⟨_, pw_and h1 h2, fun ρ Φ h σ H w e Q k => s1 ρ _ h σ H w e _ fun c H1 w1 q1 => ite_of (fun z => s2 ρ Φ (q1.1 z) σ H1 (w.trans w1) (e.mono w1) Q fun b H2 w2 q2 => k b H2 (w1.trans w2) q2) fun z => k false H1 w1 (q1.2 z)⟩
theorem qw_or (h : QT X J H0 a p) (g : QW X J H0 (.BoolOp .Or (b :: rest) pos) q) : QW X J H0 (.BoolOp .Or (a :: b :: rest) pos) (pOr p q) := by
  obtain ⟨t, h1, s1⟩ := h
  obtain ⟨u, h2, s2⟩ := g
  exact ⟨_, pw_or h1 h2, fun ρ Φ h σ H w e Q k => s1 ρ _ h σ H w e _ fun c H1 w1 q1 => ite_of (fun z => k true H1 w1 (q1.1 z)) fun z => s2 ρ Φ (q1.2 z) σ H1 (w.trans w1) (e.mono w1) Q fun b H2 w2 q2 => k b H2 (w1.trans w2) q2⟩
theorem qt_not (h : QT X J H0 a p) : QT X J H0 (.UnaryOp .Not a pos) (pNot p) := by
  obtain ⟨t, h1, s1⟩ := h
  exact ⟨_, pt_not h1, fun ρ Φ h σ H w e Q k => s1 ρ _ h σ H w e _ fun c H1 w1 q1 => k _ H1 w1 q1⟩
def pIf (p : PTx) (pa pb : PEx) : PEx := fun ρ Φ => p ρ fun c => (c = true → pa ρ Φ) ∧ (c = false → pb ρ Φ)
theorem q_ifExp {c : Expr} (hc : QT X J H0 c p) (ha : QE X J H0 a pa) (hb : QE X J H0 b pb) : QE X J H0 (.IfExp c a b pos) (pIf p pa pb) := by
  obtain ⟨t, h1, s1⟩ := hc
  obtain ⟨ta, h2, s2⟩ := ha
  obtain ⟨tb, h3, s3⟩ := hb
  exact ⟨_, pe_ifExp h1 h2 h3, fun ρ Φ h σ H w e Q k => s1 ρ _ h σ H w e _ fun c H1 w1 q1 => ite_of (fun z => s2 ρ Φ (q1.1 z) σ H1 (w.trans w1) (e.mono w1) Q fun v d H2 w2 i2 q2 => k v d H2 (w1.trans w2) i2 q2)
    fun z => s3 ρ Φ (q1.2 z) σ H1 (w.trans w1) (e.mono w1) Q fun v d H2 w2 i2 q2 => k v d H2 (w1.trans w2) i2 q2⟩
/-- not, and, or as values -/
theorem q_not (ha : QE X J H0 a pa) : QE X J H0 (.UnaryOp .Not a pos) (fun ρ Φ => pa ρ fun d => ∃ k, d = .bl k ∧ Φ (.bl (!k))) := by
  obtain ⟨ta, h1, s1⟩ := ha
  refine ⟨_, pe_not h1, fun ρ Φ h σ H w e Q k => s1 ρ _ h σ H w e _ fun v d H1 w1 i1 q1 => ?_⟩
  obtain ⟨b, rfl, q⟩ := q1
  cases i1
  exact ⟨b, rfl, k _ _ H1 w1 (.bl _) q⟩
theorem q_one {op} (h : QE X J H0 a pa) : QE X J H0 (.BoolOp op [a] pos) pa := by
  obtain ⟨t, h1, s⟩ := h
  exact ⟨t, pe_one h1, s⟩
def pAndV (pa pb : PEx) : PEx := fun ρ Φ => pa ρ fun d => ∃ c, d = .bl c ∧ (c = true → pb ρ Φ) ∧ (c = false → Φ (.bl false))
def pOrV (pa pb : PEx) : PEx := fun ρ Φ => pa ρ fun d => ∃ c, d = .bl c ∧ (c = true → Φ (.bl true)) ∧ (c = false → pb ρ Φ)
theorem q_and (ha : QE X J H0 a pa) (hb : QE X J H0 (.BoolOp .And (b :: rest) pos) pb) : QE X J H0 (.BoolOp .And (a :: b :: rest) pos) (pAndV pa pb) := by
  obtain ⟨ta, h1, s1⟩ := ha
  obtain ⟨tb, h2, s2⟩ := hb
  refine ⟨_, pe_and h1 h2, fun ρ Φ h σ H w e Q k => s1 ρ _ h σ H w e _ fun v d H1 w1 i1 q1 => ?_⟩
  obtain ⟨c, rfl, y, n⟩ := q1
  cases i1
  exact ⟨c, rfl, ite_of (fun z => s2 ρ Φ (y z) σ H1 (w.trans w1) (e.mono w1) Q fun v d H2 w2 i2 q2 => k v d H2 (w1.trans w2) i2 q2) fun z => k _ _ H1 w1 (.bl _) (n z)⟩
theorem q_or (ha : QE X J H0 a pa) (hb : QE X J H0 (.BoolOp .Or (b :: rest) pos) pb) : QE X J H0 (.BoolOp .Or (a :: b :: rest) pos) (pOrV pa pb) := by
  obtain ⟨ta, h1, s1⟩ := ha
  obtain ⟨tb, h2, s2⟩ := hb
  refine ⟨_, pe_or h1 h2, fun ρ Φ h σ H w e Q k => s1 ρ _ h σ H w e _ fun v d H1 w1 i1 q1 => ?_⟩
  obtain ⟨c, rfl, y, n⟩ := q1
  cases i1
  exact ⟨c, rfl, ite_of (fun z => k _ _ H1 w1 (.bl _) (y z)) fun z => s2 ρ Φ (n z) σ H1 (w.trans w1) (e.mono w1) Q fun v d H2 w2 i2 q2 => k v d H2 (w1.trans w2) i2 q2⟩
end

/-! ### statements -/
def pNext : PSx := fun ρ N R => N ρ
def pSeq (p q : PSx) : PSx := fun ρ N R => p ρ (fun ρ' => q ρ' N R) R
def pSet (i : Nat) (pe : PEx) : PSx := fun ρ N R => pe ρ fun d => N (ρ.set i (some d))
def pRet (pe : PEx) : PSx := fun ρ N R => pe ρ R
def pRetN : PSx := fun ρ N R => R .non
def pIfS (t : PTx) (p q : PSx) : PSx := fun ρ N R => t ρ fun c => (c = true → p ρ N R) ∧ (c = false → q ρ N R)
def pNever : PSx := fun _ _ _ => False
section
variable {st : Stmt} {rest sa sb : List Stmt} {p q : PSx} {t : PTx} {e c : Expr} {pe : PEx}
theorem qss_nil : QSs X J H0 [] pNext := ⟨_, pss_nil, fun ρ N R h σ H w e Dn kn kr => kn σ ρ H w.refl e h⟩
theorem qss_cons (h1 : QS X J H0 st p) (h2 : QSs X J H0 rest q) : QSs X J H0 (st :: rest) (pSeq p q) := by
  obtain ⟨t1, a1, s1⟩ := h1
  obtain ⟨t2, a2, s2⟩ := h2
  refine ⟨_, pss_cons a1 a2, fun ρ N R h σ H w e Dn kn kr => ?_⟩
  refine s1 ρ _ R h σ H w e { Dn with nx := t2 Dn } (fun σ' ρ' H1 w1 e1 n1 => ?_) kr
  exact s2 ρ' N R n1 σ' H1 (w.trans w1) e1 Dn (fun σ2 ρ2 H2 w2 e2 n2 => kn σ2 ρ2 H2 (w1.trans w2) e2 n2) fun v d H2 w2 i2 q2 => kr v d H2 (w1.trans w2) i2 q2
theorem qss_one (h : QS X J H0 st p) : QSs X J H0 [st] p := by
  obtain ⟨t1, a1, s1⟩ := h
  exact ⟨t1, pss_one a1, s1⟩
theorem qs_set {i : Nat} {x : Str} {pos' : Pos} (hN : X.N.Nodup) (hi : X.N[i]? = some x) (hx : Loc X.env.scope x) (he : QE X J H0 e pe) (hs : swapsWith e (some (.Name x pos')) pos.line X.env = pure false := by rfl)
    (hf : X.fn x = true ∨ X.env.scope.names.lookup x = some .local := by first | exact .inl rfl | exact .inr rfl | assumption) : QS X J H0 (.Assign [.Name x pos'] e pos) (pSet i pe) := by
  obtain ⟨te, a1, s1⟩ := he
  exact ⟨_, ps_set hN hi hx a1 hs hf, fun ρ N R h σ H w e Dn kn kr => s1 ρ _ h σ H w e _ fun v d H1 w1 i1 q1 => kn _ _ H1 w1 ((e.mono w1).set i1 i) q1⟩
theorem qs_ret (he : QE X J H0 e pe) : QS X J H0 (.Return (some e) pos) (pRet pe) := by
  obtain ⟨te, a1, s1⟩ := he
  exact ⟨_, ps_ret a1, fun ρ N R h σ H w e Dn kn kr => s1 ρ _ h σ H w e _ fun v d H1 w1 i1 q1 => kr v d H1 w1 i1 q1⟩
theorem qs_retN : QS X J H0 (.Return none pos) pRetN := ⟨_, ps_retN, fun ρ N R h σ H w e Dn kn kr => kr .non .non H w.refl .non h⟩
theorem qs_if (hc : QT X J H0 c t) (ha : QSs X J H0 sa p) (hb : QSs X J H0 sb q) : QS X J H0 (.If c sa sb pos) (pIfS t p q) := by
  obtain ⟨tt, a1, s1⟩ := hc
  obtain ⟨t2, a2, s2⟩ := ha
  obtain ⟨t3, a3, s3⟩ := hb
  exact ⟨_, ps_if a1 a2 a3, fun ρ N R h σ H w e Dn kn kr => s1 ρ _ h σ H w e _ fun c H1 w1 q1 => ite_of
    (fun z => s2 ρ N R (q1.1 z) σ H1 (w.trans w1) (e.mono w1) Dn (fun σ2 ρ2 H2 w2 e2 n2 => kn σ2 ρ2 H2 (w1.trans w2) e2 n2) fun v d H2 w2 i2 q2 => kr v d H2 (w1.trans w2) i2 q2)
    fun z => s3 ρ N R (q1.2 z) σ H1 (w.trans w1) (e.mono w1) Dn (fun σ2 ρ2 H2 w2 e2 n2 => kn σ2 ρ2 H2 (w1.trans w2) e2 n2) fun v d H2 w2 i2 q2 => kr v d H2 (w1.trans w2) i2 q2⟩
theorem qs_never : QS X J H0 st pNever := ⟨_, ps_never, fun ρ N R h => h.elim⟩
theorem qss_never : QSs X J H0 rest pNever := ⟨_, pss_never, fun ρ N R h => h.elim⟩
end
end
end
end PL
set_option Elab.async false
set_option linter.all false
set_option maxRecDepth 100000
set_option maxHeartbeats 4000000
namespace PL
open PySem PySem.Spec PyProof.Rows L2 GX HX

/-! ### promises -/
abbrev PF := List D → (D → Prop) → (Str → D → Prop) → Prop
/-- the fields of the errors that have others than given alone -/
def flOf (c : Str) : List Str :=
  if (["Unlike", "NotLed"] : List Str).contains c then ["kind", "other"]
  else if c == ("InvalidShape" : Str) then ["shape", "other"]
  else if c == ("NotSquare" : Str) then ["shape"]
  else if (["NotAField", "NotWhole", "NotOrdered", "NotRests", "NoGoal"] : List Str).contains c then ["kind"]
  else if (["InvalidCoefficients", "InvalidEntries", "InvalidRows", "InvalidColumns", "InvalidIndexes", "InvalidGrids", "InvalidPoints", "InvalidBottoms", "InvalidPolys", "InvalidRun", "InvalidPairs", "InvalidPlaces", "InvalidLog", "InUse", "Broken"] : List Str).contains c then ["index"]
  else ["given"]
/-- what an error's dict holds: one field is told by its datum, several by a tuple of theirs -/
def XF (K : PySem.W.Frag) (J : Option Addr) (H : Hp) (c : Str) (fs : List (Str × V)) (d : D) : Prop :=
  (∃ f v, flOf c = [f] ∧ fs = [(f, v)] ∧ Is K J H v d) ∨ ∃ f g v u a b, flOf c = [f, g] ∧ fs = [(g, u), (f, v)] ∧ d = .tup [a, b] ∧ Is K J H v a ∧ Is K J H u b
/-- an error of the class of this name with these fields -/
def WOk (K : PySem.W.Frag) (J : Option Addr) (H0 : Hp) (E : XK) (Ξ : Str → D → Prop) : Prop := ∀ (c : Str) (d : D) (H' : Hp) (dd : Addr) (fs : List (Str × V)), Wr J H0 H' → H' dd = some (.xd fs) → XF K J H' c fs d → Ξ c d → E (.ref (He.ga K c)) (some dd) H'
abbrev noX : Str → D → Prop := fun _ _ => False
theorem wok0 {K : PySem.W.Frag} {J : Option Addr} {H0 : Hp} {E : XK} : WOk K J H0 E noX := fun _ _ _ _ _ _ _ _ z => z.elim
theorem WOk.mono {K : PySem.W.Frag} {J : Option Addr} {H0 H1 : Hp} {E : XK} {Ξ : Str → D → Prop} (h : WOk K J H0 E Ξ) (w : Wr J H0 H1) : WOk K J H1 E Ξ := fun c d H' dd v w' => h c d H' dd v (w.trans w')
def spP (K : PySem.W.Frag) (pf : PF) : Sp := fun vs H Q E => ∃ (J : Option Addr) (ds : List D) (Φ : D → Prop) (Ξ : Str → D → Prop), (∀ j, J = some j → Jar H j) ∧ IsL K J H vs ds ∧ pf ds Φ Ξ ∧ (∀ v d H', Wr J H H' → Is K J H' v d → Φ d → Q v H') ∧ WOk K J H E Ξ
/-- how many arguments -/
def PLen (pf : PF) (n : Nat) : Prop := ∀ ds Φ Ξ, pf ds Φ Ξ → ds.length = n
theorem spP_len {K : PySem.W.Frag} {pf : PF} {n : Nat} (h : PLen pf n) {vs : List V} {H : Hp} {Q : VK} {E : XK} (s : spP K pf vs H Q E) : vs.length = n := by
  obtain ⟨J, ds, Φ, Ξ, _, i, p, _⟩ := s
  rw [i.len]
  exact h ds Φ Ξ p
section
variable {P : Program} {w : World} {K : PySem.W.Frag} {mg : Str → Option Value} {base : Heap}
abbrev FnP (P : Program) (w : World) (K : PySem.W.Frag) (mg : Str → Option Value) (base : Heap) (k : Nat) (f : Addr) (fd : FuncData) (ps : List Str) (pf : PF) : Prop := FnOk P w K mg base (L2.CX P w) k f fd ps (spP K pf)
abbrev FnGP (P : Program) (w : World) (K : PySem.W.Frag) (mg : Str → Option Value) (base : Heap) (k : Nat) (f : Addr) (fd : FuncData) (ps : List Str) (pf : PF) : Prop := FnG P w K mg base (L2.CX P w) k f fd ps (spP K pf)
theorem fnP {x qual : Str} {st : Stmt} {f : Addr} {fd : FuncData} {N ps : List Str} {k : Nat} {pf : PF} (F : Fun K x qual st f fd) (S : FnScope N ps (defScope st)) (len : PLen pf ps.length)
    (hbody : ∀ (cdv : Value) (A : Around) (outer : List Env) (s : Shared) (H : Hp) (E : XK) (J : Option Addr) (Ξ : Str → D → Prop), Room k (A.deeper (envOfC qual (defScope st) s.heap.objs.size f cdv)) → WOk K J H E Ξ →
      ∃ p, QSs (cxOf (L2.CX P w) P w K mg base N qual (defScope st) f cdv A outer s H E) J H (defBody st) p ∧ ∀ ds Φ, pf ds Φ Ξ → p (startD N ds) (fun _ => Φ .non) Φ) : FnP P w K mg base (k + 1) f fd ps pf := by
  refine F.okX S (fun vs H Q E h => spP_len len h) fun cdv A outer s H vs Q E hr h => ?_
  obtain ⟨J, ds, Φ, Ξ, hj, hi, hp, hq, hw⟩ := h
  obtain ⟨p, ⟨t, h1, s1⟩, b⟩ := hbody cdv A outer s H E J Ξ hr hw
  refine ⟨t, h1, s1 _ _ _ (b ds Φ hp) _ H ⟨fun _ _ _ h => h, hj⟩ (En.begin hi) _ (fun σ' ρ' H' w' e' q => ?_) fun v d H' w' i' q => hq v d H' w' i' q⟩
  exact hq .non .non H' w' .non q
/-- for a def that shows data -/
theorem fnGP {x qual : Str} {st : Stmt} {f : Addr} {fd : FuncData} {N ps : List Str} {k : Nat} {pf : PF} (F : Fun K x qual st f fd) (S : FnScope N ps (defScope st)) (len : PLen pf ps.length)
    (hbody : ∀ (cdv : Value) (A : Around) (outer : List Env) (s : Shared) (H : Hp) (E : XK) (J : Option Addr) (Ξ : Str → D → Prop), Room k (A.deeper (envOfC qual (defScope st) s.heap.objs.size f cdv)) → A.guards = some [] → WOk K J H E Ξ →
      ∃ p, QSs (cxOf (L2.CX P w) P w K mg base N qual (defScope st) f cdv A outer s H E) J H (defBody st) p ∧ ∀ ds Φ, pf ds Φ Ξ → p (startD N ds) (fun _ => Φ .non) Φ) : FnGP P w K mg base (k + 1) f fd ps pf := by
  refine fnG_of F S (fun vs H Q E h => spP_len len h) fun cdv A outer s H vs Q E hr hg h => ?_
  obtain ⟨J, ds, Φ, Ξ, hj, hi, hp, hq, hw⟩ := h
  obtain ⟨p, ⟨t, h1, s1⟩, b⟩ := hbody cdv A outer s H E J Ξ hr hg hw
  refine ⟨t, h1, s1 _ _ _ (b ds Φ hp) _ H ⟨fun _ _ _ h => h, hj⟩ (En.begin hi) _ (fun σ' ρ' H' w' e' q => ?_) fun v d H' w' i' q => hq v d H' w' i' q⟩
  exact hq .non .non H' w' .non q
end
/-- a body's own wish lets its callees' errors out -/
theorem passOwn {P : Program} {w : World} {K : PySem.W.Frag} {mg : Str → Option Value} {base : Heap} {N : List Str} {qual : Str} {scope : Scope} {f : Addr} {cd : Value} {A : Around} {outer : List Env} {s : Shared} {H : Hp} {E : XK} :
    Passes (L2.CX P w) (cxOf (L2.CX P w) P w K mg base N qual scope f cd A outer s H E) E := passes_call (takes_of rfl rfl rfl rfl) fun _ _ _ _ h => h
theorem pass00 {X : Cx} : Passes (L2.CX X.prog X.w) X E0 := passL
section
variable {X : Cx} {J : Option Addr} {H0 : Hp}
variable {k : Nat} {f C : Addr} {fd : FuncData} {ps : List Str} {pf : PF} {E : XK} {Ξ : Str → D → Prop} {x m c : Str} {p pos apos : Pos} {e o : Expr} {es : List Expr} {pa : PAx} {pe po : PEx}
/-- what a call's promise wants -/
theorem spP_of {K : PySem.W.Frag} {H : Hp} {vs : List V} {ds : List D} {Φ : D → Prop} {Q : VK} (wok : WOk K J H0 E Ξ) (w : Wr J H0 H) (i : IsL K J H vs ds) (h : pf ds Φ Ξ) (hq : ∀ v d H', Wr J H H' → Is K J H' v d → Φ d → Q v H') : spP K pf (vs ++ []) H Q E := by
  rw [List.append_nil]
  exact ⟨J, ds, Φ, Ξ, w.jr, i, h, hq, wok.mono w⟩
def pCall (pf : PF) (Ξ : Str → D → Prop) (pa : PAx) : PEx := fun ρ Φ => pa ρ fun ds => pf ds Φ Ξ
theorem q_callX (F : FnP X.prog X.w X.K X.mg X.base k f fd ps pf) (hr : Room k X.A) (hg : Gl X x) (hm : X.mg x = some (.ref f)) (hk : PySem.W.keepIn X.K (.ref f) = true) (hb : Binds X.K fd ps []) (hx : Passes (L2.CX X.prog X.w) X E) (wok : WOk X.K J H0 E Ξ)
    (ha : QA X J H0 (e :: es) pa) (hdb : (x == ("__debug__" : Str)) = false := by decide) (he : starEach (e :: es) X.env = (false, eval e X.env) :: starEach es X.env := by rfl) (hpl : (backTo pos (starEach es X.env)).any (·.1) = false := by rfl) :
    QE X J H0 (.Call (.Name x p) (e :: es) [] pos) (pCall pf Ξ pa) := by
  obtain ⟨ta, h1, s1⟩ := ha
  exact ⟨_, pe_call F hr hg hm hk hb .nil hx h1 hdb he hpl, fun ρ Φ h σ H w e Q k => s1 ρ _ h σ H w e _ fun vs ds H1 w1 i1 q1 => spP_of wok (w.trans w1) i1 q1 fun v d H2 w2 i2 q2 => k v d H2 (w1.trans w2) i2 q2⟩
theorem q_call (F : FnP X.prog X.w X.K X.mg X.base k f fd ps pf) (hr : Room k X.A) (hg : Gl X x) (hm : X.mg x = some (.ref f)) (hk : PySem.W.keepIn X.K (.ref f) = true) (hb : Binds X.K fd ps [])
    (ha : QA X J H0 (e :: es) pa) (hdb : (x == ("__debug__" : Str)) = false := by decide) (he : starEach (e :: es) X.env = (false, eval e X.env) :: starEach es X.env := by rfl) (hpl : (backTo pos (starEach es X.env)).any (·.1) = false := by rfl) :
    QE X J H0 (.Call (.Name x p) (e :: es) [] pos) (pCall pf noX pa) := q_callX F hr hg hm hk hb pass00 wok0 ha hdb he hpl
theorem q_callGX (F : FnGP X.prog X.w X.K X.mg X.base k f fd ps pf) (hr : Room k X.A) (hgd : X.A.guards = some []) (hg : Gl X x) (hm : X.mg x = some (.ref f)) (hk : PySem.W.keepIn X.K (.ref f) = true) (hb : Binds X.K fd ps []) (hx : Passes (L2.CX X.prog X.w) X E) (wok : WOk X.K J H0 E Ξ)
    (ha : QA X J H0 (e :: es) pa) (hdb : (x == ("__debug__" : Str)) = false := by decide) (he : starEach (e :: es) X.env = (false, eval e X.env) :: starEach es X.env := by rfl) (hpl : (backTo pos (starEach es X.env)).any (·.1) = false := by rfl) :
    QE X J H0 (.Call (.Name x p) (e :: es) [] pos) (pCall pf Ξ pa) := by
  obtain ⟨ta, h1, s1⟩ := ha
  refine ⟨_, pe_callG F hr hgd hg hm hk hb hx h1 hdb he hpl, fun ρ Φ h σ H w e Q k => s1 ρ _ h σ H w e _ fun vs ds H1 w1 i1 q1 => ?_⟩
  have := spP_of (E := E) (Q := Q) wok (w.trans w1) i1 q1 fun v d H2 w2 i2 q2 => k v d H2 (w1.trans w2) i2 q2
  rw [List.append_nil] at this
  exact this
theorem q_callG (F : FnGP X.prog X.w X.K X.mg X.base k f fd ps pf) (hr : Room k X.A) (hgd : X.A.guards = some []) (hg : Gl X x) (hm : X.mg x = some (.ref f)) (hk : PySem.W.keepIn X.K (.ref f) = true) (hb : Binds X.K fd ps [])
    (ha : QA X J H0 (e :: es) pa) (hdb : (x == ("__debug__" : Str)) = false := by decide) (he : starEach (e :: es) X.env = (false, eval e X.env) :: starEach es X.env := by rfl) (hpl : (backTo pos (starEach es X.env)).any (·.1) = false := by rfl) :
    QE X J H0 (.Call (.Name x p) (e :: es) [] pos) (pCall pf noX pa) := q_callGX F hr hgd hg hm hk hb pass00 wok0 ha hdb he hpl

/-- o.m(e, ..) of an instance -/
def pMeth (c m : Str) (pf : PF) (Ξ : Str → D → Prop) (po : PEx) (pa : PAx) : PEx := fun ρ Φ => po ρ fun d => ∃ gs, d = .ins c gs ∧ gs.lookup m = none ∧ pa ρ fun ds => pf (d :: ds) Φ Ξ
theorem se_meth {K : PySem.W.Frag} {to : TE} {ta : TA} (wok : WOk K J H0 E Ξ) (so : SE K J H0 to po) (sa : SA K J H0 ta pa) : SE K J H0 (tMeth (He.ga K c) m (spP K pf) [] E to ta) (pMeth c m pf Ξ po pa) := fun ρ Φ h σ H w e Q k =>
  so ρ _ h σ H w e _ fun v d H1 w1 i1 q1 => by
    obtain ⟨gs, rfl, hl, q⟩ := q1
    cases id i1 with
    | ins ha hn hf =>
    refine ⟨_, _, _, rfl, ha, hf.none hl, sa ρ _ q σ H1 (w.trans w1) (e.mono w1) _ fun vs ds H2 w2 i2 q2 => ?_⟩
    exact spP_of wok (w.trans (w1.trans w2)) (.cons (i1.mono w2) i2) q2 fun v d H3 w3 i3 q3 => k v d H3 (w1.trans (w2.trans w3)) i3 q3
theorem q_methX {pl : Sem Bool} (c0 : Cls X.K (He.ga X.K c)) (hm : Meth X.K (He.ga X.K c) m f) (F : FnP X.prog X.w X.K X.mg X.base k f fd ps pf) (hr : Room k X.A) (hb : Binds X.K fd ps []) (hx : Passes (L2.CX X.prog X.w) X E) (wok : WOk X.K J H0 E Ξ)
    (he : QE X J H0 o po) (ha : QA X J H0 (e :: es) pa)
    (hst : starEach (e :: es) X.env = (false, eval e X.env) :: starEach es X.env := by rfl) (hpl : (backTo pos (starEach es X.env)).any (·.1) = false := by rfl)
    (ht : eval (.Call (.Attribute o m apos) (e :: es) [] pos) X.env = (do
      let ov ← eval o X.env
      standAt apos.atName
      let (f, first) ← holding [ov] (getMethod ov m pl)
      callWith pos f first (backTo pos (starEach (e :: es) X.env)) (backToKw pos (keywordEach [] X.env))) := by rfl) :
    QE X J H0 (.Call (.Attribute o m apos) (e :: es) [] pos) (pMeth c m pf Ξ po pa) := by
  obtain ⟨to, h1, s1⟩ := he
  obtain ⟨ta, h2, s2⟩ := ha
  exact ⟨_, pe_meth h1 c0 hm F hr hb .nil hx h2 hst hpl ht, se_meth wok s1 s2⟩
theorem q_meth0X {pl : Sem Bool} (c0 : Cls X.K (He.ga X.K c)) (hm : Meth X.K (He.ga X.K c) m f) (F : FnP X.prog X.w X.K X.mg X.base k f fd ps pf) (hr : Room k X.A) (hb : Binds X.K fd ps []) (hx : Passes (L2.CX X.prog X.w) X E) (wok : WOk X.K J H0 E Ξ)
    (he : QE X J H0 o po)
    (ht : eval (.Call (.Attribute o m apos) [] [] pos) X.env = (do
      let ov ← eval o X.env
      standAt apos.atName
      let (f, first) ← holding [ov] (getMethod ov m pl)
      callWith pos f first (backTo pos (starEach [] X.env)) (backToKw pos (keywordEach [] X.env))) := by rfl) :
    QE X J H0 (.Call (.Attribute o m apos) [] [] pos) (pMeth c m pf Ξ po pNil) := by
  obtain ⟨to, h1, s1⟩ := he
  exact ⟨_, pe_meth0 h1 c0 hm F hr hb .nil hx ht, se_meth wok s1 fun ρ Φ h σ H w e Q k => k [] [] H w.refl .nil h⟩
/-- o.f, a property -/
theorem q_prop {q : Addr} (c0 : Cls X.K (He.ga X.K c)) (hp : PropOf X.K (He.ga X.K c) m q f) (F : FnP X.prog X.w X.K X.mg X.base k f fd ps pf) (hr : Room (k + 1) X.A) (hb : Binds X.K fd ps [])
    (he : QE X J H0 o po) (hab : attributeBase o m X.env (eval o X.env) = eval o X.env := by rfl) : QE X J H0 (.Attribute o m pos) (fun ρ Φ => po ρ fun d => ∃ gs, d = .ins c gs ∧ pf [d] Φ noX) := by
  obtain ⟨to, h1, s1⟩ := he
  refine ⟨_, pe_prop (E := E0) h1 c0 hp F hr hb .nil passL hab, fun ρ Φ h σ H w e Q k => s1 ρ _ h σ H w e _ fun v d H1 w1 i1 q1 => ?_⟩
  obtain ⟨gs, rfl, q⟩ := q1
  cases id i1 with
  | ins ha hn hf =>
  exact ⟨_, _, _, rfl, ha, spP_of (vs := [_]) wok0 (w.trans w1) (.cons i1 .nil) q fun v d H2 w2 i2 q2 => k v d H2 (w1.trans w2) i2 q2⟩
/-- o.f, an attribute -/
def pFld (c f : Str) (po : PEx) : PEx := fun ρ Φ => po ρ fun d => ∃ gs x, d = .ins c gs ∧ gs.lookup f = some x ∧ Φ x
theorem q_fld (c0 : Cls X.K (He.ga X.K c)) (hn : NoAttr X.K (He.ga X.K c) m) (he : QE X J H0 o po) (hab : attributeBase o m X.env (eval o X.env) = eval o X.env := by rfl) : QE X J H0 (.Attribute o m pos) (pFld c m po) := by
  obtain ⟨to, h1, s1⟩ := he
  refine ⟨_, pe_fld h1 hab, fun ρ Φ h σ H w e Q k => s1 ρ _ h σ H w e _ fun v d H1 w1 i1 q1 => ?_⟩
  obtain ⟨gs, x, rfl, hl, q⟩ := q1
  cases id i1 with
  | ins ha hn' hf =>
  obtain ⟨u, h2, h3⟩ := hf.lookup hl
  exact ⟨_, _, _, _, u, rfl, ha, c0, hn, h2, k u x H1 w1 h3 q⟩

/-! ### built-in functions -/
/-- r, told of data -/
def RC (K : PySem.W.Frag) (r : List V → Hp → VK → Prop) (q : List D → (D → Prop) → Prop) : Prop := ∀ (J : Option Addr) (H0 H : Hp) (vs : List V) (ds : List D) (Φ : D → Prop), Wr J H0 H → IsL K J H vs ds → q ds Φ → ∀ Q : VK, (∀ v d H', Wr J H H' → Is K J H' v d → Φ d → Q v H') → r vs H Q
def pB (q : List D → (D → Prop) → Prop) (pa : PAx) : PEx := fun ρ Φ => pa ρ fun ds => q ds Φ
theorem se_B {K : PySem.W.Frag} {r : List V → Hp → VK → Prop} {q : List D → (D → Prop) → Prop} {ta : TA} (hr : RC K r q) (sa : SA K J H0 ta pa) : SE K J H0 (tCB r ta) (pB q pa) := fun ρ Φ h σ H w e Q k =>
  sa ρ _ h σ H w e _ fun vs ds H1 w1 i1 q1 => hr J H0 H1 vs ds Φ (w.trans w1) i1 q1 Q fun v d H2 w2 i2 q2 => k v d H2 (w1.trans w2) i2 q2
section
variable {id T : String} {r : List V → Hp → VK → Prop} {q : List D → (D → Prop) → Prop}
theorem q_B (hc : CallR X (.builtin id) r) (hr : RC X.K r q) (hm : X.mg x = none) (hg : Gl X x) (hv : bootBuiltins x = some (.builtin id)) (ha : QA X J H0 (e :: es) pa) (hn : x ≠ "__name__" := by decide) (hdb : (x == ("__debug__" : Str)) = false := by decide)
    (he : starEach (e :: es) X.env = (false, eval e X.env) :: starEach es X.env := by rfl) (hpl : (backTo pos (starEach es X.env)).any (·.1) = false := by rfl) : QE X J H0 (.Call (.Name x p) (e :: es) [] pos) (pB q pa) := by
  obtain ⟨ta, h1, s1⟩ := ha
  exact ⟨_, pe_callB hc hg hm hv h1 hn hdb he hpl, se_B hr s1⟩
theorem q_BT (hc : CallR X (.type T) r) (hr : RC X.K r q) (hm : X.mg x = none) (hg : Gl X x) (hv : bootBuiltins x = some (.type T)) (ha : QA X J H0 (e :: es) pa) (hn : x ≠ "__name__" := by decide) (hdb : (x == ("__debug__" : Str)) = false := by decide)
    (he : starEach (e :: es) X.env = (false, eval e X.env) :: starEach es X.env := by rfl) (hpl : (backTo pos (starEach es X.env)).any (·.1) = false := by rfl) : QE X J H0 (.Call (.Name x p) (e :: es) [] pos) (pB q pa) := by
  obtain ⟨ta, h1, s1⟩ := ha
  exact ⟨_, pe_callTy hc hg hm hv h1 hn hdb he hpl, se_B hr s1⟩
theorem q_BF (hc : CallR X (.builtin id) r) (hr : RC X.K r q) (hm : X.mg x = some (.builtin id)) (hg : Gl X x) (ha : QA X J H0 (e :: es) pa) (hdb : (x == ("__debug__" : Str)) = false := by decide)
    (he : starEach (e :: es) X.env = (false, eval e X.env) :: starEach es X.env := by rfl) (hpl : (backTo pos (starEach es X.env)).any (·.1) = false := by rfl) : QE X J H0 (.Call (.Name x p) (e :: es) [] pos) (pB q pa) := by
  obtain ⟨ta, h1, s1⟩ := ha
  exact ⟨_, pe_callBfun hc hg hm h1 hdb he hpl, se_B hr s1⟩
end
section
variable {K : PySem.W.Frag}
theorem rc_abs : RC K (fun xs H Q => ∃ i, xs = [.int i] ∧ Q (.int (if i < 0 then -i else i)) H) (fun ds Φ => ∃ i, ds = [.int i] ∧ Φ (.int (i.natAbs))) := by
  intro J H0 H vs ds Φ w hi h Q k
  obtain ⟨i, rfl, q⟩ := h
  obtain ⟨v, rfl, a⟩ := hi.inv1
  cases a
  have e : (if i < 0 then -i else i) = (i.natAbs : Int) := by split <;> omega
  exact ⟨i, rfl, by rw [e]; exact k _ _ H w.refl (.int _) q⟩
theorem rc_int1 : RC K (fun xs H Q => (∃ i, xs = [.int i] ∧ Q (.int i) H) ∨ ∃ k, xs = [.bl k] ∧ Q (.int (if k then 1 else 0)) H) (fun ds Φ => ∃ i, ds = [.int i] ∧ Φ (.int i)) := by
  intro J H0 H vs ds Φ w hi h Q k
  obtain ⟨i, rfl, q⟩ := h
  obtain ⟨v, rfl, a⟩ := hi.inv1
  cases a
  exact .inl ⟨i, rfl, k _ _ H w.refl (.int _) q⟩
theorem rc_bool1 : RC K (fun xs H Q => (∃ i, xs = [.int i] ∧ Q (.bl (i != 0)) H) ∨ ∃ k, xs = [.bl k] ∧ Q (.bl k) H) (fun ds Φ => ∃ i, ds = [.bl i] ∧ Φ (.bl i)) := by
  intro J H0 H vs ds Φ w hi h Q k
  obtain ⟨i, rfl, q⟩ := h
  obtain ⟨v, rfl, a⟩ := hi.inv1
  cases a
  exact .inr ⟨i, rfl, k _ _ H w.refl (.bl _) q⟩
theorem rc_str : RC K (fun xs H Q => ∃ i, xs = [.int i] ∧ i.natAbs.log2 < 1920 ∧ Q (.str (toString i)) H) (fun ds Φ => ∃ i : Int, ds = [.int i] ∧ i.natAbs.log2 < 1920 ∧ Φ (.str (toString i : String))) := by
  intro J H0 H vs ds Φ w hi h Q k
  obtain ⟨i, rfl, hz, q⟩ := h
  obtain ⟨v, rfl, a⟩ := hi.inv1
  cases a
  exact ⟨i, rfl, hz, k _ _ H w.refl (.str _) q⟩
theorem rc_lenS : RC K (fun xs H Q => ∃ z, xs = [.str z] ∧ z.length ≤ sizeLine ∧ Q (.int z.length) H) (fun ds Φ => ∃ z, ds = [.str z] ∧ z.length ≤ 100000 ∧ Φ (.int z.length)) := by
  intro J H0 H vs ds Φ w hi h Q k
  obtain ⟨i, rfl, hz, q⟩ := h
  obtain ⟨v, rfl, a⟩ := hi.inv1
  cases a
  exact ⟨i, rfl, Nat.le_trans hz (by decide), k _ _ H w.refl (.int _) q⟩
theorem IsL.ofScr {J : Option Addr} {H : Hp} {v : V} {ns : List Int} (h : Is K J H v (.scr ns)) : ∃ a, v = .ref a ∧ SqL K H a (ns.map V.int) ∧ J ≠ some a := by
  cases h with
  | scr h n => exact ⟨_, rfl, h, n⟩
theorem rc_len : RC K (fun xs H Q => ∃ p ys, xs = [.ref p] ∧ (SqL K H p ys ∨ SqT K H p ys) ∧ Q (.int ys.length) H) (fun ds Φ => (∃ l, (ds = [.lst l] ∨ ds = [.tup l]) ∧ Φ (.int l.length)) ∨ ∃ ns, ds = [.scr ns] ∧ Φ (.int ns.length)) := by
  intro J H0 H vs ds Φ w hi h Q k
  rcases h with ⟨l, rfl | rfl, q⟩ | ⟨ns, rfl, q⟩
  · obtain ⟨v, rfl, a⟩ := hi.inv1
    cases a with
    | lst h n t => exact ⟨_, _, rfl, .inl (SqL.of h), by rw [t.len]; exact k _ _ H w.refl (.int _) q⟩
  · obtain ⟨v, rfl, a⟩ := hi.inv1
    cases a with
    | tup h n t => exact ⟨_, _, rfl, .inr h, by rw [t.len]; exact k _ _ H w.refl (.int _) q⟩
  · obtain ⟨v, rfl, a⟩ := hi.inv1
    obtain ⟨b, rfl, h, n⟩ := IsL.ofScr a
    exact ⟨_, _, rfl, .inl h, by rw [List.length_map]; exact k _ _ H w.refl (.int _) q⟩
theorem rc_gcd : RC K rGcd (fun ds Φ => ∃ i j : Int, ds = [.int i, .int j] ∧ Φ (.int ((Nat.gcd i.natAbs j.natAbs : Nat) : Int))) := by
  intro J H0 H vs ds Φ w hi h Q k
  obtain ⟨i, j, rfl, q⟩ := h
  obtain ⟨v, u, rfl, a, b⟩ := hi.inv2
  cases a; cases b
  exact ⟨i, j, rfl, k _ _ H w.refl (.int _) q⟩
theorem rc_divmod : RC K (fun xs H Q => ∃ i j, xs = [.int i, .int j] ∧ CDivP i j ∧ ∀ p, H p = none → Q (.ref p) (upd H p (.tup [.int (i / j), .int (i % j)]))) (fun ds Φ => ∃ i j : Int, ds = [.int i, .int j] ∧ CDivP i j ∧ Φ (.tup [.int (i / j), .int (i % j)])) := by
  intro J H0 H vs ds Φ w hi h Q k
  obtain ⟨i, j, rfl, hc, q⟩ := h
  obtain ⟨v, u, rfl, a, b⟩ := hi.inv2
  cases a; cases b
  refine ⟨i, j, rfl, hc, fun p hp => k _ _ _ (w.new hp) ?_ q⟩
  exact .tup (SqT.of upd_same) (w.nj hp) (.cons (.int _) (.cons (.int _) .nil))
theorem IsL.bls {J : Option Addr} {H : Hp} : ∀ {vs : List V} {bs : List Bool}, IsL K J H vs (bs.map D.bl) → vs = bs.map V.bl
  | _, [], .nil => rfl
  | _, b :: bs, .cons h t => by
    cases h
    rw [IsL.bls t]
    rfl
theorem rc_all : RC K (rAll K) (fun ds Φ => ∃ bs : List Bool, ds = [.lst (bs.map .bl)] ∧ Φ (.bl (bs.all id))) := by
  intro J H0 H vs ds Φ w hi h Q k
  obtain ⟨bs, rfl, q⟩ := h
  obtain ⟨v, rfl, a⟩ := hi.inv1
  cases a with
  | lst h n t =>
  refine ⟨_, bs, rfl, ?_, k _ _ H w.refl (.bl _) q⟩
  rw [← IsL.bls t]
  exact SqL.of h
theorem rc_2 {g : Int → Int → Int} : RC K (fun xs H Q => ∃ i j, xs = [.int i, .int j] ∧ Q (.int (g i j)) H) (fun ds Φ => ∃ i j : Int, ds = [.int i, .int j] ∧ Φ (.int (g i j))) := by
  intro J H0 H vs ds Φ w hi h Q k
  obtain ⟨i, j, rfl, q⟩ := h
  obtain ⟨v, u, rfl, a, b⟩ := hi.inv2
  cases a; cases b
  exact ⟨i, j, rfl, k _ _ H w.refl (.int _) q⟩
theorem rc_repr : RC K (rRepr K) (fun ds Φ => ∃ d p, ds = [d] ∧ toP d = some p ∧ Shw p ∧ Φ (.str p.shown)) := by
  intro J H0 H vs ds Φ w hi h Q k
  obtain ⟨d, p, rfl, h1, h2, q⟩ := h
  obtain ⟨v, rfl, a⟩ := hi.inv1
  exact ⟨v, p, rfl, a.dp h1, h2, k _ _ H w.refl (.str _) q⟩
theorem rc_intS : RC K (fun xs H Q => ∃ a n, xs = [.str a] ∧ PySem.intText? a = some n ∧ a.length ≤ 640 ∧ Q (.int n) H) (fun ds Φ => ∃ a n, ds = [.str a] ∧ PySem.intText? a = some n ∧ a.length ≤ 640 ∧ Φ (.int n)) := by
  intro J H0 H vs ds Φ w hi h Q k
  obtain ⟨i, n, rfl, h1, h2, q⟩ := h
  obtain ⟨v, rfl, a⟩ := hi.inv1
  cases a
  exact ⟨i, n, rfl, h1, h2, k _ _ H w.refl (.int _) q⟩
end
end
end PL
set_option Elab.async false
set_option linter.all false
set_option maxRecDepth 100000
set_option maxHeartbeats 4000000
namespace PL
open PySem PySem.Spec PyProof.Rows L2 GX HX
section
variable {X : Cx} {J : Option Addr} {H0 : Hp} {a b e o : Expr} {pa pb pe po : PEx} {pos : Pos}

/-! ### a[i] -/
theorem isL_at {K : PySem.W.Frag} {J : Option Addr} {H : Hp} {xs : List V} {l : List D} {i : Int} {d : D} (h : IsL K J H xs l) (e : atI l i = some d) : ∃ v, atI xs i = some v ∧ Is K J H v d := by
  unfold atI at e ⊢
  rw [h.len]
  cases q : ixN l.length i with
  | none => rw [q] at e; cases e
  | some j =>
    rw [q] at e
    obtain ⟨v, h1, h2⟩ := h.get e
    exact ⟨v, h1, h2⟩
def dIxL : D → D → (D → Prop) → Prop := fun c d Φ => ∃ l i x, c = .lst l ∧ d = .int i ∧ atI l i = some x ∧ Φ x
def dIxT : D → D → (D → Prop) → Prop := fun c d Φ => ∃ l i x, c = .tup l ∧ d = .int i ∧ atI l i = some x ∧ Φ x
def dIxS : D → D → (D → Prop) → Prop := fun c d Φ => ∃ z i ch, c = .str z ∧ d = .int i ∧ z.length ≤ 100000 ∧ atI z.cps.toList i = some ch ∧ Φ (.str ⟨#[ch]⟩)
def dIxC : D → D → (D → Prop) → Prop := fun c d Φ => ∃ ns i x, c = .scr ns ∧ d = .int i ∧ atI ns i = some x ∧ Φ (.int x)
theorem rd_ixL {K : PySem.W.Frag} : RD K (rIxL K) dIxL := by
  intro J H0 H x y c d Φ w hx hy h Q k
  obtain ⟨l, i, z, rfl, rfl, he, q⟩ := h
  cases hx with
  | lst h n t =>
  cases hy
  obtain ⟨v, h1, h2⟩ := isL_at t he
  exact ⟨_, _, i, v, rfl, rfl, SqL.of h, h1, k _ _ H w.refl h2 q⟩
theorem rd_ixT {K : PySem.W.Frag} : RD K (rIxT K) dIxT := by
  intro J H0 H x y c d Φ w hx hy h Q k
  obtain ⟨l, i, z, rfl, rfl, he, q⟩ := h
  cases hx with
  | tup h n t =>
  cases hy
  obtain ⟨v, h1, h2⟩ := isL_at t he
  exact ⟨_, _, i, v, rfl, rfl, h, h1, k _ _ H w.refl h2 q⟩
theorem rd_ixS {K : PySem.W.Frag} : RD K rIxS dIxS := by
  intro J H0 H x y c d Φ w hx hy h Q k
  obtain ⟨z, i, ch, rfl, rfl, hz, he, q⟩ := h
  cases hx; cases hy
  exact ⟨z, i, ch, rfl, rfl, Nat.le_trans hz (by decide), he, k _ _ H w.refl (.str _) q⟩
theorem rd_ixC {K : PySem.W.Frag} : RD K (rIxL K) dIxC := by
  intro J H0 H x y c d Φ w hx hy h Q k
  obtain ⟨ns, i, z, rfl, rfl, he, q⟩ := h
  obtain ⟨ad, rfl, hs, n⟩ := IsL.ofScr hx
  cases hy
  refine ⟨_, _, i, .int z, rfl, rfl, hs, ?_, k _ _ H w.refl (.int _) q⟩
  unfold atI at he ⊢
  rw [List.length_map]
  cases q : ixN ns.length i with
  | none => rw [q] at he; cases he
  | some j =>
    rw [q] at he
    show (ns.map V.int)[j]? = some (.int z)
    rw [List.getElem?_map]
    have he : ns[j]? = some z := he
    rw [he]
    rfl
theorem q_ix {r : R2} {q : D → D → (D → Prop) → Prop} (hx : IxR X r) (hr : RD X.K r q) (ha : QE X J H0 a pa) (hb : QE X J H0 b pb) (hs : PlainIx b) : QE X J H0 (.Subscript a b pos) (pOp q pa pb) := by
  obtain ⟨ta, h1, s1⟩ := ha
  obtain ⟨tb, h2, s2⟩ := hb
  exact ⟨_, pe_ix hx h1 h2 hs, se_op hr s1 s2⟩
theorem q_ixL (ha : QE X J H0 a pa) (hb : QE X J H0 b pb) (hs : PlainIx b) : QE X J H0 (.Subscript a b pos) (pOp dIxL pa pb) := q_ix ix_list rd_ixL ha hb hs
theorem q_ixT (ha : QE X J H0 a pa) (hb : QE X J H0 b pb) (hs : PlainIx b) : QE X J H0 (.Subscript a b pos) (pOp dIxT pa pb) := q_ix ix_tup rd_ixT ha hb hs
theorem q_ixS (ha : QE X J H0 a pa) (hb : QE X J H0 b pb) (hs : PlainIx b) : QE X J H0 (.Subscript a b pos) (pOp dIxS pa pb) := q_ix ix_str rd_ixS ha hb hs
theorem q_ixC (ha : QE X J H0 a pa) (hb : QE X J H0 b pb) (hs : PlainIx b) : QE X J H0 (.Subscript a b pos) (pOp dIxC pa pb) := q_ix ix_list rd_ixC ha hb hs

/-! ### slices -/
def pNoPart : POx := fun _ Φ => Φ none
def pPart (pe : PEx) : POx := fun ρ Φ => pe ρ fun d => ∃ i, d = .int i ∧ Φ (some i)
theorem qo_none : QO X J H0 none pNoPart := ⟨_, po_none, fun ρ Φ h σ H w e Q k => k none H w.refl h⟩
theorem qo_some (h : QE X J H0 e pe) : QO X J H0 (some e) (pPart pe) := by
  obtain ⟨te, h1, s1⟩ := h
  refine ⟨_, po_some h1, fun ρ Φ h σ H w e Q k => s1 ρ _ h σ H w e _ fun v d H1 w1 i1 q1 => ?_⟩
  obtain ⟨i, rfl, q⟩ := q1
  cases i1
  exact ⟨i, rfl, k _ H1 w1 q⟩
def pSl (q : D → Option Int → Option Int → (D → Prop) → Prop) (pe : PEx) (pl ph : POx) : PEx := fun ρ Φ => pe ρ fun c => pl ρ fun lo => ph ρ fun hi => q c lo hi Φ
theorem q_sl {lo hi : Option Expr} {pl ph : POx} {p2 : Pos} {r : V → Option Int → Option Int → Hp → VK → Prop} {q : D → Option Int → Option Int → (D → Prop) → Prop} (hr : SlR X r)
    (hd : ∀ (J : Option Addr) (H0 H : Hp) (x : V) (c : D) (lo hi : Option Int) (Φ : D → Prop), Wr J H0 H → Is X.K J H x c → q c lo hi Φ → ∀ Q : VK, (∀ v d H', Wr J H H' → Is X.K J H' v d → Φ d → Q v H') → r x lo hi H Q)
    (he : QE X J H0 e pe) (hl : QO X J H0 lo pl) (hu : QO X J H0 hi ph) : QE X J H0 (.Subscript e (.Slice lo hi none p2) pos) (pSl q pe pl ph) := by
  obtain ⟨te, h1, s1⟩ := he
  obtain ⟨tl, h2, s2⟩ := hl
  obtain ⟨th, h3, s3⟩ := hu
  refine ⟨_, pe_slice hr h1 h2 h3, fun ρ Φ h σ H w e Q k => s1 ρ _ h σ H w e _ fun v d H1 w1 i1 q1 => s2 ρ _ q1 σ H1 (w.trans w1) (e.mono w1) _ fun l H2 w2 q2 => s3 ρ _ q2 σ H2 (w.trans (w1.trans w2)) ((e.mono w1).mono w2) _ fun u H3 w3 q3 => ?_⟩
  exact hd J H0 H3 v d l u Φ (w.trans (w1.trans (w2.trans w3))) ((i1.mono w2).mono w3) q3 Q fun z b H4 w4 i4 q4 => k z b H4 (w1.trans (w2.trans (w3.trans w4))) i4 q4
def dSlS : D → Option Int → Option Int → (D → Prop) → Prop := fun c lo hi Φ => ∃ z, c = .str z ∧ z.length ≤ 100000 ∧ Φ (.str (cutS z lo hi))
theorem q_slS {lo hi : Option Expr} {pl ph : POx} {p2 : Pos} (he : QE X J H0 e pe) (hl : QO X J H0 lo pl) (hu : QO X J H0 hi ph) : QE X J H0 (.Subscript e (.Slice lo hi none p2) pos) (pSl dSlS pe pl ph) := by
  refine q_sl sl_str (fun J H0 H x c lo hi Φ w hx h Q k => ?_) he hl hu
  obtain ⟨z, rfl, hz, q⟩ := h
  cases hx
  exact ⟨z, rfl, Nat.le_trans hz (by decide), k _ _ H w.refl (.str _) q⟩
/-- script[lo:hi] -/
def cutI (ns : List Int) (lo hi : Option Int) : List Int := (ns.drop (HT.sIx ns.length 0 lo)).take (HT.sIx ns.length ns.length hi - HT.sIx ns.length 0 lo)
def dSlC : D → Option Int → Option Int → (D → Prop) → Prop := fun c lo hi Φ => ∃ ns, c = .scr ns ∧ Φ (.lst ((cutI ns lo hi).map .int))
theorem q_slC {lo hi : Option Expr} {pl ph : POx} {p2 : Pos} (he : QE X J H0 e pe) (hl : QO X J H0 lo pl) (hu : QO X J H0 hi ph) : QE X J H0 (.Subscript e (.Slice lo hi none p2) pos) (pSl dSlC pe pl ph) := by
  refine q_sl sl_list (fun J H0 H x c lo hi Φ w hx h Q k => ?_) he hl hu
  obtain ⟨ns, rfl, q⟩ := h
  obtain ⟨ad, rfl, hs, n⟩ := IsL.ofScr hx
  refine ⟨_, _, rfl, hs, fun p hp => k _ _ _ (w.new hp) ?_ q⟩
  have e : cutV (ns.map V.int) lo hi = (cutI ns lo hi).map V.int := by
    unfold cutV cutI
    rw [List.length_map, List.map_take, List.map_drop]
  refine .lst upd_same (w.nj hp) ?_
  rw [e]
  exact IsL.ints _

/-! ### methods of texts -/
theorem q_m0 {id : String} {name : Str} {apos pos : Pos} {g : Str → Bool} (slot : Slot "str" name id) (ty : typeOf (.builtin id) = pure (.type "method_descriptor")) (rule : MtR X id (fun x xs H Q => ∃ a, x = .str a ∧ xs = [] ∧ True ∧ Q (.bl (g a)) H)) (ho : QE X J H0 o po)
    (hbase : attributeBase o name X.env (eval o X.env) = eval o X.env := by rfl) (hline : (apos.endLine == pos.line) = true := by rfl) : QE X J H0 (.Call (.Attribute o name apos) [] [] pos) (fun ρ Φ => po ρ fun d => ∃ z, d = .str z ∧ Φ (.bl (g z))) := by
  obtain ⟨to, h1, s1⟩ := ho
  refine ⟨_, pe_m0 slot ty rule h1 hbase hline, fun ρ Φ h σ H w e Q k => s1 ρ _ h σ H w e _ fun v d H1 w1 i1 q1 => ?_⟩
  obtain ⟨z, rfl, q⟩ := q1
  cases i1
  exact ⟨⟨z, rfl⟩, z, rfl, rfl, trivial, k _ _ H1 w1 (.bl _) q⟩
def dM1 (po pe : PEx) (q : Str → Str → (D → Prop) → Prop) : PEx := fun ρ Φ => po ρ fun d => ∃ z, d = .str z ∧ pe ρ fun c => ∃ y, c = .str y ∧ q z y Φ
theorem q_m1 {id : String} {name : Str} {apos pos : Pos} {r : V → List V → Hp → VK → Prop} {q : Str → Str → (D → Prop) → Prop} (slot : Slot "str" name id) (ty : typeOf (.builtin id) = pure (.type "method_descriptor")) (rule : MtR X id r)
    (hd : ∀ (J : Option Addr) (H0 H : Hp) (z y : Str) (Φ : D → Prop), Wr J H0 H → q z y Φ → ∀ Q : VK, (∀ v d H', Wr J H H' → Is X.K J H' v d → Φ d → Q v H') → r (.str z) [.str y] H Q) (ho : QE X J H0 o po) (he : QE X J H0 e pe)
    (hs : starEach [e] X.env = [(false, eval e X.env)] := by rfl) (hbase : attributeBase o name X.env (eval o X.env) = eval o X.env := by rfl) (hline : (apos.endLine == pos.line) = true := by rfl) : QE X J H0 (.Call (.Attribute o name apos) [e] [] pos) (dM1 po pe q) := by
  obtain ⟨to, h1, s1⟩ := ho
  obtain ⟨te, h2, s2⟩ := he
  refine ⟨_, pe_m1 slot ty rule h1 h2 hs hbase hline, fun ρ Φ h σ H w e Q k => s1 ρ _ h σ H w e _ fun v d H1 w1 i1 q1 => ?_⟩
  obtain ⟨z, rfl, q⟩ := q1
  cases i1
  refine ⟨⟨z, rfl⟩, s2 ρ _ q σ H1 (w.trans w1) (e.mono w1) _ fun v d H2 w2 i2 q2 => ?_⟩
  obtain ⟨y, rfl, q3⟩ := q2
  cases i2
  exact hd J H0 H2 z y Φ (w.trans (w1.trans w2)) q3 Q fun v d H3 w3 i3 q3 => k v d H3 (w1.trans (w2.trans w3)) i3 q3
theorem q_starts {apos pos : Pos} (ho : QE X J H0 o po) (he : QE X J H0 e pe) (hs : starEach [e] X.env = [(false, eval e X.env)] := by rfl) (hbase : attributeBase o "startswith" X.env (eval o X.env) = eval o X.env := by rfl) (hline : (apos.endLine == pos.line) = true := by rfl) :
    QE X J H0 (.Call (.Attribute o "startswith" apos) [e] [] pos) (dM1 po pe fun z y Φ => Φ (.bl (Txt.startswith z y))) :=
  q_m1 F.slot_str_startswith F.type_str_startswith mt_startswith (fun J H0 H z y Φ w q Q k => ⟨z, y, rfl, rfl, k _ _ H w.refl (.bl _) q⟩) ho he hs hbase hline
theorem q_partition {apos pos : Pos} (ho : QE X J H0 o po) (he : QE X J H0 e pe) (hs : starEach [e] X.env = [(false, eval e X.env)] := by rfl) (hbase : attributeBase o "partition" X.env (eval o X.env) = eval o X.env := by rfl) (hline : (apos.endLine == pos.line) = true := by rfl) :
    QE X J H0 (.Call (.Attribute o "partition" apos) [e] [] pos) (dM1 po pe fun z y Φ => (y.length == 0) = false ∧ z.length ≤ 100000 ∧ Φ (.tup [.str (Txt.partition z y).1, .str (Txt.partition z y).2.1, .str (Txt.partition z y).2.2])) := by
  refine q_m1 F.slot_str_partition F.type_str_partition mt_partition (fun J H0 H z y Φ w q Q k => ?_) ho he hs hbase hline
  refine ⟨z, y, rfl, rfl, q.1, Nat.le_trans q.2.1 (by decide), fun p hp => k _ _ _ (w.new hp) ?_ q.2.2⟩
  exact .tup (SqT.of upd_same) (w.nj hp) (.cons (.str _) (.cons (.str _) (.cons (.str _) .nil)))
theorem IsL.strs {K : PySem.W.Frag} {J : Option Addr} {H : Hp} : ∀ ys : List Str, IsL K J H (ys.map V.str) (ys.map D.str)
  | [] => .nil
  | n :: r => .cons (.str n) (IsL.strs r)
theorem q_split {apos pos : Pos} (ho : QE X J H0 o po) (he : QE X J H0 e pe) (hs : starEach [e] X.env = [(false, eval e X.env)] := by rfl) (hbase : attributeBase o "split" X.env (eval o X.env) = eval o X.env := by rfl) (hline : (apos.endLine == pos.line) = true := by rfl) :
    QE X J H0 (.Call (.Attribute o "split" apos) [e] [] pos) (dM1 po pe fun z y Φ => (y.length == 0) = false ∧ z.length ≤ 100000 ∧ Φ (.lst ((Txt.split z y).map .str))) := by
  refine q_m1 F.slot_str_split F.type_str_split mt_split (fun J H0 H z y Φ w q Q k => ?_) ho he hs hbase hline
  refine ⟨z, y, rfl, rfl, q.1, Nat.le_trans (Nat.add_le_add_right q.2.1 2) (by decide), fun p hp => k _ _ _ (w.new hp) ?_ q.2.2⟩
  exact .lst upd_same (w.nj hp) (IsL.strs _)
/-- f'{a}/{b}': numbers and texts -/
def pFmt (pe : PEx) : PEx := fun ρ Φ => pe ρ fun d => (∃ y : Str, d = .str y ∧ y.length ≤ 100000 ∧ Φ (.str y)) ∨ ∃ i : Int, d = .int i ∧ i.natAbs.log2 < 1920 ∧ Φ (.str (toString i : String))
theorem q_fmt (he : QE X J H0 e pe) : QE X J H0 (.FormattedValue e (-1) none pos) (pFmt pe) := by
  obtain ⟨te, h1, s1⟩ := he
  refine ⟨_, pe_fmt h1, fun ρ Φ h σ H w e Q k => s1 ρ _ h σ H w e _ fun v d H1 w1 i1 q1 => ?_⟩
  rcases q1 with ⟨y, rfl, hz, q⟩ | ⟨i, rfl, hz, q⟩
  · cases i1
    exact .inl ⟨y, rfl, Nat.le_trans hz (by decide), k _ _ H1 w1 (.str _) q⟩
  · cases i1
    exact .inr ⟨i, rfl, hz, k _ _ H1 w1 (.str _) q⟩
theorem len_app {x y : Str} : (x ++ y).length = x.length + y.length := by
  unfold Str.length
  rw [Str.cps_append, Array.size_append]
def pJs3 (pa pb pc : PEx) : PEx := fun ρ Φ => pa ρ fun x => ∃ y1 : Str, x = .str y1 ∧ y1.length ≤ 10000 ∧ pb ρ fun x => ∃ y2 : Str, x = .str y2 ∧ y2.length ≤ 10000 ∧ pc ρ fun x => ∃ y3 : Str, x = .str y3 ∧ y3.length ≤ 10000 ∧ Φ (.str (Str.empty ++ y1 ++ y2 ++ y3))
theorem q_joined3 {a b c : Expr} {pa pb pc : PEx} (ha : QE X J H0 a pa) (hb : QE X J H0 b pb) (hc : QE X J H0 c pc) : QE X J H0 (.JoinedStr [a, b, c] pos) (pJs3 pa pb pc) := by
  obtain ⟨ta, h1, s1⟩ := ha
  obtain ⟨tb, h2, s2⟩ := hb
  obtain ⟨tc, h3, s3⟩ := hc
  have z0 : Str.empty.length = 0 := rfl
  have big : ∀ {n : Nat}, n ≤ 30000 → n ≤ sizeLine := fun h => Nat.le_trans h (by decide)
  refine ⟨_, pe_joined (.cons h1 (.cons h2 (.cons h3 .nil))), fun ρ Φ h σ H w e Q k => s1 ρ _ h σ H w e _ fun v d H1 w1 i1 q1 => ?_⟩
  obtain ⟨y1, rfl, b1, q⟩ := q1
  cases i1
  refine ⟨y1, rfl, big (by rw [len_app, z0]; omega), s2 ρ _ q σ H1 (w.trans w1) (e.mono w1) _ fun v d H2 w2 i2 q2 => ?_⟩
  obtain ⟨y2, rfl, b2, q⟩ := q2
  cases i2
  refine ⟨y2, rfl, big (by rw [len_app, len_app, z0]; omega), s3 ρ _ q σ H2 (w.trans (w1.trans w2)) ((e.mono w1).mono w2) _ fun v d H3 w3 i3 q3 => ?_⟩
  obtain ⟨y3, rfl, b3, q⟩ := q3
  cases i3
  exact ⟨y3, rfl, big (by rw [len_app, len_app, len_app, z0]; omega), k _ _ H3 (w1.trans (w2.trans w3)) (.str _) q⟩

/-! ### targets -/
/-- (a, b, ..) = a tuple: names alone -/
def PG2 (X : Cx) (tg : Expr) (is : List Nat) : Prop := ∃ g, PG X tg (gTup X.K is.length g) ∧ ∀ (vs : List V) (σ : L2.St) (H : Hp) (Q : L2.St → Hp → Prop), vs.length = is.length → Q ((is.zip vs).foldl (fun σ p => σ.set p.1 (some p.2)) σ) H → g vs σ H Q
def NamesG (X : Cx) (es : List Expr) (is : List Nat) : Prop := ∃ g, PGs X es g ∧ ∀ (vs : List V) (σ : L2.St) (H : Hp) (Q : L2.St → Hp → Prop), vs.length = is.length → Q ((is.zip vs).foldl (fun σ p => σ.set p.1 (some p.2)) σ) H → g vs σ H Q
theorem ng_nil : NamesG X [] [] := ⟨_, pgs_nil, fun vs σ H Q hl h => ⟨List.length_eq_zero_iff.mp hl, by cases vs <;> simpa using h⟩⟩
theorem ng_cons {i : Nat} {x : Str} {p : Pos} {es : List Expr} {is : List Nat} (hN : X.N.Nodup) (hi : X.N[i]? = some x) (hx : Loc X.env.scope x) (h : NamesG X es is)
    (hs : (assignEach (.Name x p :: es) X.env).map (·.2) = assign (.Name x p) X.env :: (assignEach es X.env).map (·.2) := by rfl)
    (hf : X.fn x = true ∨ X.env.scope.names.lookup x = some .local := by first | exact .inl rfl | exact .inr rfl | assumption) : NamesG X (.Name x p :: es) (i :: is) := by
  obtain ⟨g, h1, h2⟩ := h
  refine ⟨_, pgs_cons (pg_name hN hi hx hf) h1 hs, fun vs σ H Q hl h => ?_⟩
  cases vs with
  | nil => cases hl
  | cons v vs => exact ⟨v, vs, rfl, h2 vs _ H Q (Nat.succ.inj hl) h⟩
def setAll (ρ : Rho) (is : List Nat) (ds : List D) : Rho := (is.zip ds).foldl (fun ρ p => ρ.set p.1 (some p.2)) ρ
theorem En.setAll {K : PySem.W.Frag} {J : Option Addr} {H : Hp} : ∀ {is : List Nat} {vs : List V} {ds : List D} {σ : L2.St} {ρ : Rho}, En K J H σ ρ → IsL K J H vs ds → En K J H ((is.zip vs).foldl (fun σ p => σ.set p.1 (some p.2)) σ) (setAll ρ is ds)
  | [], _, _, _, ρ, e, _ => by
    rw [show PL.setAll ρ [] _ = ρ from rfl]
    simpa using e
  | i :: is, _, _, _, ρ, e, .nil => by
    rw [show PL.setAll ρ (i :: is) [] = ρ from rfl]
    simpa using e
  | i :: is, _, _, _, _, e, .cons h t => En.setAll (is := is) (e.set h i) t
/-- a, b = x, y -/
def pPar (i j : Nat) (pa : PAx) : PSx := fun ρ N R => pa ρ fun ds => ∃ c d, ds = [c, d] ∧ N ((ρ.set i (some c)).set j (some d))
theorem qs_par {i j : Nat} {x y : Str} {a b : Expr} {pa : PAx} {px py pt : Pos} {kt k2 pt2} (hc : X.calm = true) (hN : X.N.Nodup) (hi : X.N[i]? = some x) (hj : X.N[j]? = some y) (hij : i ≠ j)
    (hx : X.env.scope.names.lookup x = some .local) (hy : X.env.scope.names.lookup y = some .local) (ha : QA X J H0 [a, b] pa)
    (hw : swappedStores [.Tuple [.Name x px, .Name y py] kt pt] (.Tuple [a, b] k2 pt2) X.env = pure (some [x, y]))
    (hs : swapsWithSole [.Tuple [.Name x px, .Name y py] kt pt] (.Tuple [a, b] k2 pt2) pos.line X.env = pure false := by rfl) : QS X J H0 (.Assign [.Tuple [.Name x px, .Name y py] kt pt] (.Tuple [a, b] k2 pt2) pos) (pPar i j pa) := by
  obtain ⟨ta, h1, s1⟩ := ha
  refine ⟨_, ps_par hc hN hi hj hij hx hy h1 hw hs, fun ρ N R h σ H w e Dn kn kr => s1 ρ _ h σ H w e _ fun vs ds H1 w1 i1 q1 => ?_⟩
  obtain ⟨c, d, rfl, q⟩ := q1
  obtain ⟨v, u, rfl, a1, a2⟩ := i1.inv2
  exact ⟨v, u, rfl, kn _ _ H1 w1 (((e.mono w1).set a1 i).set a2 j) q⟩
/-- (names) = e -/
def pUnp (is : List Nat) (pe : PEx) : PSx := fun ρ N R => pe ρ fun d => ∃ l, d = .tup l ∧ l.length = is.length ∧ N (setAll ρ is l)
theorem qs_unp {es : List Expr} {is : List Nat} {kt} {pt : Pos} (hc : X.calm = true) (hg : NamesG X es is) (he : QE X J H0 e pe)
    (hn : (assignEach es X.env).length = is.length := by rfl) (hst : (assignEach es X.env).findIdx? (·.1) = none := by rfl)
    (hs : swapsWithSole [.Tuple es kt pt] e pos.line X.env = pure false := by rfl) (hw : swappedStores [.Tuple es kt pt] e X.env = pure none := by rfl)
    (h1 : (assignEach [.Tuple es kt pt] X.env).map (·.2) = [assign (.Tuple es kt pt) X.env] := by rfl) : QS X J H0 (.Assign [.Tuple es kt pt] e pos) (pUnp is pe) := by
  obtain ⟨g, g1, g2⟩ := hg
  obtain ⟨te, a1, s1⟩ := he
  refine ⟨_, ps_asg a1 (pg_tup hc g1 hn hst) hs hw h1, fun ρ N R h σ H w e Dn kn kr => s1 ρ _ h σ H w e _ fun v d H1 w1 i1 q1 => ?_⟩
  obtain ⟨l, rfl, hl, q⟩ := q1
  cases i1 with
  | tup ht n t =>
  exact ⟨_, _, rfl, ht, by rw [t.len, hl], g2 _ _ H1 _ (by rw [t.len, hl]) (kn _ _ H1 w1 (En.setAll (e.mono w1) t) q)⟩
end
end PL
set_option Elab.async false
set_option linter.all false
set_option maxRecDepth 100000
set_option maxHeartbeats 4000000
namespace PL
open PySem PySem.Spec PyProof.Rows L2 GX HX

/-! ### a family of contexts: one reading for all -/
section
variable {ι : Type} {X : ι → Cx} {K : PySem.W.Frag} {J : Option Addr} {H0 : Hp}
theorem famE {e : Expr} {pe : PEx} (hK : ∀ i, (X i).K = K) (h : ∀ i, QE (X i) J H0 e pe) : ∃ te, (∀ i, PE (X i) e te) ∧ SE K J H0 te pe := by
  refine ⟨fun σ H Q => ∀ i pins s, Inv (X i) pins σ H s → wpAny (model (X i).prog (X i).w) (X i).A (eval e (X i).env) (EP (X i) pins σ Q) (X i).xe s, fun i => ⟨fun pins s σ H Q I h => h i pins s I⟩, fun ρ Φ hp σ H w e Q k i pins s I => ?_⟩
  obtain ⟨te, p, se⟩ := h i
  rw [hK i] at se
  exact p.run pins s σ H Q I (se ρ Φ hp σ H w e Q k)
/-- tests of a comprehension -/
def QTs (X : Cx) (J : Option Addr) (H0 : Hp) (ifs : List Expr) (pt : PTx) : Prop := ∃ tt, PTs X ifs tt ∧ ST X.K J H0 tt pt
theorem famT {ifs : List Expr} {pt : PTx} (hK : ∀ i, (X i).K = K) (h : ∀ i, QTs (X i) J H0 ifs pt) : ∃ tt, (∀ i, PTs (X i) ifs tt) ∧ ST K J H0 tt pt := by
  refine ⟨fun σ H Q => ∀ i pins s, Inv (X i) pins σ H s → wpAny (model (X i).prog (X i).w) (X i).A (forIn ifs true fun c r => if r = true then do let ok ← isTrue c (X i).env (eval c (X i).env); pure (ForInStep.yield ok) else pure (ForInStep.yield r)) (TP (X i) pins σ Q) (X i).xe s, fun i => ⟨fun pins s σ H Q I h => h i pins s I⟩, fun ρ Φ hp σ H w e Q k i pins s I => ?_⟩
  obtain ⟨te, p, se⟩ := h i
  rw [hK i] at se
  exact p.run pins s σ H Q I (se ρ Φ hp σ H w e Q k)
end
section
variable {X : Cx} {J : Option Addr} {H0 : Hp}
def ptYes : PTx := fun _ Φ => Φ true
theorem qts_nil : QTs X J H0 [] ptYes := ⟨_, pts_nil, fun ρ Φ h σ H w e Q k => k true H w.refl h⟩
theorem qts_one {c : Expr} {pt : PTx} (h : QT X J H0 c pt) : QTs X J H0 [c] pt := by
  obtain ⟨t, h1, s⟩ := h
  exact ⟨t, pts_one h1, s⟩

/-! ### what is walked -/
/-- a walk: the data one behind another, while the heap stays but for J -/
structure Wk (K : PySem.W.Frag) (J : Option Addr) (H1 : Hp) (I : It) (ds : List D) : Prop where
  go : ∀ i d H, ds[i]? = some d → Keep J H1 H → I.go i H ∧ ∀ x H', I.yld i H x H' → H' = H ∧ Is K J H1 x d
  stop : ∀ i H, ds.length ≤ i → Keep J H1 H → I.stop i H
abbrev PIx := Rho → (List D → Prop) → Prop
def SI (K : PySem.W.Frag) (J : Option Addr) (H0 : Hp) (wi : TI) (pi : PIx) : Prop := ∀ ρ Φ, pi ρ Φ → ∀ σ H, Wr J H0 H → En K J H σ ρ → ∀ Q : It → Hp → Prop, (∀ I ds H', Wr J H H' → Wk K J H' I ds → Φ ds → Q I H') → wi σ H Q
def QI (X : Cx) (J : Option Addr) (H0 : Hp) (tg e : Expr) (pi : PIx) : Prop := ∃ wi, PI X tg e wi ∧ SI X.K J H0 wi pi
section
variable {tg e : Expr} {pe : PEx} {pa : PAx}
theorem qi_list (h : QE X J H0 e pe) : QI X J H0 tg e (fun ρ Φ => pe ρ fun d => ∃ l, d = .lst l ∧ Φ l) := by
  obtain ⟨te, h1, s1⟩ := h
  refine ⟨_, pi_list h1, fun ρ Φ h σ H w e Q k => s1 ρ _ h σ H w e _ fun v d H1 w1 i1 q1 => ?_⟩
  obtain ⟨l, rfl, q⟩ := q1
  cases i1 with
  | @lst a xs _ ha n t =>
  refine ⟨a, rfl, ⟨_, SqL.of ha⟩, k _ l H1 w1 ⟨fun i d H hd kp => ?_, fun i H hi kp => ?_⟩ q⟩
  · obtain ⟨v, hv, iv⟩ := t.get hd
    have S := sqL_keep kp n (SqL.of (K := X.K) ha)
    refine ⟨⟨xs, v, S, hv⟩, fun x H' y => ⟨y.1, ?_⟩⟩
    have := y.2 xs S
    rw [hv] at this
    cases this
    exact iv
  · exact ⟨xs, sqL_keep kp n (SqL.of (K := X.K) ha), by rw [t.len]; exact hi⟩
theorem qi_range {p pos : Pos} (hm : X.mg "range" = none) (hg : Gl X "range") (h : QA X J H0 [e] pa) (hs : starEach [e] X.env = [(false, eval e X.env)] := by rfl) :
    QI X J H0 tg (.Call (.Name "range" p) [e] [] pos) (fun ρ Φ => pa ρ fun ds => ∃ n : Nat, ds = [.int n] ∧ n ≤ 1000000 ∧ Φ ((List.range n).map fun i : Nat => D.int (i : Int))) := by
  obtain ⟨ta, h1, s1⟩ := h
  refine ⟨_, pi_range1 hg hm h1 hs, fun ρ Φ h σ H w e Q k => s1 ρ _ h σ H w e _ fun vs ds H1 w1 i1 q1 => ?_⟩
  obtain ⟨n, rfl, hn, q⟩ := q1
  obtain ⟨v, rfl, a⟩ := i1.inv1
  cases a
  refine ⟨n, rfl, by omega, by omega, k _ _ H1 w1 ⟨fun i d H hd kp => ?_, fun i H hi kp => ?_⟩ q⟩
  · rw [List.getElem?_map] at hd
    obtain ⟨m, h2, rfl⟩ := Option.map_eq_some_iff.mp hd
    have hlt : i < n := by
      have := (List.getElem?_eq_some_iff.mp h2).1
      rwa [List.length_range] at this
    rw [List.getElem?_range hlt] at h2
    cases h2
    refine ⟨?_, fun x H' y => ⟨y.1, ?_⟩⟩
    · show i < Int.toNat n
      rw [Int.toNat_natCast]
      exact hlt
    · rw [y.2, Int.zero_add]
      exact .int _
  · rw [List.length_map, List.length_range] at hi
    show Int.toNat n ≤ i
    rw [Int.toNat_natCast]
    exact hi
theorem qi_str (h : QE X J H0 e pe) : QI X J H0 tg e (fun ρ Φ => pe ρ fun d => ∃ z, d = .str z ∧ Φ (z.cps.toList.map fun c => .str ⟨#[c]⟩)) := by
  obtain ⟨te, h1, s1⟩ := h
  refine ⟨_, pi_str h1, fun ρ Φ h σ H w e Q k => s1 ρ _ h σ H w e _ fun v d H1 w1 i1 q1 => ?_⟩
  obtain ⟨z, rfl, q⟩ := q1
  cases i1
  refine ⟨z, rfl, k _ _ H1 w1 ⟨fun i d H hd kp => ?_, fun i H hi kp => ?_⟩ q⟩
  · rw [List.getElem?_map] at hd
    obtain ⟨c, h2, rfl⟩ := Option.map_eq_some_iff.mp hd
    have h3 : z.cps[i]? = some c := by rw [← Array.getElem?_toList]; exact h2
    refine ⟨(Array.getElem?_eq_some_iff.mp h3).1, fun x H' y => ⟨y.1, ?_⟩⟩
    obtain ⟨c', h4, rfl⟩ := y.2
    rw [h3] at h4
    cases h4
    exact .str _
  · rw [List.length_map, Array.length_toList] at hi
    exact hi
end
theorem Wk.after {K : PySem.W.Frag} {H1 H2 : Hp} {I : It} {ds : List D} (h : Wk K J H1 I ds) (w : Wr J H1 H2) : Wk K J H2 I ds :=
  ⟨fun i d H hd kp => by
    obtain ⟨a, b⟩ := h.go i d H hd fun b o n e => kp b o n (w.st b o n e)
    exact ⟨a, fun x H' y => ⟨(b x H' y).1, (b x H' y).2.mono w⟩⟩, fun i H hi kp => h.stop i H hi fun b o n e => kp b o n (w.st b o n e)⟩

/-! ### for -/
def pFor (pi : PIx) (i : Nat) (ps : PSx) : PSx := fun ρ N R => pi ρ fun ds => ∃ P : Nat → Rho → Prop, P 0 ρ ∧ (∀ j d ρ', ds[j]? = some d → P j ρ' → ps (ρ'.set i (some d)) (P (j + 1)) R) ∧ ∀ ρ', P ds.length ρ' → N ρ'
theorem qs_for {i : Nat} {x : Str} {p pos : Pos} {iter : Expr} {body : List Stmt} {pi : PIx} {ps : PSx} (hp : PassesOwn (model X.prog X.w) X.A X.env X.xe) (hc : X.calm = true) (hi : QI X J H0 (.Name x p) iter pi) (hN : X.N.Nodup) (hx : X.N[i]? = some x) (hl : Loc X.env.scope x)
    (hb : QSs X J H0 body ps) (hf : X.fn x = true ∨ X.env.scope.names.lookup x = some .local := by first | exact .inl rfl | exact .inr rfl | assumption)
    (hs : ∀ v, foldedSetIterable iter X.env v = pure v := by intro _; rfl) : QS X J H0 (.For (.Name x p) iter body [] pos) (pFor pi i ps) := by
  obtain ⟨wi, h1, s1⟩ := hi
  obtain ⟨tb, h2, s2⟩ := hb
  refine ⟨_, ps_for hp hc h1 (pg_name hN hx hl hf) h2 hs, fun ρ N R h σ H w e Dn kn kr => s1 ρ _ h σ H w e _ fun I ds H1 w1 wk q1 => ?_⟩
  obtain ⟨P, p0, pt, pd⟩ := q1
  have w01 := w.trans w1
  refine ⟨fun j m σ' H' => m = ds.length - j ∧ j ≤ ds.length ∧ ∃ ρ', Wr J H1 H' ∧ En X.K J H' σ' ρ' ∧ P j ρ', ⟨_, rfl, Nat.zero_le _, ρ, w01.refl, e.mono w1, p0⟩, ?_⟩
  rintro j m σ' H' ⟨rfl, hj, ρ', w2, e2, pj⟩
  by_cases hlt : j < ds.length
  · obtain ⟨hgo, hy⟩ := wk.go j ds[j] H' (List.getElem?_eq_getElem hlt) w2.st
    refine .inr ⟨hgo, fun σ'' H'' => ∃ ρ'', Wr J H1 H'' ∧ En X.K J H'' σ'' ρ'' ∧ P (j + 1) ρ'', fun σ'' H'' ⟨ρ'', a, b, c⟩ => ⟨ds.length - (j + 1), by omega, rfl, hlt, ρ'', a, b, c⟩, fun v H3 y => ?_⟩
    obtain ⟨rfl, iv⟩ := hy v H3 y
    refine s2 _ _ _ (pt j ds[j] ρ' (List.getElem?_eq_getElem hlt) pj) _ H3 (w01.trans w2) (e2.set (iv.mono w2) i) _ (fun σ4 ρ4 H4 w4 e4 n4 => ⟨ρ4, w2.trans w4, e4, n4⟩) fun v d H4 w4 i4 q4 => kr v d H4 (w1.trans (w2.trans w4)) i4 q4
  · have hj' : j = ds.length := by omega
    subst hj'
    exact .inl ⟨wk.stop _ H' (Nat.le_refl _) w2.st, kn σ' ρ' H' (w1.trans w2) e2 (pd ρ' pj)⟩

/-! ### while -/
def pWhile (pt : PTx) (ps : PSx) : PSx := fun ρ N R => ∃ (P : Rho → Prop) (μ : Rho → Nat), P ρ ∧ ∀ ρ', P ρ' → pt ρ' fun b => (b = true → ps ρ' (fun ρ'' => P ρ'' ∧ μ ρ'' < μ ρ') R) ∧ (b = false → N ρ')
theorem qs_while {c : Expr} {body : List Stmt} {pt : PTx} {ps : PSx} {pos : Pos} (hp : PassesOwn (model X.prog X.w) X.A X.env X.xe) (hc : QT X J H0 c pt) (hb : QSs X J H0 body ps) : QS X J H0 (.While c body [] pos) (pWhile pt ps) := by
  obtain ⟨tc, h1, s1⟩ := hc
  obtain ⟨tb, h2, s2⟩ := hb
  refine ⟨_, ps_while hp h1 h2, fun ρ N R h σ H w e Dn kn kr => ?_⟩
  obtain ⟨P, μ, p0, pt⟩ := h
  refine ⟨fun m σ' H' => ∃ ρ', Wr J H H' ∧ En X.K J H' σ' ρ' ∧ P ρ' ∧ m = μ ρ', ⟨_, ρ, w.refl, e, p0, rfl⟩, ?_⟩
  rintro m σ' H' ⟨ρ', w1, e1, p1, rfl⟩
  refine s1 _ _ (pt ρ' p1) σ' H' (w.trans w1) e1 _ fun b H2 w2 q2 => ite_of (fun z => ?_) fun z => kn σ' ρ' H2 (w1.trans w2) (e1.mono w2) (q2.2 z)
  refine ⟨fun σ3 H3 => ∃ ρ3, Wr J H H3 ∧ En X.K J H3 σ3 ρ3 ∧ P ρ3 ∧ μ ρ3 < μ ρ', fun σ3 H3 ⟨ρ3, a, b, c, d⟩ => ⟨_, d, ρ3, a, b, c, rfl⟩, ?_⟩
  exact s2 _ _ _ (q2.1 z) σ' H2 (w.trans (w1.trans w2)) (e1.mono w2) _ (fun σ4 ρ4 H4 w4 e4 n4 => ⟨ρ4, w1.trans (w2.trans w4), e4, n4.1, n4.2⟩) fun v d H4 w4 i4 q4 => kr v d H4 (w1.trans (w2.trans w4)) i4 q4

/-! ### comprehensions -/
theorem wipe1 (σ : L2.St) (i : Nat) : wipe σ [i] = σ.set i none := rfl
theorem En.wiped {K : PySem.W.Frag} {H : Hp} {σ : L2.St} {ρ : Rho} (e : En K J H σ ρ) {v : V} {d : D} (h : Is K J H v d) (i : Nat) : En K J H ((wipe σ [i]).set i (some v)) (ρ.set i (some d)) := by
  rw [wipe1, List.set_set]
  exact e.set h i
/-- no object -/
def Sc : D → Prop
  | .non => True
  | .bl _ => True
  | .int _ => True
  | .str _ => True
  | _ => False
theorem Is.sc {K : PySem.W.Frag} {H H' : Hp} {v : V} {d : D} (h : Is K J H v d) (s : Sc d) : Is K J H' v d := by
  cases h <;> first | exact s.elim | constructor
theorem IsL.sc {K : PySem.W.Frag} {H H' : Hp} : ∀ {vs : List V} {ds : List D}, IsL K J H vs ds → (∀ d ∈ ds, Sc d) → IsL K J H' vs ds
  | _, _, .nil, _ => .nil
  | _, _, .cons h t, s => .cons (h.sc (s _ (List.mem_cons_self ..))) (IsL.sc t fun d hd => s d (List.mem_cons_of_mem _ hd))
/-- [e for x in ..]: P tells what each element is to be, which is no object -/
def pLc (pi : PIx) (i : Nat) (pe : PEx) : PEx := fun ρ Φ => pi ρ fun ds => ds.length ≤ 1000 ∧ ∃ P : Nat → D → Prop, (∀ j d, P j d → Sc d) ∧ (∀ j d, ds[j]? = some d → pe (ρ.set i (some d)) (P j)) ∧ ∀ ys : List D, ys.length = ds.length → (∀ j y, ys[j]? = some y → P j y) → Φ (.lst ys)
theorem se_lc {K : PySem.W.Frag} {wi : TI} {te : TE} {pi : PIx} {pe : PEx} {i : Nat} (s1 : SI K J H0 wi pi) (s2 : SE K J H0 te pe) : SE K J H0 (tLc wi (gName i) tYes te [i]) (pLc pi i pe) := by
  refine fun ρ Φ h σ H w e Q k => s1 ρ _ h σ H w e _ fun I ds H1 w1 wk q1 D0 hD => ?_
  obtain ⟨hz, P, psc, pt, pd⟩ := q1
  have w01 := w.trans w1
  refine ⟨fun j m H' => m = ds.length - j ∧ j ≤ ds.length ∧ Wr J H1 H' ∧ ∃ (vs : List V) (ys : List D), H' D0 = some (.lst vs) ∧ IsL K J H' vs ys ∧ ys.length = j ∧ ∀ a y, ys[a]? = some y → P a y, ⟨_, rfl, Nat.zero_le _, w01.new hD, [], [], upd_same, .nil, rfl, fun a y h => by simp at h⟩, ?_⟩
  rintro j m H' ⟨rfl, hj, w2, vs, ys, hv, iv, hl, hP⟩
  have nD : J ≠ some D0 := w01.nj hD
  by_cases hlt : j < ds.length
  · obtain ⟨hgo, hy⟩ := wk.go j ds[j] H' (List.getElem?_eq_getElem hlt) w2.st
    refine .inr ⟨hgo, fun H'' => Wr J H1 H'' ∧ ∃ (vs : List V) (ys : List D), H'' D0 = some (.lst vs) ∧ IsL K J H'' vs ys ∧ ys.length = j + 1 ∧ ∀ a y, ys[a]? = some y → P a y, fun H'' h => ⟨ds.length - (j + 1), by omega, rfl, hlt, h.1, h.2⟩, fun x H3 y => ?_⟩
    obtain ⟨rfl, ix⟩ := hy x H3 y
    refine ⟨by rw [wipe1, wipe1, List.set_set, List.set_set], ?_⟩
    simp only [tYes, ↓reduceIte]
    refine s2 _ _ (pt j ds[j] (List.getElem?_eq_getElem hlt)) _ H3 (w01.trans w2) (((e.mono w1).mono w2).wiped (ix.mono w2) i) _ fun v d H4 w4 i4 q4 => ?_
    have h4 : H4 D0 = some (.lst vs) := w4.st _ _ nD hv
    refine ⟨vs, h4, by rw [iv.len, hl]; exact small1000 (by omega), ?_, vs ++ [v], ys ++ [d], upd_same, ?_, by rw [List.length_append, hl]; rfl, fun a y ha => ?_⟩
    · refine ⟨fun b o n hb => ?_, fun q hq => ?_⟩
      · have ne : b ≠ D0 := ne_of_none hb hD
        rw [upd_ne ne]
        exact w4.st _ _ n (w2.st _ _ n hb)
      · obtain ⟨x, y, z, g⟩ := w4.jr q hq
        have ne : q ≠ D0 := fun z => nD (z ▸ hq)
        exact ⟨x, y, z, by rw [upd_ne ne]; exact g⟩
    · exact IsL.snoc (iv.sc fun d hd => by
        obtain ⟨a, ha⟩ := List.mem_iff_getElem?.mp hd
        exact psc a d (hP a d ha)) (i4.sc (psc j d q4))
    · by_cases hq : a < ys.length
      · rw [List.getElem?_append_left hq] at ha
        exact hP a y ha
      · rw [List.getElem?_append_right (by omega)] at ha
        have : a - ys.length = 0 := by
          rcases Nat.eq_zero_or_pos (a - ys.length) with z | z
          · exact z
          · rw [List.getElem?_eq_none (by simp; omega)] at ha
            cases ha
        rw [this] at ha
        cases ha
        have : a = j := by omega
        rw [this]
        exact q4
  · have hj' : j = ds.length := by omega
    subst hj'
    exact .inl ⟨wk.stop _ H' (Nat.le_refl _) w2.st, k _ _ H' (w1.trans w2) (.lst hv nD iv) (pd ys hl hP)⟩
/-- [x for x in .. if ..] -/
def pLf (pi : PIx) (i : Nat) (pt : PTx) : PEx := fun ρ Φ => pi ρ fun ds => ds.length ≤ 1000 ∧ (∀ d ∈ ds, Sc d) ∧ ∃ b : D → Bool, (∀ d ∈ ds, pt (ρ.set i (some d)) fun c => c = b d) ∧ Φ (.lst (ds.filter b))
theorem se_lf {K : PySem.W.Frag} {wi : TI} {tt : TT} {te : TE} {pi : PIx} {pt : PTx} {i : Nat} (s1 : SI K J H0 wi pi) (s2 : ST K J H0 tt pt) (s3 : SE K J H0 te (pVar i)) : SE K J H0 (tLc wi (gName i) tt te [i]) (fun ρ Φ => i < ρ.length ∧ pLf pi i pt ρ Φ) := by
  rintro ρ Φ ⟨hi, h⟩ σ H w e Q k
  refine s1 ρ _ h σ H w e _ fun I ds H1 w1 wk q1 D0 hD => ?_
  obtain ⟨hz, hsc, b, hb, pd⟩ := q1
  have w01 := w.trans w1
  have nD : J ≠ some D0 := w01.nj hD
  refine ⟨fun j m H' => m = ds.length - j ∧ j ≤ ds.length ∧ Wr J H1 H' ∧ ∃ vs : List V, H' D0 = some (.lst vs) ∧ IsL K J H' vs ((ds.take j).filter b), ⟨_, rfl, Nat.zero_le _, w01.new hD, [], upd_same, .nil⟩, ?_⟩
  rintro j m H' ⟨rfl, hj, w2, vs, hv, iv⟩
  by_cases hlt : j < ds.length
  · have hgd := List.getElem?_eq_getElem hlt
    have hmem := List.getElem_mem hlt
    obtain ⟨hgo, hy⟩ := wk.go j ds[j] H' hgd w2.st
    refine .inr ⟨hgo, fun H'' => Wr J H1 H'' ∧ ∃ vs : List V, H'' D0 = some (.lst vs) ∧ IsL K J H'' vs ((ds.take (j + 1)).filter b), fun H'' h => ⟨ds.length - (j + 1), by omega, rfl, hlt, h.1, h.2⟩, fun x H3 y => ?_⟩
    obtain ⟨rfl, ix⟩ := hy x H3 y
    refine ⟨by rw [wipe1, wipe1, List.set_set, List.set_set], ?_⟩
    have e3 := ((e.mono w1).mono w2).wiped (ix.mono w2) i
    have ft : (ds.take (j + 1)).filter b = (ds.take j).filter b ++ (if b ds[j] = true then [ds[j]] else []) := by
      rw [List.take_succ, hgd, List.filter_append]
      congr 1
      show [ds[j]].filter b = _
      rw [List.filter_cons, List.filter_nil]
    refine s2 _ _ (hb _ hmem) _ H3 (w01.trans w2) e3 _ fun c H4 w4 q4 => ite_of (fun z => ?_) fun z => ?_
    · subst q4
      refine s3 _ (fun d => d = ds[j]) ⟨ds[j], by rw [List.getElem?_set_self hi], rfl⟩ _ H4 (w01.trans (w2.trans w4)) (e3.mono w4) _ fun v d H5 w5 i5 q5 => ?_
      subst q5
      have h5 : H5 D0 = some (.lst vs) := w5.st _ _ nD (w4.st _ _ nD hv)
      have hsc2 : ∀ d ∈ (ds.take j).filter b, Sc d := fun d hd => hsc d (List.mem_of_mem_take (List.mem_filter.mp hd).1)
      refine ⟨vs, h5, ?_, ?_, vs ++ [v], upd_same, ?_⟩
      · rw [iv.len]
        refine small1000 (Nat.le_trans (List.length_filter_le _ _) ?_)
        rw [List.length_take]
        omega
      · refine ⟨fun b' o n hb' => ?_, fun q hq => ?_⟩
        · have ne : b' ≠ D0 := ne_of_none hb' hD
          rw [upd_ne ne]
          exact w5.st _ _ n (w4.st _ _ n (w2.st _ _ n hb'))
        · obtain ⟨x, y, z, g⟩ := w5.jr q hq
          have ne : q ≠ D0 := fun z => nD (z ▸ hq)
          exact ⟨x, y, z, by rw [upd_ne ne]; exact g⟩
      · rw [ft, if_pos z]
        exact IsL.snoc (iv.sc hsc2) (i5.sc (hsc _ hmem))
    · subst q4
      refine ⟨w2.trans w4, vs, w4.st _ _ nD hv, ?_⟩
      rw [ft, if_neg (by rw [z]; exact Bool.false_ne_true), List.append_nil]
      exact iv.mono w4
  · have hj' : j = ds.length := by omega
    subst hj'
    rw [List.take_length] at iv
    exact .inl ⟨wk.stop _ H' (Nat.le_refl _) w2.st, k _ _ H' (w1.trans w2) (.lst hv nD iv) pd⟩
section
variable {elt iter : Expr} {scope : Scope} {pos p : Pos} {x : Str} {i : Nat} {pi : PIx} {pe : PEx} {pt : PTx} {c : Expr}
theorem q_lc (hc : X.calm = true) (hN : X.N.Nodup) (hi : QI X J H0 (.Name x p) iter pi) (ok : BlkOk X.N X.env.scope scope [(x, i)])
    (hg : ∀ (s : Shared) (H : Hp) (C : Addr) (cl : List (Str × Addr)) (fp : List Addr), PG (X.blk s H scope (compEnvC scope cl C X.env) fp) (.Name x p) (gName i))
    (he : ∀ (s : Shared) (H : Hp) (C : Addr) (cl : List (Str × Addr)) (fp : List Addr), QE (X.blk s H scope (compEnvC scope cl C X.env) fp) J H0 elt pe) (hs : ∀ x, foldedSetIterable iter X.env x = pure x := by intro _; rfl) :
    QE X J H0 (.ListComp elt [⟨.Name x p, iter, [], 0⟩] scope pos) (pLc pi i pe) := by
  obtain ⟨wi, h1, s1⟩ := hi
  obtain ⟨te, h2, s2⟩ := famE (ι := Shared × Hp × Addr × List (Str × Addr) × List Addr) (X := fun z => X.blk z.1 z.2.1 scope (compEnvC scope z.2.2.2.1 z.2.2.1 X.env) z.2.2.2.2) (K := X.K) (fun _ => rfl) fun z => he z.1 z.2.1 z.2.2.1 z.2.2.2.1 z.2.2.2.2
  exact ⟨_, pe_lc (own := [(x, i)]) hc hN h1 ok hg (fun _ _ _ _ _ => pts_nil) (fun s H C cl fp => h2 (s, H, C, cl, fp)) hs, se_lc s1 s2⟩
theorem q_lf (hc : X.calm = true) (hN : X.N.Nodup) (hi : QI X J H0 (.Name x p) iter pi) (ok : BlkOk X.N X.env.scope scope [(x, i)])
    (hg : ∀ (s : Shared) (H : Hp) (C : Addr) (cl : List (Str × Addr)) (fp : List Addr), PG (X.blk s H scope (compEnvC scope cl C X.env) fp) (.Name x p) (gName i))
    (ht : ∀ (s : Shared) (H : Hp) (C : Addr) (cl : List (Str × Addr)) (fp : List Addr), QT (X.blk s H scope (compEnvC scope cl C X.env) fp) J H0 c pt)
    (he : ∀ (s : Shared) (H : Hp) (C : Addr) (cl : List (Str × Addr)) (fp : List Addr), QE (X.blk s H scope (compEnvC scope cl C X.env) fp) J H0 elt (pVar i)) (hs : ∀ x, foldedSetIterable iter X.env x = pure x := by intro _; rfl) :
    QE X J H0 (.ListComp elt [⟨.Name x p, iter, [c], 0⟩] scope pos) (fun ρ Φ => i < ρ.length ∧ pLf pi i pt ρ Φ) := by
  obtain ⟨wi, h1, s1⟩ := hi
  obtain ⟨te, h2, s2⟩ := famE (ι := Shared × Hp × Addr × List (Str × Addr) × List Addr) (X := fun z => X.blk z.1 z.2.1 scope (compEnvC scope z.2.2.2.1 z.2.2.1 X.env) z.2.2.2.2) (K := X.K) (fun _ => rfl) fun z => he z.1 z.2.1 z.2.2.1 z.2.2.2.1 z.2.2.2.2
  obtain ⟨tt, h3, s3⟩ := famT (ι := Shared × Hp × Addr × List (Str × Addr) × List Addr) (X := fun z => X.blk z.1 z.2.1 scope (compEnvC scope z.2.2.2.1 z.2.2.1 X.env) z.2.2.2.2) (K := X.K) (fun _ => rfl) fun z => qts_one (ht z.1 z.2.1 z.2.2.1 z.2.2.2.1 z.2.2.2.2)
  exact ⟨_, pe_lc (own := [(x, i)]) hc hN h1 ok hg (fun s H C cl fp => h3 (s, H, C, cl, fp)) (fun s H C cl fp => h2 (s, H, C, cl, fp)) hs, se_lf s1 s3 s2⟩
/-- y = [..] -/
theorem qs_lc {j : Nat} {y : Str} {py spos : Pos} (hc : X.calm = true) (hN : X.N.Nodup) (hy : X.N[j]? = some y) (hyl : X.env.scope.names.lookup y = some .local)
    (hsw : swapsWith (.ListComp elt [⟨.Name x p, iter, [], 0⟩] scope pos) (some (.Name y py)) spos.line X.env = pure true) (hi : QI X J H0 (.Name x p) iter pi) (ok : BlkOk X.N X.env.scope scope [(x, i)])
    (hg : ∀ (s : Shared) (H : Hp) (C : Addr) (cl : List (Str × Addr)) (fp : List Addr), PG (X.blk s H scope (compEnvC scope cl C X.env) fp) (.Name x p) (gName i))
    (he : ∀ (s : Shared) (H : Hp) (C : Addr) (cl : List (Str × Addr)) (fp : List Addr), QE (X.blk s H scope (compEnvC scope cl C X.env) fp) J H0 elt pe) (hs : ∀ x, foldedSetIterable iter X.env x = pure x := by intro _; rfl) :
    QS X J H0 (.Assign [.Name y py] (.ListComp elt [⟨.Name x p, iter, [], 0⟩] scope pos) spos) (pSet j (pLc pi i pe)) := by
  obtain ⟨wi, h1, s1⟩ := hi
  obtain ⟨te, h2, s2⟩ := famE (ι := Shared × Hp × Addr × List (Str × Addr) × List Addr) (X := fun z => X.blk z.1 z.2.1 scope (compEnvC scope z.2.2.2.1 z.2.2.1 X.env) z.2.2.2.2) (K := X.K) (fun _ => rfl) fun z => he z.1 z.2.1 z.2.2.1 z.2.2.2.1 z.2.2.2.2
  exact ⟨_, ps_setLc (own := [(x, i)]) hc hN hy hyl hsw h1 ok hg (fun _ _ _ _ _ => pts_nil) (fun s H C cl fp => h2 (s, H, C, cl, fp)) hs, fun ρ N R h σ H w e Dn kn kr => se_lc s1 s2 ρ _ h σ H w e _ fun v d H1 w1 i1 q1 => kn _ _ H1 w1 ((e.mono w1).set i1 j) q1⟩
end
end
end PL
set_option Elab.async false
set_option linter.all false
set_option maxRecDepth 100000
set_option maxHeartbeats 4000000
/-! signs of own instances, in the model's words -/
namespace PL
open PySem PySem.W PySem.Calls PyProof.Rows
section
variable {prog : Program} {w : World} {A : Around} {E : Value → Shared → Prop} {s : Shared} {K : Frag} {x C dx f : Addr} {od : Option Obj}
/-- T's slot id declines an instance of C -/
def Decl (prog : Program) (w : World) (id : String) (a : Value) (x : Addr) (s : Shared) : Prop := ∀ (A : Around) (E Q : Value → Shared → Prop), Q .notImplemented s → wpAny (model prog w) A (call (.builtin id) [a, .ref x]) Q E s
abbrev NotNI (Q : Value → Shared → Prop) : Value → Shared → Prop := fun v s' => v ≠ .notImplemented ∧ Q v s'
theorem tryOwn {name : Str} {b : Value} {Q : Value → Shared → Prop} (X : K.In s.heap) (I : InstAt s.heap x (instObj C dx) C od) (hs : findIn K (.ref C) name = some (some (.ref f))) (hf : isFn K (.ref f) = true)
    (h : wpAny (model prog w) A (call (.ref f) [.ref x, b]) (NotNI Q) E s) : wpAny (model prog w) A (tryCompare (.ref x) name b) (fun r s' => ∃ v, r = some v ∧ Q v s') E s := by
  unfold tryCompare
  refine wpAny_bind (ifBound_K X I hs hf (wpAny_mono h (fun v s' hv => ?_) fun _ _ e => e))
  cases v <;> first | exact absurd rfl hv.1 | exact wpAny_pure ⟨_, rfl, hv.2⟩
/-- a == x, a != x: a's type declines, then x's own -/
theorem cmpRefl {op : CmpOp} {a : Value} {T id : String} {Q : Value → Shared → Prop} (hu : A.units < cLine) (X : K.In s.heap) (I : InstAt s.heap x (instObj C dx) C od) (ha : s.TypeIs a T) (hsl : Slot T (cmpInfo op).2.1 id)
    (hd : Decl prog w id a x s) (hsub : subIn K (.ref C) (.type T) = some false)
    (h : wpAny (model prog w) A (tryCompare (.ref x) (cmpInfo op).2.2 a) (fun r s' => ∃ v, r = some v ∧ Q v s') E s) : wpAny (model prog w) A (richCompare op a (.ref x)) Q E s := by
  rcases hi : cmpInfo op with ⟨sym, fn, r⟩
  rw [hi] at hsl h
  dsimp only at hsl h
  have dec : ∀ {Q2 : Option Value → Shared → Prop}, Q2 none s → wpAny (model prog w) A (tryCompare a fn (.ref x)) Q2 E s := fun {Q2} q => wpAny_tryCompare_declines ha hsl (hd A E _ ⟨rfl, q⟩)
  simp only [richCompare, hi, ha.oneThing_none]
  refine wpAny_holding (wpAny_bind (wpAny_cRoomFor hu ?_))
  refine wpAny_bind (wpAny_typeOf ha (wpAny_bind (I.type.here ?_)))
  have hne : (Value.type T != Value.ref C) = true := rfl
  simp only [hne, if_true]
  refine wpAny_bind ((looks_subIn X hsub).here ?_)
  simp only [Bool.false_eq_true, if_false, Bool.not_false, if_true]
  refine wpAny_bind (dec ?_)
  refine wpAny_bind (wpAny_mono h (fun v s' hv => ?_) fun _ _ z => z)
  obtain ⟨v, rfl, hq⟩ := hv
  exact wpAny_pure hq
/-- a slot of object called on x -/
theorem slotObj {id n : String} {name : Str} {B : Builtin} {rest : List Value} {R : Result → Shared → Prop} (X : K.In s.heap) (I : InstAt s.heap x (instObj C dx) C od) (S : Slot "object" name id) (hk : builtinKind id = some .slot) (hs : splitId id = some ("object", n))
    (ha : argsOk id ⟨.ref x :: rest, []⟩) (hob : subIn K (.ref C) (.type "object") = some true) (he : entryFor table id = some B) (h : wpAny (model prog w) A.in1 (B ⟨.ref x :: rest, []⟩) (GQ.FinOf prog w A R) (fun e s' => R (.error e) s') s) :
    codeAny (model prog w) A (.call (.builtin id) ⟨.ref x :: rest, []⟩) R s := by
  refine codeAny_call_builtin S.plain he ?_
  simp only [checkBuiltinCall, hk, hs]
  have LI : Looks (model prog w) s.heap (isInstance (.ref x) (.type "object")) true := I.type.andThen (looks_subIn X hob)
  refine wpAny_bind (LI.here ?_)
  cases hsig : Manifest.signature? id with
  | none => exact wpAny_pure h
  | some sig =>
    simp only [argsOk, hsig] at ha
    have h2 : Bind.checkArgs id sig ⟨.ref x :: rest, []⟩ = pure () := ha
    show wpAny _ _ (Bind.checkArgs id sig ⟨.ref x :: rest, []⟩) _ _ _
    rw [h2]
    exact wpAny_pure h
/-- x's own != : not its own == -/
theorem tryNe {b : Value} {Q : Value → Shared → Prop} (hu : A.units + 1 < cLine) (X : K.In s.heap) (I : InstAt s.heap x (instObj C dx) C od) (hne : findIn K (.ref C) "__ne__" = some (some (.builtin "object.__ne__"))) (hob : subIn K (.ref C) (.type "object") = some true)
    (hs : findIn K (.ref C) "__eq__" = some (some (.ref f))) (hf : isFn K (.ref f) = true)
    (h : wpAny (model prog w) A.in1 (call (.ref f) [.ref x, b]) (fun v s' => ∃ k, v = .bool k ∧ Q (.bool (!k)) s') E s) : wpAny (model prog w) A (tryCompare (.ref x) "__ne__" b) (fun r s' => ∃ v, r = some v ∧ Q v s') E s := by
  have hc : wpAny (model prog w) A (call (.builtin "object.__ne__") [.ref x, b]) (fun v s' => ∃ k, v = .bool k ∧ Q (.bool k) s') E s := by
    refine wpAny_call (slotObj X I F.cmp_object.ne F.cmpKind_ne F.cmpSplit_ne (F.cmpArgs_ne _ _) hob F.cmpEntry_ne ?_)
    unfold Builtin.«object.__ne__»
    refine wpAny_bind (wpAny_pure ?_)
    dsimp only
    refine wpAny_bind (wpAny_cRoomFor (by show A.units + 1 < cLine; exact hu) ?_)
    refine wpAny_bind (ifBound_K X I hs hf (wpAny_mono h (fun v s' hv => ?_) fun e s' z => z))
    obtain ⟨k, rfl, q⟩ := hv
    refine wpAny_bind (wpAny_truthy_bool ?_)
    exact wpAny_pure ⟨_, rfl, q⟩
  unfold tryCompare
  simp only [callSpecialIfBound?, bindSpecialIfBound?]
  have fin : wpAny (model prog w) A (call (.builtin "object.__ne__") ([.ref x] ++ [b]) >>= fun v => pure (some v)) (fun r s' => ∃ k, r = some (.bool k) ∧ Q (.bool k) s') E s :=
    wpAny_bind (wpAny_mono hc (fun v s' ⟨k, e, q⟩ => wpAny_pure ⟨k, by rw [e], q⟩) fun _ _ z => z)
  refine wpAny_bind (wpAny_mono (Q := fun r s' => ∃ k, r = some (.bool k) ∧ Q (.bool k) s') (wpAny_holding (wpAny_bind (wpAny_bind (wpAny_bind (I.type.here ((looks_findIn X hne).here ?_)))))) (fun r s' hr => ?_) fun _ _ z => z)
  · simp only [F.cmp_object.ne.bind]
    refine wpAny_bind (wpAny_askSetting (wpAny_ite ?_))
    split
    · exact wpAny_bind (wpAny_pure (wpAny_pure fin))
    · exact wpAny_tryCatch (wpAny_bind (wpAny_pure (wpAny_pure fin)))
  · obtain ⟨k, rfl, q⟩ := hr
    exact wpAny_pure ⟨_, rfl, q⟩
/-- x != b -/
theorem cmpNe {b tb : Value} {Q : Value → Shared → Prop} (hu : A.units + 1 < cLine) (X : K.In s.heap) (I : InstAt s.heap x (instObj C dx) C od) (hb : Looks (model prog w) s.heap (typeOf b) tb) (hn : notFirst K C tb = true)
    (h : wpAny (model prog w) A (tryCompare (.ref x) "__ne__" b) (fun r s' => ∃ v, r = some v ∧ Q v s') E s) : wpAny (model prog w) A (richCompare .NotEq (.ref x) b) Q E s := by
  unfold richCompare
  simp only [oneThing_ref]
  refine wpAny_holding (wpAny_bind (wpAny_cRoomFor (by omega) ?_))
  refine wpAny_bind (I.type.here (wpAny_bind (hb.here ?_)))
  have one : wpAny (model prog w) A (tryCompare (.ref x) (cmpInfo .NotEq).2.1 b) (fun r s' => ∃ v, r = some v ∧ Q v s') E s := h
  split
  · rename_i q
    have e : subIn K tb (.ref C) = some false := by
      rcases Bool.or_eq_true_iff.mp hn with e | e
      · rw [beq_iff_eq.mp e] at q; simp at q
      · exact beq_iff_eq.mp e
    refine wpAny_bind ((looks_subIn X e).here ?_)
    simp only [Bool.false_eq_true, if_false]
    refine wpAny_bind (wpAny_mono one (fun r s' z => ?_) fun _ _ e => e)
    obtain ⟨v, rfl, hq⟩ := z
    exact wpAny_pure hq
  · refine wpAny_bind (wpAny_pure ?_)
    simp only [Bool.false_eq_true, if_false]
    refine wpAny_bind (wpAny_mono one (fun r s' z => ?_) fun _ _ e => e)
    obtain ⟨v, rfl, hq⟩ := z
    exact wpAny_pure hq
/-- n op x, n a whole number: int's own declines, then x's -/
theorem binRefl {op : Operator} {i : Int} {t : Tok} {nm sym id : String} {f' : Addr} {Q : Value → Shared → Prop} (X : K.In s.heap) (I : InstAt s.heap x (instObj C dx) C od) (hc : selfFirst K C = true) (hi : op.info = (sym, nm))
    (hsl : Slot "int" (PySem.dunder nm) id) (hd : Decl prog w id (.int i t) x s) (hfi : fillsNumberSlot (.type "int") nm = pure true)
    (h1 : findIn K (.ref C) (PySem.dunder nm) = some (some (.ref f'))) (hr : findIn K (.ref C) (dunderR nm) = some (some (.ref f))) (hf : isFn K (.ref f) = true) (hsub : subIn K (.ref C) (.type "int") = some false)
    (h : wpAny (model prog w) A (call (.ref f) [.ref x, .int i t]) (NotNI Q) E s) : wpAny (model prog w) A (binaryOp op (.int i t) (.ref x)) Q E s := by
  obtain ⟨cd, rest, hcd, hm⟩ := ksp_first hc
  have one : wpAny (model prog w) A (tryMethod (.ref x) (dunderR nm) (.int i t)) (fun r s' => ∃ v, r = some v ∧ Q v s') E s := by
    unfold tryMethod
    refine wpAny_bind (special_fn X I hr (beq_iff_eq.mp hf) (wpAny_mono h (fun v s' hv => ?_) fun _ _ e => e))
    cases v <;> first | exact absurd rfl hv.1 | exact wpAny_pure ⟨_, rfl, hv.2⟩
  have dec : ∀ {Q2 : Option Value → Shared → Prop}, Q2 none s → wpAny (model prog w) A (tryMethod (.int i t) (PySem.dunder nm) (.ref x)) Q2 E s := fun {Q2} q => by
    unfold tryMethod
    refine wpAny_bind (wpAny_callSpecial?_slot (typeIs_int s i t) hsl (hd A E _ ?_))
    exact wpAny_pure q
  have L3 : Looks (model prog w) s.heap (fillsNumberSlot (.ref C) nm) true := fills_K X hcd hm h1
  have L7 : Looks (model prog w) s.heap (numberSlotInPython (.type "int") nm) false := Looks.of_pure rfl
  have hne : (Value.type "int" == Value.ref C) = false := rfl
  simp only [binaryOp, hi]
  refine wpAny_holding (wpAny_bind ?_)
  unfold binaryOp1
  refine wpAny_bind (wpAny_typeOf (typeIs_int s i t) (wpAny_bind (I.type.here ?_)))
  refine wpAny_bind (wpAny_of_eq hfi ?_)
  simp only [hne, Bool.false_eq_true, if_false]
  refine wpAny_bind (L3.here ?_)
  simp only [Bool.and_self, if_true]
  refine wpAny_bind ((looks_subIn X hsub).here ?_)
  simp only [Bool.false_eq_true, if_false, Bool.not_false, Bool.and_true, if_true]
  refine wpAny_bind (L7.here ?_)
  simp only [Bool.false_eq_true, if_false]
  refine wpAny_bind (dec ?_)
  dsimp only
  refine wpAny_bind (wpAny_mono one (fun r s' hr' => ?_) fun _ _ e => e)
  obtain ⟨v, rfl, hq⟩ := hr'
  exact wpAny_bind (wpAny_rule (wpAny_pure (wpAny_pure hq)))
/-- abs(x) -/
theorem absOwn {Q : Value → Shared → Prop} (X : K.In s.heap) (I : InstAt s.heap x (instObj C dx) C od) (hs : findIn K (.ref C) "__abs__" = some (some (.ref f))) (hf : isFn K (.ref f) = true)
    (h : wpAny (model prog w) A.in1 (call (.ref f) [.ref x]) Q E s) : wpAny (model prog w) A (call (.builtin "abs") [.ref x]) Q E s := by
  refine Calls.call_function_entry kind_abs plain_abs entry_abs (args_abs _) ?_
  unfold Builtin.«abs»
  refine wpAny_bind (m := oneArg "abs" _) (wpAny_pure ?_)
  refine wpAny_bind (m := callSpecial? (.ref x) (Str.ofString "__abs__")) (special_fn X I hs (beq_iff_eq.mp hf) (wpAny_mono h (fun r s' hr => ?_) fun _ _ y => y))
  exact wpAny_pure ⟨_, rfl, hr⟩
end
end PL
set_option Elab.async false
set_option linter.all false
set_option maxRecDepth 100000
set_option maxHeartbeats 4000000
/-! signs of own instances: what built-in types decline -/
namespace PL
open PySem PySem.W PySem.Calls PyProof.Rows
section
variable {prog : Program} {w : World} {s : Shared} {K : Frag} {x C dx l : Addr} {i : Int} {t : Tok} {z : Str} {b : Bool}
theorem asInt_inst {M : Model} {A : Around} {E : Value → Shared → Prop} {Q : Option Int → Shared → Prop} (hx : s.heap.get? x = some (instObj C dx)) (q : Q none s) : wpAny M A (asInt? (.ref x)) Q E s := by
  unfold asInt?
  refine wpAny_bind (wpAny_load hx ?_)
  exact wpAny_pure q
theorem asStr_inst {M : Model} {A : Around} {E : Value → Shared → Prop} {Q : Option Str → Shared → Prop} (hx : s.heap.get? x = some (instObj C dx)) (q : Q none s) : wpAny M A (asStr? (.ref x)) Q E s := by
  unfold asStr?
  refine wpAny_bind (wpAny_load hx ?_)
  exact wpAny_pure q
theorem dec_add (hx : s.heap.get? x = some (instObj C dx)) : Decl prog w "int.__add__" (.int i t) x s := by
  intro A E Q q
  refine wpAny_call_entry F.slot_int_add (typeIs_int s i t) F.entry_int_add ?_ (F.args_int_add_2 _ _)
  exact wpAny_bind (wpAny_pure (wpAny_bind (wpAny_pure (wpAny_bind (asInt_inst hx (wpAny_bind (wpAny_rule (wpAny_pure ⟨_, rfl, q⟩))))))))
theorem dec_sub (hx : s.heap.get? x = some (instObj C dx)) : Decl prog w "int.__sub__" (.int i t) x s := by
  intro A E Q q
  refine wpAny_call_entry F.slot_int_sub (typeIs_int s i t) F.entry_int_sub ?_ (F.args_int_sub_2 _ _)
  exact wpAny_bind (wpAny_pure (wpAny_bind (wpAny_pure (wpAny_bind (asInt_inst hx (wpAny_bind (wpAny_rule (wpAny_pure ⟨_, rfl, q⟩))))))))
theorem dec_mul (hx : s.heap.get? x = some (instObj C dx)) : Decl prog w "int.__mul__" (.int i t) x s := by
  intro A E Q q
  refine wpAny_call_entry F.slot_int_mul (typeIs_int s i t) F.entry_int_mul ?_ (F.args_int_mul_2 _ _)
  exact wpAny_bind (wpAny_pure (wpAny_bind (wpAny_pure (wpAny_bind (asInt_inst hx (wpAny_bind (wpAny_rule (wpAny_pure ⟨_, rfl, q⟩))))))))
theorem dec_int_eq (hx : s.heap.get? x = some (instObj C dx)) : Decl prog w "int.__eq__" (.int i t) x s := by
  intro A E Q q
  refine wpAny_call_entry F.slot_int_eq (typeIs_int s i t) F.entry_int_eq ?_ (F.args_int_eq_2 _ _)
  exact wpAny_bind (wpAny_pure (wpAny_bind (wpAny_pure (wpAny_bind (asInt_inst hx (wpAny_bind (wpAny_rule (wpAny_pure ⟨_, rfl, q⟩))))))))
theorem dec_int_ne (hx : s.heap.get? x = some (instObj C dx)) : Decl prog w "int.__ne__" (.int i t) x s := by
  intro A E Q q
  refine wpAny_call_entry F.slot_int_ne (typeIs_int s i t) F.entry_int_ne ?_ (F.args_int_ne_2 _ _)
  exact wpAny_bind (wpAny_pure (wpAny_bind (wpAny_pure (wpAny_bind (asInt_inst hx (wpAny_bind (wpAny_rule (wpAny_pure ⟨_, rfl, q⟩))))))))
theorem dec_bool_eq (hx : s.heap.get? x = some (instObj C dx)) : Decl prog w "int.__eq__" (.bool b) x s := by
  intro A E Q q
  refine wpAny_call_entry F.slot_bool_eq (PySem.typeIs_bool s b) F.entry_int_eq ?_ (F.args_int_eq_2 _ _)
  exact wpAny_bind (wpAny_pure (wpAny_bind (wpAny_pure (wpAny_bind (asInt_inst hx (wpAny_bind (wpAny_rule (wpAny_pure ⟨_, rfl, q⟩))))))))
theorem dec_bool_ne (hx : s.heap.get? x = some (instObj C dx)) : Decl prog w "int.__ne__" (.bool b) x s := by
  intro A E Q q
  refine wpAny_call_entry F.slot_bool_ne (PySem.typeIs_bool s b) F.entry_int_ne ?_ (F.args_int_ne_2 _ _)
  exact wpAny_bind (wpAny_pure (wpAny_bind (wpAny_pure (wpAny_bind (asInt_inst hx (wpAny_bind (wpAny_rule (wpAny_pure ⟨_, rfl, q⟩))))))))
theorem dec_str_eq (hx : s.heap.get? x = some (instObj C dx)) : Decl prog w "str.__eq__" (.str z t) x s := by
  intro A E Q q
  refine wpAny_call_entry F.slot_str_eq (typeIs_str s z t) F.entry_str_eq ?_ (F.args_str_eq_2 _ _)
  exact wpAny_bind (wpAny_pure (wpAny_bind (asStr_inst hx (wpAny_bind (wpAny_rule (wpAny_pure ⟨_, rfl, q⟩))))))
theorem dec_str_ne (hx : s.heap.get? x = some (instObj C dx)) : Decl prog w "str.__ne__" (.str z t) x s := by
  intro A E Q q
  refine wpAny_call_entry F.slot_str_ne (typeIs_str s z t) F.entry_str_ne ?_ (F.args_str_ne_2 _ _)
  exact wpAny_bind (wpAny_pure (wpAny_bind (asStr_inst hx (wpAny_bind (wpAny_rule (wpAny_pure ⟨_, rfl, q⟩))))))
theorem dec_non_eq : Decl prog w "NoneType.__eq__" .none x s := by
  intro A E Q q
  refine wpAny_call_entry F.slot_NoneType_eq (typeIs_none s) F.entry_NoneType_eq ?_ (F.args_NoneType_eq_2 _ _)
  exact wpAny_bind (wpAny_pure (wpAny_pure ⟨_, rfl, q⟩))
theorem dec_non_ne : Decl prog w "NoneType.__ne__" .none x s := by
  intro A E Q q
  refine wpAny_call_entry F.slot_NoneType_ne (typeIs_none s) F.entry_NoneType_ne ?_ (F.args_NoneType_ne_2 _ _)
  exact wpAny_bind (wpAny_pure (wpAny_pure ⟨_, rfl, q⟩))
section
variable {M : Model} {A : Around} {E : Value → Shared → Prop} {od : Option Obj}
theorem isI_no {T : String} {Q : Bool → Shared → Prop} (X : K.In s.heap) (I : InstAt s.heap x (instObj C dx) C od) (hs : subIn K (.ref C) (.type T) = some false) (q : Q false s) : wpAny M A (isInstance (.ref x) (.type T)) Q E s :=
  (I.type.andThen (looks_subIn X hs) : Looks M s.heap (isInstance (.ref x) (.type T)) false).here q
end
section
variable {od : Option Obj}
theorem dec_list_eq (X : K.In s.heap) (I : InstAt s.heap x (instObj C dx) C od) (hs : subIn K (.ref C) (.type "list") = some false) (hl : s.TypeIs (.ref l) "list") : Decl prog w "list.__eq__" (.ref l) x s := by
  intro A E Q q
  refine wpAny_call_entry F.slot_list_eq hl F.entry_list_eq ?_ (F.args_list_eq_2 _ _)
  refine wpAny_bind (wpAny_pure (wpAny_bind (isI_no X I hs ?_)))
  first
    | exact wpAny_pure ⟨_, rfl, q⟩
    | exact wpAny_bind (wpAny_pure (wpAny_pure ⟨_, rfl, q⟩))
    | exact wpAny_bind (wpAny_pure ⟨_, rfl, q⟩)
theorem dec_list_ne (X : K.In s.heap) (I : InstAt s.heap x (instObj C dx) C od) (hs : subIn K (.ref C) (.type "list") = some false) (hl : s.TypeIs (.ref l) "list") : Decl prog w "list.__ne__" (.ref l) x s := by
  intro A E Q q
  refine wpAny_call_entry F.slot_list_ne hl F.entry_list_ne ?_ (F.args_list_ne_2 _ _)
  refine wpAny_bind (wpAny_pure (wpAny_bind (isI_no X I hs ?_)))
  first
    | exact wpAny_pure ⟨_, rfl, q⟩
    | exact wpAny_bind (wpAny_pure (wpAny_pure ⟨_, rfl, q⟩))
    | exact wpAny_bind (wpAny_pure ⟨_, rfl, q⟩)
theorem dec_tup_eq (X : K.In s.heap) (I : InstAt s.heap x (instObj C dx) C od) (hs : subIn K (.ref C) (.type "tuple") = some false) (hl : s.TypeIs (.ref l) "tuple") : Decl prog w "tuple.__eq__" (.ref l) x s := by
  intro A E Q q
  refine wpAny_call_entry F.slot_tuple_eq hl F.entry_tuple_eq ?_ (F.args_tuple_eq_2 _ _)
  refine wpAny_bind (wpAny_pure (wpAny_bind (isI_no X I hs ?_)))
  first
    | exact wpAny_pure ⟨_, rfl, q⟩
    | exact wpAny_bind (wpAny_pure (wpAny_pure ⟨_, rfl, q⟩))
    | exact wpAny_bind (wpAny_pure ⟨_, rfl, q⟩)
theorem dec_tup_ne (X : K.In s.heap) (I : InstAt s.heap x (instObj C dx) C od) (hs : subIn K (.ref C) (.type "tuple") = some false) (hl : s.TypeIs (.ref l) "tuple") : Decl prog w "tuple.__ne__" (.ref l) x s := by
  intro A E Q q
  refine wpAny_call_entry F.slot_tuple_ne hl F.entry_tuple_ne ?_ (F.args_tuple_ne_2 _ _)
  refine wpAny_bind (wpAny_pure (wpAny_bind (isI_no X I hs ?_)))
  first
    | exact wpAny_pure ⟨_, rfl, q⟩
    | exact wpAny_bind (wpAny_pure (wpAny_pure ⟨_, rfl, q⟩))
    | exact wpAny_bind (wpAny_pure ⟨_, rfl, q⟩)
end
end
end PL
set_option Elab.async false
set_option linter.all false
set_option maxRecDepth 100000
set_option maxHeartbeats 4000000
/-! signs of own instances, as rules -/
namespace PL
open PySem PySem.Spec PyProof.Rows L2 GX HX
structure OpC (K : PySem.W.Frag) (C : Addr) : Prop where
  cl : Cls K C
  sf : PySem.W.selfFirst K C = true
  ob : PySem.W.subIn K (.ref C) (.type "object") = some true
  nf : (["int", "bool", "str", "NoneType", "tuple", "list", "dict"].all fun T => PySem.W.subIn K (.ref C) (.type T) == some false) = true
  ne : PySem.W.findIn K (.ref C) "__ne__" = some (some (.builtin "object.__ne__"))
theorem OpC.no {K : PySem.W.Frag} {C : Addr} (o : OpC K C) {T : String} (h : T ∈ ["int", "bool", "str", "NoneType", "tuple", "list", "dict"]) : PySem.W.subIn K (.ref C) (.type T) = some false := beq_iff_eq.mp (List.all_eq_true.mp o.nf T h)
theorem sub_no {K : PySem.W.Frag} {C : Addr} {T : String} (h : T ∈ ["int", "bool", "str", "NoneType", "tuple", "list", "dict"]) : PySem.W.subIn K (.type T) (.ref C) = some false := by
  simp only [List.mem_cons, List.not_mem_nil, or_false] at h
  rcases h with rfl | rfl | rfl | rfl | rfl | rfl | rfl <;> kernel_rfl
section
variable {X : Cx} {C : Addr} {pins : List (Addr × Obj)} {σ : L2.St} {H : Hp} {s : Shared}
theorem ins_at {a dx : Addr} {fs : List (Str × V)} (I : Inv X pins σ H s) (h : H a = some (.ins C dx fs)) : s.heap.get? a = some (PySem.W.instObj C dx) ∧ ∃ od, PySem.W.InstAt s.heap a (PySem.W.instObj C dx) C od := by
  obtain ⟨mA, O, _⟩ := ins_get I.hok h
  obtain ⟨od, J, _⟩ := O.look
  exact ⟨J.at_, od, J⟩
theorem back_ni {Q : VK} {v : Value} {s' : Shared} (h : EP X pins σ Q v s') : v ≠ .notImplemented := by
  obtain ⟨z, H', I, r, q⟩ := h
  intro e
  subst e
  cases z <;> first | exact nomatch (show _ = _ from r) | (obtain ⟨_, e⟩ := r; exact nomatch e)
theorem back_w {Q : VK} {v : Value} {s' : Shared} (h : EP X pins σ Q v s') : PySem.W.CmpBack (EP X pins σ Q) v s' := by
  have := back_ni h
  cases v <;> first | exact absurd rfl this | exact h
/-- the callee runs one deeper -/
theorem run_in1 {CX : CXT} {k : Nat} {f : Addr} {fd : FuncData} {ps : List Str} {sp : Sp} {E : XK} {Q : VK} {us : List Value} {vs : List V} (F : FnOk X.prog X.w X.K X.mg X.base CX k f fd ps sp) (hr : Room (k + 1) X.A) (hb : Binds X.K fd ps []) (hx : Passes CX X E)
    (I : Inv X pins σ H s) (r : Vals vs us) (h : sp (vs ++ []) H Q E) : wpAny (model X.prog X.w) X.A.in1 (call (.ref f) us) (EP X pins σ Q) X.xe s := by
  rw [List.append_nil] at h
  have hl : (us ++ []).length = ps.length := by rw [List.append_nil, ← r.length]; exact F.len _ _ _ _ h
  have b := hb s us I.kIn hl
  rw [List.append_nil] at b
  refine wpAny_call (codeAny_mono (F.run X.A.in1 X.stack s H ⟨us, []⟩ us vs Q E hr.in1 I.env0.in1 b r h) fun r s' hq => ?_)
  cases r with
  | error e => exact hx pins σ H s e s' I hq
  | ok fl =>
    cases fl with
    | ret u => exact I.after hq
    | next => exact False.elim hq
    | brk => exact False.elim hq
    | cont => exact False.elim hq
end
section
variable {X : Cx} {J : Option Addr} {H0 : Hp} {k : Nat} {f : Addr} {fd : FuncData} {ps : List Str} {pf : PF} {c : Str} {a b : Expr} {pa pb : PEx} {pos : Pos} {nm sym : String} {op : Operator}
abbrev noE : XK := E0
def rOwn2 (K : PySem.W.Frag) (c : Str) (pf : PF) : R2 := fun x y H Q => (∃ p q dx dy fs gs, x = .ref p ∧ y = .ref q ∧ H p = some (.ins (He.ga K c) dx fs) ∧ H q = some (.ins (He.ga K c) dy gs)) ∧ spP K pf ([x, y] ++ []) H Q E0
def rOwnI (K : PySem.W.Frag) (c : Str) (pf : PF) : R2 := fun x y H Q => (∃ p dx fs i, x = .ref p ∧ y = .int i ∧ H p = some (.ins (He.ga K c) dx fs)) ∧ spP K pf ([x, y] ++ []) H Q E0
def rOwnR (K : PySem.W.Frag) (c : Str) (pf : PF) : R2 := fun x y H Q => (∃ p dx fs i, y = .ref p ∧ x = .int i ∧ H p = some (.ins (He.ga K c) dx fs)) ∧ spP K pf ([y, x] ++ []) H Q E0
theorem op_own2 (o : OpC X.K (He.ga X.K c)) (hi : op.info = (sym, nm)) (hm : Meth X.K (He.ga X.K c) (PySem.dunder nm) f) (F : FnP X.prog X.w X.K X.mg X.base k f fd ps pf) (hr : Room k X.A) (hb : Binds X.K fd ps []) : OpR X (binaryOp op) (rOwn2 X.K c pf) := by
  intro pins s σ H x y v u Q I rx ry h
  obtain ⟨⟨p, q, dx, dy, fs, gs, rfl, rfl, hp, hq⟩, hs⟩ := h
  obtain ⟨h1, od, J1⟩ := ins_at I hp
  obtain ⟨h2, od2, J2⟩ := ins_at I hq
  cases rx; cases ry
  obtain ⟨m, hF⟩ := I.fr
  refine PySem.W.binop_K hF I.ok.mod.kin J1 J2.type o.sf (by rw [hi]; exact hm.at_) hm.fn ?_
  exact wpAny_mono (run_fn (vs := [V.ref p, V.ref q]) F hr hb .nil passL I (.cons rfl (.cons rfl .nil)) hs) (fun v s' z => back_w z) fun _ _ z => z
theorem op_ownI {fo ro rc : Option Value} (o : OpC X.K (He.ga X.K c)) (hi : op.info = (sym, nm)) (hm : Meth X.K (He.ga X.K c) (PySem.dunder nm) f) (F : FnP X.prog X.w X.K X.mg X.base k f fd ps pf) (hr : Room k X.A) (hb : Binds X.K fd ps [])
    (hrc : PySem.W.findIn X.K (.ref (He.ga X.K c)) (dunderR nm) = some rc) (hp : rc = none ∨ ∃ g : Addr, rc = some (.ref g)) (h1 : PySem.W.findIn X.K (.type "int") (PySem.dunder nm) = some fo) (h2 : PySem.W.findIn X.K (.type "int") (dunderR nm) = some ro) : OpR X (binaryOp op) (rOwnI X.K c pf) := by
  intro pins s σ H x y v u Q I rx ry h
  obtain ⟨⟨p, dx, fs, i, rfl, rfl, hp'⟩, hs⟩ := h
  obtain ⟨h3, od, J1⟩ := ins_at I hp'
  cases rx
  obtain ⟨t, rfl⟩ := ry
  obtain ⟨m, hF⟩ := I.fr
  refine PySem.W.ksp_binT hF I.ok.mod.kin J1 (T := "int") rfl o.sf (by rw [hi]; exact hm.at_) hm.fn (by rw [hi]; exact hrc) hp (by rw [hi]; exact h1) (by rw [hi]; exact h2) (sub_no (by simp)) ?_
  exact wpAny_mono (run_fn (vs := [V.ref p, V.int i]) F hr hb .nil passL I (.cons rfl (.cons ⟨t, rfl⟩ .nil)) hs) (fun v s' z => back_w z) fun _ _ z => z
theorem op_ownR {id : String} {f' : Addr} (o : OpC X.K (He.ga X.K c)) (hi : op.info = (sym, nm)) (hm : Meth X.K (He.ga X.K c) (dunderR nm) f) (F : FnP X.prog X.w X.K X.mg X.base k f fd ps pf) (hr : Room k X.A) (hb : Binds X.K fd ps [])
    (hsl : Slot "int" (PySem.dunder nm) id) (hd : ∀ (i : Int) (t : Tok) (p dx : Addr) (s : Shared), s.heap.get? p = some (PySem.W.instObj (He.ga X.K c) dx) → Decl X.prog X.w id (.int i t) p s) (hfi : fillsNumberSlot (.type "int") nm = pure true)
    (h1 : PySem.W.findIn X.K (.ref (He.ga X.K c)) (PySem.dunder nm) = some (some (.ref f'))) : OpR X (binaryOp op) (rOwnR X.K c pf) := by
  intro pins s σ H x y v u Q I rx ry h
  obtain ⟨⟨p, dx, fs, i, rfl, rfl, hp'⟩, hs⟩ := h
  obtain ⟨h3, od, J1⟩ := ins_at I hp'
  cases ry
  obtain ⟨t, rfl⟩ := rx
  refine binRefl I.kIn J1 o.sf hi hsl (hd i t p dx s h3) hfi h1 hm.at_ hm.fn (o.no (by simp)) ?_
  exact wpAny_mono (run_fn (vs := [V.ref p, V.int i]) F hr hb .nil passL I (.cons rfl (.cons ⟨t, rfl⟩ .nil)) hs) (fun v s' z => ⟨back_ni z, z⟩) fun _ _ z => z
def dOwn2 (c : Str) (pf : PF) : D → D → (D → Prop) → Prop := fun x y Φ => ∃ gs hs, x = .ins c gs ∧ y = .ins c hs ∧ pf [x, y] Φ noX
def dOwnI (c : Str) (pf : PF) : D → D → (D → Prop) → Prop := fun x y Φ => ∃ gs i, x = .ins c gs ∧ y = .int i ∧ pf [x, y] Φ noX
def dOwnR (c : Str) (pf : PF) : D → D → (D → Prop) → Prop := fun x y Φ => ∃ gs i, y = .ins c gs ∧ x = .int i ∧ pf [y, x] Φ noX
theorem rd_own2 {K : PySem.W.Frag} : RD K (rOwn2 K c pf) (dOwn2 c pf) := by
  intro J H0 H x y cc d Φ w hx hy h Q k
  obtain ⟨gs, hs, rfl, rfl, q⟩ := h
  have hs2 := spP_of (E := E0) (Q := Q) (K := K) (vs := [x, y]) wok0 w (.cons hx (.cons hy .nil)) q k
  cases hx with
  | ins ha n t =>
  cases hy with
  | ins hb n2 t2 => exact ⟨⟨_, _, _, _, _, _, rfl, rfl, ha, hb⟩, hs2⟩
theorem rd_ownI {K : PySem.W.Frag} : RD K (rOwnI K c pf) (dOwnI c pf) := by
  intro J H0 H x y cc d Φ w hx hy h Q k
  obtain ⟨gs, i, rfl, rfl, q⟩ := h
  have hs2 := spP_of (E := E0) (Q := Q) (K := K) (vs := [x, y]) wok0 w (.cons hx (.cons hy .nil)) q k
  cases hx with
  | ins ha n t =>
  cases hy
  exact ⟨⟨_, _, _, i, rfl, rfl, ha⟩, hs2⟩
theorem rd_ownR {K : PySem.W.Frag} : RD K (rOwnR K c pf) (dOwnR c pf) := by
  intro J H0 H x y cc d Φ w hx hy h Q k
  obtain ⟨gs, i, rfl, rfl, q⟩ := h
  have hs2 := spP_of (E := E0) (Q := Q) (K := K) (vs := [y, x]) wok0 w (.cons hy (.cons hx .nil)) q k
  cases hy with
  | ins ha n t =>
  cases hx
  exact ⟨⟨_, _, _, i, rfl, rfl, ha⟩, hs2⟩
/-- -x -/
theorem q_negOwn (o : OpC X.K (He.ga X.K c)) (hm : Meth X.K (He.ga X.K c) "__neg__" f) (F : FnP X.prog X.w X.K X.mg X.base k f fd ps pf) (hr : Room k X.A) (hb : Binds X.K fd ps []) (ha : QE X J H0 a pa) : QE X J H0 (.UnaryOp .USub a pos) (fun ρ Φ => pa ρ fun d => ∃ gs, d = .ins c gs ∧ pf [d] Φ noX) := by
  obtain ⟨ta, h1, s1⟩ := ha
  refine ⟨_, pe_un (r := fun x H Q => (∃ p dx fs, x = .ref p ∧ H p = some (.ins (He.ga X.K c) dx fs)) ∧ spP X.K pf ([x] ++ []) H Q E0) (fun pins s σ H x v Q I rx h => ?_) h1, fun ρ Φ h σ H w e Q k => s1 ρ _ h σ H w e _ fun v d H1 w1 i1 q1 => ?_⟩
  · obtain ⟨⟨p, dx, fs, rfl, hp⟩, hs⟩ := h
    obtain ⟨h3, od, J1⟩ := ins_at I hp
    cases rx
    obtain ⟨m, hF⟩ := I.fr
    exact PySem.W.ksp_neg hF I.ok.mod.kin J1 hm.at_ hm.fn (run_fn (vs := [V.ref p]) F hr hb .nil passL I (.cons rfl .nil) hs)
  · obtain ⟨gs, rfl, q⟩ := q1
    have hs2 := spP_of (E := E0) (Q := Q) (K := X.K) (vs := [v]) wok0 (w.trans w1) (.cons i1 .nil) q fun z b H2 w2 i2 q2 => k z b H2 (w1.trans w2) i2 q2
    cases i1 with
    | ins hp n t => exact ⟨⟨_, _, _, rfl, hp⟩, hs2⟩
/-- abs(x) -/
theorem rc_absOwn (o : OpC X.K (He.ga X.K c)) (hm : Meth X.K (He.ga X.K c) "__abs__" f) (F : FnP X.prog X.w X.K X.mg X.base k f fd ps pf) (hr : Room (k + 1) X.A) (hb : Binds X.K fd ps []) :
    CallR X (.builtin "abs") (fun xs H Q => (∃ p dx fs, xs = [.ref p] ∧ H p = some (.ins (He.ga X.K c) dx fs)) ∧ spP X.K pf (xs ++ []) H Q E0) := by
  intro pins s σ H xs us Q I r h
  obtain ⟨⟨p, dx, fs, rfl, hp⟩, hs⟩ := h
  obtain ⟨h3, od, J1⟩ := ins_at I hp
  obtain ⟨u, rfl, ru⟩ := Vals.one r
  cases ru
  exact absOwn I.kIn J1 hm.at_ hm.fn (run_in1 (vs := [V.ref p]) F hr hb passL I (.cons rfl .nil) hs)
theorem rc_absD {K : PySem.W.Frag} : RC K (fun xs H Q => (∃ p dx fs, xs = [.ref p] ∧ H p = some (.ins (He.ga K c) dx fs)) ∧ spP K pf (xs ++ []) H Q E0) (fun ds Φ => ∃ gs, ds = [.ins c gs] ∧ pf ds Φ noX) := by
  intro J H0 H vs ds Φ w hi h Q k
  obtain ⟨gs, rfl, q⟩ := h
  have hs2 := spP_of (E := E0) (Q := Q) (K := K) wok0 w hi q k
  obtain ⟨v, rfl, i1⟩ := hi.inv1
  cases i1 with
  | ins hp n t => exact ⟨⟨_, _, _, rfl, hp⟩, hs2⟩
/-- the truth of x -/
theorem qt_own {e : Expr} {pe : PEx} (o : OpC X.K (He.ga X.K c)) (hm : Meth X.K (He.ga X.K c) "__bool__" f) (F : FnP X.prog X.w X.K X.mg X.base k f fd ps pf) (hr : Room k X.A) (hb : Binds X.K fd ps []) (he : QE X J H0 e pe)
    (ht : ∀ whole, isTrue e X.env whole = (do let v ← whole; standAt e.pos; holding [v] (truthy v)) := by intro _; rfl) : QT X J H0 e (fun ρ Φ => pe ρ fun d => ∃ gs, d = .ins c gs ∧ pf [d] (fun r => ∃ b, r = .bl b ∧ Φ b) noX) := by
  obtain ⟨te, h1, s1⟩ := he
  refine ⟨fun σ H Q => te σ H fun x H1 => (∃ p dx fs, x = .ref p ∧ H1 p = some (.ins (He.ga X.K c) dx fs)) ∧ spP X.K pf ([x] ++ []) H1 (fun v H' => ∃ b, v = .bl b ∧ Q b H') E0, ⟨fun pins s σ H Q I h => ?_⟩, fun ρ Φ h σ H w e Q k => s1 ρ _ h σ H w e _ fun v d H1 w1 i1 q1 => ?_⟩
  · rw [ht]
    refine wpAny_bind (thn (h1.run pins s σ H _ I h) fun v s1 hv => wpAny_bind (wpAny_standAt (wpAny_holding ?_)))
    obtain ⟨x, H1, I1, r1, ⟨p, dx, fs, rfl, hp⟩, hs⟩ := hv
    obtain ⟨h3, od, J1⟩ := ins_at I1 hp
    cases r1
    obtain ⟨m, hF⟩ := I1.fr
    refine PySem.W.truthy_K hF I1.ok.mod.kin J1 hm.at_ hm.fn (wpAny_mono (run_fn (vs := [V.ref p]) F hr hb .nil passL I1 (.cons rfl .nil) hs) (fun v s' z => ?_) fun _ _ z => z)
    obtain ⟨y, H2, I2, r2, b, rfl, q2⟩ := z
    cases r2
    exact ⟨H2, I2, q2⟩
  · obtain ⟨gs, rfl, q⟩ := q1
    have hs2 := spP_of (E := E0) (K := X.K) (vs := [v]) (Q := fun v H' => ∃ b, v = .bl b ∧ Q b H') wok0 (w.trans w1) (.cons i1 .nil) q fun z d2 H2 w2 i2 q2 => by
      obtain ⟨b, rfl, q3⟩ := q2
      cases i2
      exact ⟨b, rfl, k b H2 (w1.trans w2) q3⟩
    cases i1 with
    | ins hp n t => exact ⟨⟨_, _, _, rfl, hp⟩, hs2⟩
end
end PL
set_option Elab.async false
set_option linter.all false
set_option maxRecDepth 100000
set_option maxHeartbeats 4000000
namespace PL
open PySem PySem.Spec PyProof.Rows L2 GX HX
/-- the built-in type of a datum -/
def bT : D → Option String
  | .int _ => some "int"
  | .bl _ => some "bool"
  | .str _ => some "str"
  | .non => some "NoneType"
  | .tup _ => some "tuple"
  | .lst _ => some "list"
  | _ => none
theorem bT_mem {d : D} {T : String} (h : bT d = some T) : T ∈ ["int", "bool", "str", "NoneType", "tuple", "list", "dict"] := by
  cases d <;> simp [bT] at h <;> subst h <;> simp
section
variable {X : Cx} {J : Option Addr} {pins : List (Addr × Obj)} {σ : L2.St} {H : Hp} {s : Shared} {y : V} {v : Value} {d : D} {T : String}
theorem obj_of (I : Inv X pins σ H s) (i : Is X.K J H y d) (ht : bT d = some T) : (∃ a o, y = .ref a ∧ s.heap.get? a = some o ∧ o.cls = .type T ∧ (T = "list" ∨ T = "tuple")) ∨ (d = .non ∨ (∃ b, d = .bl b) ∨ (∃ b, d = .int b) ∨ ∃ b, d = .str b) := by
  cases i with
  | non => exact .inr (.inl rfl)
  | bl b => exact .inr (.inr (.inl ⟨b, rfl⟩))
  | int b => exact .inr (.inr (.inr (.inl ⟨b, rfl⟩)))
  | str b => exact .inr (.inr (.inr (.inr ⟨b, rfl⟩)))
  | tup h n t =>
    cases ht
    obtain ⟨its, r, ⟨o, h1, h2, _⟩, hz⟩ := I.tuple h
    exact .inl ⟨_, o, rfl, h1, h2, .inr rfl⟩
  | lst h n t =>
    cases ht
    obtain ⟨z, its, m, r, e⟩ := I.hok _ _ h
    exact .inl ⟨_, _, rfl, e, rfl, .inl rfl⟩
  | dic h n => cases ht
  | ins h n t => cases ht
  | jar h => cases ht
  | scr h n => cases ht
theorem typ_of (I : Inv X pins σ H s) (r : RelV y v) (i : Is X.K J H y d) (ht : bT d = some T) : s.TypeIs v T ∧ ∀ M, PySem.W.Looks M s.heap (typeOf v) (.type T) := by
  rcases obj_of I i ht with ⟨a, o, rfl, h1, h2, _⟩ | h
  · cases r
    exact ⟨⟨o, h1, h2⟩, fun M A Q E s' k q => wpAny_typeOf_ref (k _ _ h1) (by rw [h2]; exact q)⟩
  · rcases h with rfl | ⟨b, rfl⟩ | ⟨b, rfl⟩ | ⟨b, rfl⟩
    · cases i; cases r; cases ht
      exact ⟨typeIs_none s, fun M => PySem.W.Looks.of_pure rfl⟩
    · cases i; cases r; cases ht
      exact ⟨PySem.typeIs_bool s b, fun M => PySem.W.Looks.of_pure rfl⟩
    · cases i; obtain ⟨t, rfl⟩ := r; cases ht
      exact ⟨typeIs_int s b t, fun M => PySem.W.Looks.of_pure rfl⟩
    · cases i; obtain ⟨t, rfl⟩ := r; cases ht
      exact ⟨typeIs_str s b t, fun M => PySem.W.Looks.of_pure rfl⟩
theorem decl_eq {C x dx : Addr} {od : Option Obj} (o : OpC X.K C) (I : Inv X pins σ H s) (J1 : PySem.W.InstAt s.heap x (PySem.W.instObj C dx) C od) (hx : s.heap.get? x = some (PySem.W.instObj C dx)) (r : RelV y v) (i : Is X.K J H y d) (ht : bT d = some T) :
    ∃ id, Slot T (cmpInfo .Eq).2.1 id ∧ Decl X.prog X.w id v x s := by
  have tt := (typ_of I r i ht).1
  cases i with
  | non => cases r; cases ht; exact ⟨_, F.slot_NoneType_eq, dec_non_eq⟩
  | bl b => cases r; cases ht; exact ⟨_, F.slot_bool_eq, dec_bool_eq hx⟩
  | int b => obtain ⟨t, rfl⟩ := r; cases ht; exact ⟨_, F.slot_int_eq, dec_int_eq hx⟩
  | str b => obtain ⟨t, rfl⟩ := r; cases ht; exact ⟨_, F.slot_str_eq, dec_str_eq hx⟩
  | tup h n t => cases r; cases ht; exact ⟨_, F.slot_tuple_eq, dec_tup_eq I.kIn J1 (o.no (by simp)) tt⟩
  | lst h n t => cases r; cases ht; exact ⟨_, F.slot_list_eq, dec_list_eq I.kIn J1 (o.no (by simp)) tt⟩
  | dic h n => cases ht
  | ins h n t => cases ht
  | jar h => cases ht
  | scr h n => cases ht
theorem decl_ne {C x dx : Addr} {od : Option Obj} (o : OpC X.K C) (I : Inv X pins σ H s) (J1 : PySem.W.InstAt s.heap x (PySem.W.instObj C dx) C od) (hx : s.heap.get? x = some (PySem.W.instObj C dx)) (r : RelV y v) (i : Is X.K J H y d) (ht : bT d = some T) :
    ∃ id, Slot T (cmpInfo .NotEq).2.1 id ∧ Decl X.prog X.w id v x s := by
  have tt := (typ_of I r i ht).1
  cases i with
  | non => cases r; cases ht; exact ⟨_, F.slot_NoneType_ne, dec_non_ne⟩
  | bl b => cases r; cases ht; exact ⟨_, F.slot_bool_ne, dec_bool_ne hx⟩
  | int b => obtain ⟨t, rfl⟩ := r; cases ht; exact ⟨_, F.slot_int_ne, dec_int_ne hx⟩
  | str b => obtain ⟨t, rfl⟩ := r; cases ht; exact ⟨_, F.slot_str_ne, dec_str_ne hx⟩
  | tup h n t => cases r; cases ht; exact ⟨_, F.slot_tuple_ne, dec_tup_ne I.kIn J1 (o.no (by simp)) tt⟩
  | lst h n t => cases r; cases ht; exact ⟨_, F.slot_list_ne, dec_list_ne I.kIn J1 (o.no (by simp)) tt⟩
  | dic h n => cases ht
  | ins h n t => cases ht
  | jar h => cases ht
  | scr h n => cases ht
end
section
variable {X : Cx} {J : Option Addr} {H0 : Hp} {k : Nat} {f : Addr} {fd : FuncData} {ps : List Str} {pf : PF} {c : Str} {a b : Expr} {pa pb : PEx} {pos : Pos}
/-- x == y, x on the left -/
def rEqL (K : PySem.W.Frag) (c : Str) (pf : PF) (ne : Bool) : R2 := fun x y H Q => ∃ (J : Option Addr) (gs : List (Str × D)) (d : D), Is K J H x (.ins c gs) ∧ Is K J H y d ∧ ((∃ hs, d = .ins c hs) ∨ ∃ T, bT d = some T) ∧ spP K pf ([x, y] ++ []) H (fun v H' => ∃ r, v = .bl r ∧ Q (.bl (if ne = true then !r else r)) H') E0
def rEqR (K : PySem.W.Frag) (c : Str) (pf : PF) (ne : Bool) : R2 := fun x y H Q => ∃ (J : Option Addr) (gs : List (Str × D)) (d : D), Is K J H y (.ins c gs) ∧ Is K J H x d ∧ (∃ T, bT d = some T) ∧ spP K pf ([y, x] ++ []) H (fun v H' => ∃ r, v = .bl r ∧ Q (.bl (if ne = true then !r else r)) H') E0
theorem op_eqL (o : OpC X.K (He.ga X.K c)) (hm : Meth X.K (He.ga X.K c) "__eq__" f) (F : FnP X.prog X.w X.K X.mg X.base k f fd ps pf) (hr : Room (k + 1) X.A) (hb : Binds X.K fd ps []) (ne : Bool) : OpR X (compareOp (if ne = true then .NotEq else .Eq)) (rEqL X.K c pf ne) := by
  intro pins s σ H x y v u Q I rx ry h
  obtain ⟨J, gs, d, ix, iy, ht, hs⟩ := h
  cases ix with
  | @ins p dx _ fs _ hp n t =>
  obtain ⟨h3, od, J1⟩ := ins_at I hp
  cases rx
  obtain ⟨m, hF⟩ := I.fr
  have tb : ∃ tb, PySem.W.Looks (model X.prog X.w) s.heap (typeOf u) tb ∧ PySem.W.notFirst X.K (He.ga X.K c) tb = true := by
    rcases ht with ⟨hs, rfl⟩ | ⟨T, hT⟩
    · cases iy with
      | ins hq n2 t2 =>
      obtain ⟨h4, od2, J2⟩ := ins_at I hq
      cases ry
      exact ⟨_, J2.type, by simp [PySem.W.notFirst]⟩
    · exact ⟨_, (typ_of I ry iy hT).2 _, by unfold PySem.W.notFirst; rw [sub_no (bT_mem hT)]; simp⟩
  obtain ⟨tb, L, nf⟩ := tb
  cases ne with
  | false =>
    show wpAny _ _ (richCompare .Eq (.ref p) u) _ _ _
    refine PySem.W.cmp_K (op := .Eq) hr.units0 hF I.ok.mod.kin J1 L nf hm.at_ hm.fn ?_
    refine wpAny_mono (run_fn (vs := [V.ref p, y]) F (hr.mono (Nat.le_succ k)) hb .nil passL I (.cons rfl (.cons ry .nil)) hs) (fun v s' z => ?_) fun _ _ z => z
    obtain ⟨z, H', I', r, b, rfl, q⟩ := z
    cases r
    exact ⟨.bl b, H', I', rfl, q⟩
  | true =>
    show wpAny _ _ (richCompare .NotEq (.ref p) u) _ _ _
    refine cmpNe (by have := hr.units; omega) I.kIn J1 L nf (tryNe (by have := hr.units; omega) I.kIn J1 o.ne o.ob hm.at_ hm.fn ?_)
    refine wpAny_mono (run_in1 (vs := [V.ref p, y]) F hr hb passL I (.cons rfl (.cons ry .nil)) hs) (fun v s' z => ?_) fun _ _ z => z
    obtain ⟨z, H', I', r, b, rfl, q⟩ := z
    cases r
    exact ⟨b, rfl, .bl (!b), H', I', rfl, q⟩
theorem op_eqR (o : OpC X.K (He.ga X.K c)) (hm : Meth X.K (He.ga X.K c) "__eq__" f) (F : FnP X.prog X.w X.K X.mg X.base k f fd ps pf) (hr : Room (k + 1) X.A) (hb : Binds X.K fd ps []) (ne : Bool) : OpR X (compareOp (if ne = true then .NotEq else .Eq)) (rEqR X.K c pf ne) := by
  intro pins s σ H x y v u Q I rx ry h
  obtain ⟨J, gs, d, iy, ix, ⟨T, hT⟩, hs⟩ := h
  cases iy with
  | @ins p dx _ fs _ hp n t =>
  obtain ⟨h3, od, J1⟩ := ins_at I hp
  cases ry
  obtain ⟨m, hF⟩ := I.fr
  have tt := (typ_of I rx ix hT).1
  cases ne with
  | false =>
    show wpAny _ _ (richCompare .Eq v (.ref p)) _ _ _
    obtain ⟨id, S, D⟩ := decl_eq o I J1 h3 rx ix hT
    refine cmpRefl hr.units0 I.kIn J1 tt S D (o.no (bT_mem hT)) (tryOwn I.kIn J1 hm.at_ hm.fn ?_)
    refine wpAny_mono (run_fn (vs := [V.ref p, x]) F (hr.mono (Nat.le_succ k)) hb .nil passL I (.cons rfl (.cons rx .nil)) hs) (fun v s' z => ?_) fun _ _ z => z
    obtain ⟨z, H', I', r, b, rfl, q⟩ := z
    cases r
    exact ⟨(fun z => nomatch z), .bl b, H', I', rfl, q⟩
  | true =>
    show wpAny _ _ (richCompare .NotEq v (.ref p)) _ _ _
    obtain ⟨id, S, D⟩ := decl_ne o I J1 h3 rx ix hT
    refine cmpRefl hr.units0 I.kIn J1 tt S D (o.no (bT_mem hT)) (tryNe (by have := hr.units; omega) I.kIn J1 o.ne o.ob hm.at_ hm.fn ?_)
    refine wpAny_mono (run_in1 (vs := [V.ref p, x]) F hr hb passL I (.cons rfl (.cons rx .nil)) hs) (fun v s' z => ?_) fun _ _ z => z
    obtain ⟨z, H', I', r, b, rfl, q⟩ := z
    cases r
    exact ⟨b, rfl, .bl (!b), H', I', rfl, q⟩
def dEqL (c : Str) (pf : PF) (ne : Bool) : D → D → (D → Prop) → Prop := fun x y Φ => (∃ gs, x = .ins c gs) ∧ ((∃ hs, y = .ins c hs) ∨ ∃ T, bT y = some T) ∧ pf [x, y] (fun r => ∃ b, r = .bl b ∧ Φ (.bl (if ne = true then !b else b))) noX
def dEqR (c : Str) (pf : PF) (ne : Bool) : D → D → (D → Prop) → Prop := fun x y Φ => (∃ gs, y = .ins c gs) ∧ (∃ T, bT x = some T) ∧ pf [y, x] (fun r => ∃ b, r = .bl b ∧ Φ (.bl (if ne = true then !b else b))) noX
theorem rd_eqL {K : PySem.W.Frag} {ne : Bool} : RD K (rEqL K c pf ne) (dEqL c pf ne) := by
  intro J H0 H x y cc d Φ w hx hy h Q k
  obtain ⟨⟨gs, rfl⟩, ht, q⟩ := h
  refine ⟨J, gs, d, hx, hy, ht, spP_of (K := K) (vs := [x, y]) wok0 w (.cons hx (.cons hy .nil)) q fun z d2 H2 w2 i2 q2 => ?_⟩
  obtain ⟨b, rfl, q3⟩ := q2
  cases i2
  exact ⟨b, rfl, k _ _ H2 w2 (.bl _) q3⟩
theorem rd_eqR {K : PySem.W.Frag} {ne : Bool} : RD K (rEqR K c pf ne) (dEqR c pf ne) := by
  intro J H0 H x y cc d Φ w hx hy h Q k
  obtain ⟨⟨gs, rfl⟩, ht, q⟩ := h
  refine ⟨J, gs, cc, hy, hx, ht, spP_of (K := K) (vs := [y, x]) wok0 w (.cons hy (.cons hx .nil)) q fun z d2 H2 w2 i2 q2 => ?_⟩
  obtain ⟨b, rfl, q3⟩ := q2
  cases i2
  exact ⟨b, rfl, k _ _ H2 w2 (.bl _) q3⟩
end
end PL
set_option Elab.async false
set_option linter.all false
set_option maxRecDepth 100000
set_option maxHeartbeats 4000000
namespace PL
open PySem PySem.Spec PyProof.Rows L2 GX HX
section
variable {X : Cx} {J : Option Addr} {H0 : Hp} {k : Nat} {f : Addr} {fd : FuncData} {ps : List Str} {pf : PF} {c x : Str} {a b e o : Expr} {pa pb pe po : PEx} {pos p apos : Pos} {E : XK} {Ξ : Str → D → Prop}

/-! ### isinstance -/
/-- the class of a datum; cs: the own classes -/
def tyD (K : PySem.W.Frag) (cs : List Str) : D → Option Value
  | .dic => some (.type "dict")
  | .ins c _ => if c ∈ cs then some (.ref (He.ga K c)) else none
  | d => (bT d).map .type
theorem tyX_of {K : PySem.W.Frag} {H : Hp} {y : V} {d : D} {t : Value} {cs : List Str} (ic : ∀ c ∈ cs, C8.InsC K (He.ga K c)) (i : Is K J H y d) (ht : tyD K cs d = some t) : TyX K H y t := by
  cases i with
  | non => cases ht; exact .base .non
  | bl b => cases ht; exact .base (.bl _)
  | int b => cases ht; exact .base (.int _)
  | str b => cases ht; exact .base (.str _)
  | tup h n t =>
    cases ht
    rcases h with (h | ⟨ob, h⟩) | ⟨ob, its, m, h1, h2, _⟩
    · exact .base (.tup h)
    · exact .fTuple h
    · exact .kTuple h1 h2
  | lst h n t => cases ht; exact .base (.lst h)
  | dic h n => cases ht; exact .base (.dK h)
  | @ins a dx c' fs gs h n _ =>
    have ht : (if c' ∈ cs then some (Value.ref (He.ga K c')) else none) = some t := ht
    by_cases e : c' ∈ cs
    · rw [if_pos e] at ht
      cases ht
      have ic := ic c' e
      exact .base (.ins h ic.cl ic.ha ic.hn ic.htk ic.hm)
    · rw [if_neg e] at ht
      cases ht
  | jar h => cases ht
  | scr h n => cases ht
theorem q_isi {cls : Expr} {cv : V} {cu : Value} {g : D → Bool} {cs : List Str} (ic : ∀ c ∈ cs, C8.InsC X.K (He.ga X.K c)) (hm : X.mg "isinstance" = none) (hg : Gl X "isinstance") (hc : PE X cls (tC cv)) (kc : ClsV cv cu) (hk : ∀ d t, tyD X.K cs d = some t → PySem.W.kitOne X.K t cu = some (g d)) (he : QE X J H0 e pe)
    (h2 : starEach (e :: [cls]) X.env = (false, eval e X.env) :: starEach [cls] X.env := by rfl) (h3 : starEach [cls] X.env = (false, eval cls X.env) :: starEach [] X.env := by rfl) (hpl : (backTo pos (starEach [cls] X.env)).any (·.1) = false := by rfl) :
    QE X J H0 (.Call (.Name "isinstance" p) [e, cls] [] pos) (fun ρ Φ => pe ρ fun d => (tyD X.K cs d).isSome = true ∧ Φ (.bl (g d))) := by
  obtain ⟨te, h1, s1⟩ := he
  refine ⟨_, pe_callB call_isi hg hm (by decide +kernel) (pa_cons h1 (pa_cons hc pa_nil h3) h2) (by decide) (by decide) h2 hpl, fun ρ Φ h σ H w e Q k => s1 ρ _ h σ H w e _ fun v d H1 w1 i1 q1 => ?_⟩
  obtain ⟨hs, q⟩ := q1
  obtain ⟨t, ht⟩ := Option.isSome_iff_exists.mp hs
  exact ⟨v, cv, t, cu, g d, rfl, kc, tyX_of ic i1 ht, hk d t ht, k _ _ H1 w1 (.bl _) q⟩

/-! ### the written object -/
def pJarIx (po : PEx) : PEx := fun ρ Φ => po ρ fun d => d = .jar ∧ ∀ i : Int, Φ (.int i)
theorem q_jarIx {n : Int} {j pc} (h0 : 0 ≤ n) (h3 : n < 3) (ho : QE X J H0 o po) (hs : PlainIx (.Constant (.int n) j pc)) : QE X J H0 (.Subscript o (.Constant (.int n) j pc) pos) (pJarIx po) := by
  obtain ⟨to, h1, s1⟩ := ho
  refine ⟨_, pe_ix ix_list h1 pe_int hs, fun ρ Φ h σ H w e Q k => s1 ρ _ h σ H w e _ fun v d H1 w1 i1 q1 => ?_⟩
  obtain ⟨rfl, q⟩ := q1
  cases i1 with
  | jar hj =>
  obtain ⟨x, y, z, g⟩ := (w.trans w1).jr _ hj
  have n3 : n = 0 ∨ n = 1 ∨ n = 2 := by omega
  rcases n3 with rfl | rfl | rfl
  · exact ⟨_, _, _, .int x, rfl, rfl, SqL.of g, rfl, k _ _ H1 w1 (.int _) (q x)⟩
  · exact ⟨_, _, _, .int y, rfl, rfl, SqL.of g, rfl, k _ _ H1 w1 (.int _) (q y)⟩
  · exact ⟨_, _, _, .int z, rfl, rfl, SqL.of g, rfl, k _ _ H1 w1 (.int _) (q z)⟩
theorem jar_set {K : PySem.W.Frag} {H0 H : Hp} {j : Addr} {n i : Int} (w : Wr J H0 H) (hj : J = some j) (h0 : 0 ≤ n) (h3 : n < 3) : ∃ xs m, H j = some (.lst xs) ∧ ixN xs.length n = some m ∧ Wr J H (upd H j (.lst (xs.set m (.int i)))) := by
  obtain ⟨x, y, z, g⟩ := w.jr _ hj
  have n3 : n = 0 ∨ n = 1 ∨ n = 2 := by omega
  have wr : ∀ p q r : Int, Wr J H (upd H j (.lst [.int p, .int q, .int r])) := fun p q r => by
    refine ⟨fun b o nb hb => ?_, fun j' hj' => ?_⟩
    · rw [upd_ne (fun e => nb (by rw [hj, e]))]
      exact hb
    · rw [hj] at hj'
      cases hj'
      exact ⟨p, q, r, upd_same⟩
  rcases n3 with rfl | rfl | rfl
  · exact ⟨_, 0, g, rfl, wr _ _ _⟩
  · exact ⟨_, 1, g, rfl, wr _ _ _⟩
  · exact ⟨_, 2, g, rfl, wr _ _ _⟩
/-- jar[n] = e -/
def pJarSet (po pe : PEx) : PSx := fun ρ N R => pe ρ fun d => ∃ i, d = .int i ∧ po ρ fun c => c = .jar ∧ N ρ
theorem qs_jarSet {n : Int} {j pc ps'} (h0 : 0 ≤ n) (h3 : n < 3) (ho : QE X J H0 o po) (he : QE X J H0 e pe)
    (ha : ∀ v, assign (.Subscript o (.Constant (.int n) j pc) ps') X.env v = (do
      let ov ← holding [v] (eval o X.env)
      let iv ← holding [v, ov] (eval (.Constant (.int n) j pc) X.env)
      standAt ps'
      holding [v, ov, iv] (setItem ov iv v)
      release [v, ov, iv] []) := by intro _; rfl)
    (hs : swapsWithSole [.Subscript o (.Constant (.int n) j pc) ps'] e pos.line X.env = pure false := by rfl) (hw : swappedStores [.Subscript o (.Constant (.int n) j pc) ps'] e X.env = pure none := by rfl)
    (h1 : (assignEach [.Subscript o (.Constant (.int n) j pc) ps'] X.env).map (·.2) = [assign (.Subscript o (.Constant (.int n) j pc) ps') X.env] := by rfl) : QS X J H0 (.Assign [.Subscript o (.Constant (.int n) j pc) ps'] e pos) (pJarSet po pe) := by
  obtain ⟨te, a1, s1⟩ := he
  obtain ⟨to, a2, s2⟩ := ho
  refine ⟨_, ps_asg a1 (pg_sub a2 pe_int set_list ha) hs hw h1, fun ρ N R h σ H w e Dn kn kr => s1 ρ _ h σ H w e _ fun v d H1 w1 i1 q1 => ?_⟩
  obtain ⟨i, rfl, q⟩ := q1
  cases i1
  refine s2 ρ _ q σ H1 (w.trans w1) (e.mono w1) _ fun v d H2 w2 i2 q2 => ?_
  obtain ⟨rfl, q3⟩ := q2
  cases i2 with
  | jar hj =>
  obtain ⟨xs, m, g, hm, wr⟩ := jar_set (K := X.K) (i := i) (w.trans (w1.trans w2)) hj h0 h3
  exact ⟨_, xs, n, m, rfl, rfl, g, hm, kn σ ρ _ (w1.trans (w2.trans wr)) (((e.mono w1).mono w2).mono wr) q3⟩
/-- jar[n], x = e -/
theorem qs_jarPair {n : Int} {j pc ps' px pt kt} {i : Nat} (h0 : 0 ≤ n) (h3 : n < 3) (hc : X.calm = true) (ho : QE X J H0 o po) (hN : X.N.Nodup) (hi : X.N[i]? = some x) (hx : Loc X.env.scope x) (he : QE X J H0 e pe)
    (ha : ∀ v, assign (.Subscript o (.Constant (.int n) j pc) ps') X.env v = (do
      let ov ← holding [v] (eval o X.env)
      let iv ← holding [v, ov] (eval (.Constant (.int n) j pc) X.env)
      standAt ps'
      holding [v, ov, iv] (setItem ov iv v)
      release [v, ov, iv] []) := by intro _; rfl)
    (hf : X.fn x = true ∨ X.env.scope.names.lookup x = some .local := by first | exact .inl rfl | exact .inr rfl | assumption)
    (g1 : (assignEach [.Name x px] X.env).map (·.2) = assign (.Name x px) X.env :: (assignEach [] X.env).map (·.2) := by rfl)
    (g2 : (assignEach [.Subscript o (.Constant (.int n) j pc) ps', .Name x px] X.env).map (·.2) = assign (.Subscript o (.Constant (.int n) j pc) ps') X.env :: (assignEach [.Name x px] X.env).map (·.2) := by rfl)
    (hn : (assignEach [.Subscript o (.Constant (.int n) j pc) ps', .Name x px] X.env).length = 2 := by rfl) (hst : (assignEach [.Subscript o (.Constant (.int n) j pc) ps', .Name x px] X.env).findIdx? (·.1) = none := by rfl)
    (hs : swapsWithSole [.Tuple [.Subscript o (.Constant (.int n) j pc) ps', .Name x px] kt pt] e pos.line X.env = pure false := by rfl) (hw : swappedStores [.Tuple [.Subscript o (.Constant (.int n) j pc) ps', .Name x px] kt pt] e X.env = pure none := by rfl)
    (h1 : (assignEach [.Tuple [.Subscript o (.Constant (.int n) j pc) ps', .Name x px] kt pt] X.env).map (·.2) = [assign (.Tuple [.Subscript o (.Constant (.int n) j pc) ps', .Name x px] kt pt) X.env] := by rfl) :
    QS X J H0 (.Assign [.Tuple [.Subscript o (.Constant (.int n) j pc) ps', .Name x px] kt pt] e pos) (fun ρ N R => pe ρ fun d => ∃ (q : Int) (y : D), d = .tup [.int q, y] ∧ po ρ fun c => c = .jar ∧ N (ρ.set i (some y))) := by
  obtain ⟨te, a1, s1⟩ := he
  obtain ⟨to, a2, s2⟩ := ho
  refine ⟨_, ps_asg a1 (pg_tup hc (pgs_cons (pg_sub a2 pe_int set_list ha) (pgs_cons (pg_name hN hi hx hf) pgs_nil g1) g2) hn hst) hs hw h1, fun ρ N R h σ H w e Dn kn kr => s1 ρ _ h σ H w e _ fun v d H1 w1 i1 q1 => ?_⟩
  obtain ⟨q, y, rfl, hq⟩ := q1
  cases i1 with
  | tup ht nt tt =>
  obtain ⟨v1, v2, rfl, i2, i3⟩ := tt.inv2
  cases i2
  refine ⟨_, _, rfl, ht, rfl, _, _, rfl, s2 ρ _ hq σ H1 (w.trans w1) (e.mono w1) _ fun v d H2 w2 i4 q2 => ?_⟩
  obtain ⟨rfl, q3⟩ := q2
  cases i4 with
  | jar hj =>
  obtain ⟨xs, m, g, hm, wr⟩ := jar_set (K := X.K) (i := q) (w.trans (w1.trans w2)) hj h0 h3
  exact ⟨_, xs, n, m, rfl, rfl, g, hm, v2, [], rfl, rfl, kn _ _ _ (w1.trans (w2.trans wr)) ((((e.mono w1).mono w2).mono wr).set ((i3.mono w2).mono wr) i) q3⟩

/-! ### by name -/
theorem pk_of {kn : Option Str} {te : TE} {kp} (h : PE X e te) : PK X [⟨kn, e, kp⟩] (tCons te tNil) := pk_cons h pk_nil
/-- the callee runs with one argument by name behind those in front -/
theorem run_kw {kn : Str} {pins : List (Addr × Obj)} {σ : L2.St} {H : Hp} {s : Shared} {Q : VK} {us : List Value} {vs : List V} {u : Value} {v : V} (F : FnP X.prog X.w X.K X.mg X.base k f fd ps pf) (hr : Room k X.A) (hb : ∀ (s : Shared) (us : List Value) (u : Value), X.K.In s.heap → us.length + 1 = ps.length → BindsTo s fd ⟨us, [(kn, u)]⟩ (ps.zip (us ++ [u])))
    (hx : Passes (L2.CX X.prog X.w) X E) (I : Inv X pins σ H s) (r : Vals vs us) (r1 : RelV v u) (h : spP X.K pf (vs ++ [v]) H Q E) : wpAny (model X.prog X.w) X.A (call (.ref f) us [(kn, u)]) (EP X pins σ Q) X.xe s := by
  have r2 : Vals (vs ++ [v]) (us ++ [u]) := r.append (.cons r1 .nil)
  have hl : us.length + 1 = ps.length := by
    have := r2.length
    rw [F.len _ _ _ _ h, List.length_append] at this
    exact this.symm
  refine wpAny_call (codeAny_mono (F.run X.A X.stack s H ⟨us, [(kn, u)]⟩ (us ++ [u]) (vs ++ [v]) Q E hr I.env0 (hb s us u I.kIn hl) r2 h) fun r s' hq => ?_)
  cases r with
  | error e => exact hx pins σ H s e s' I hq
  | ok fl =>
    cases fl with
    | ret u => exact I.after hq
    | next => exact False.elim hq
    | brk => exact False.elim hq
    | cont => exact False.elim hq
/-- f(k = e) -/
theorem q_callKX {kn : Str} {kp} (F : FnP X.prog X.w X.K X.mg X.base k f fd ps pf) (hr : Room k X.A) (hg : Gl X x) (hm : X.mg x = some (.ref f)) (hk : PySem.W.keepIn X.K (.ref f) = true) (hb : ∀ (s : Shared) (us : List Value) (u : Value), X.K.In s.heap → us.length + 1 = ps.length → BindsTo s fd ⟨us, [(kn, u)]⟩ (ps.zip (us ++ [u])))
    (hx : Passes (L2.CX X.prog X.w) X E) (wok : WOk X.K J H0 E Ξ) (he : QE X J H0 e pe) (hall : (backToKw pos (keywordEach [⟨some kn, e, kp⟩] X.env)).all (·.1.isSome) = true := by rfl) (hks : (backToKw pos (keywordEach [⟨some kn, e, kp⟩] X.env)).filterMap (·.1) = [kn] := by rfl)
    (hdb : (x == ("__debug__" : Str)) = false := by decide) (hpl : ((backTo pos (starEach [] X.env)).any (·.1) || (backToKw pos (keywordEach [⟨some kn, e, kp⟩] X.env)).any (·.1.isNone)) = false := by rfl) :
    QE X J H0 (.Call (.Name x p) [] [⟨some kn, e, kp⟩] pos) (pCall pf Ξ (pCons pe pNil)) := by
  obtain ⟨te, h1, s1⟩ := he
  refine ⟨fun σ H Q => tCons te tNil σ H fun vs H1 => ∃ v, vs = [v] ∧ spP X.K pf ([] ++ [v]) H1 Q E, ⟨fun pins s σ H Q I h => wpAny_Call_Name_kw (ld_glob I hg hm ?_ hdb)⟩, fun ρ Φ h σ H w e Q k => s1 ρ _ h σ H w e _ fun v d H1 w1 i1 q1 => ⟨v, rfl, ?_⟩⟩
  · refine PySem.W.callWith_KW0 (h₀ := X.base) I.ok.mod.kin hk hall (thn ((pk_of h1).run pos pins s σ H _ I h) (fun us s1 hh => ?_)) hpl
    obtain ⟨vs, H1, I1, r1, v, rfl, q1⟩ := hh
    obtain ⟨u, rfl, ru⟩ := Vals.one r1
    refine ⟨I1.kIn, ?_⟩
    rw [hks]
    exact run_kw (us := []) (vs := []) F hr hb hx I1 .nil ru q1
  · have := spP_of (E := E) (Q := Q) (K := X.K) (vs := [v]) wok (w.trans w1) (.cons i1 .nil) q1 fun z b H2 w2 i2 q2 => k z b H2 (w1.trans w2) i2 q2
    rw [List.append_nil] at this
    exact this
/-- o.m(k = e) -/
theorem q_methKX {m kn : Str} {kp} {pl : Sem Bool} (c0 : Cls X.K (He.ga X.K c)) (hm : Meth X.K (He.ga X.K c) m f) (F : FnP X.prog X.w X.K X.mg X.base k f fd ps pf) (hr : Room k X.A) (hb : ∀ (s : Shared) (us : List Value) (u : Value), X.K.In s.heap → us.length + 1 = ps.length → BindsTo s fd ⟨us, [(kn, u)]⟩ (ps.zip (us ++ [u])))
    (hx : Passes (L2.CX X.prog X.w) X E) (wok : WOk X.K J H0 E Ξ) (ho : QE X J H0 o po) (he : QE X J H0 e pe) (hall : (backToKw pos (keywordEach [⟨some kn, e, kp⟩] X.env)).all (·.1.isSome) = true := by rfl) (hks : (backToKw pos (keywordEach [⟨some kn, e, kp⟩] X.env)).filterMap (·.1) = [kn] := by rfl)
    (hpl : ((backTo pos (starEach [] X.env)).any (·.1) || (backToKw pos (keywordEach [⟨some kn, e, kp⟩] X.env)).any (·.1.isNone)) = false := by rfl)
    (ht : eval (.Call (.Attribute o m apos) [] [⟨some kn, e, kp⟩] pos) X.env = (do
      let ov ← eval o X.env
      standAt apos.atName
      let (f, first) ← holding [ov] (getMethod ov m pl)
      callWith pos f first (backTo pos (starEach [] X.env)) (backToKw pos (keywordEach [⟨some kn, e, kp⟩] X.env))) := by rfl) :
    QE X J H0 (.Call (.Attribute o m apos) [] [⟨some kn, e, kp⟩] pos) (pMeth c m pf Ξ po (pCons pe pNil)) := by
  obtain ⟨te, h1, s1⟩ := he
  obtain ⟨to, h2, s2⟩ := ho
  refine ⟨fun σ H Q => to σ H fun x H1 => ∃ a dx fs, x = .ref a ∧ H1 a = some (.ins (He.ga X.K c) dx fs) ∧ fs.lookup m = none ∧ tCons te tNil σ H1 fun vs H2 => ∃ v, vs = [v] ∧ spP X.K pf ([x] ++ [v]) H2 Q E, ⟨fun pins s σ H Q I h => ?_⟩, fun ρ Φ h σ H w e Q k => s2 ρ _ h σ H w e _ fun v d H1 w1 i1 q1 => ?_⟩
  · refine PySem.W.methodCall_KW (pl := pl) (thn (h2.run pins s σ H _ I h) fun u s1 hh => ?_) ht
    obtain ⟨x, H1, I1, rx, a, dx, fs, rfl, ea, l, q⟩ := hh
    cases rx
    refine getmeth_ok I1 ea c0 hm l ?_
    refine PySem.W.callWith_KW0 (first := [.ref a]) (h₀ := X.base) I.ok.mod.kin hm.kp hall (thn ((pk_of h1).run pos pins s1 σ H1 _ I1 q) (fun us s2 hh => ?_)) hpl
    obtain ⟨vs, H2, I2, r1, v, rfl, q1⟩ := hh
    obtain ⟨u, rfl, ru⟩ := Vals.one r1
    refine ⟨I2.kIn, ?_⟩
    rw [hks]
    exact run_kw (us := [.ref a]) (vs := [.ref a]) F hr hb hx I2 (.cons rfl .nil) ru q1
  · obtain ⟨gs, rfl, hl, q⟩ := q1
    cases id i1 with
    | ins ha hn hf =>
    refine ⟨_, _, _, rfl, ha, hf.none hl, s1 ρ _ q σ H1 (w.trans w1) (e.mono w1) _ fun v d H2 w2 i2 q2 => ⟨v, rfl, ?_⟩⟩
    have := spP_of (E := E) (Q := Q) (K := X.K) (vs := [_, v]) wok (w.trans (w1.trans w2)) (.cons (i1.mono w2) (.cons i2 .nil)) q2 fun z b H3 w3 i3 q3 => k z b H3 (w1.trans (w2.trans w3)) i3 q3
    rw [List.append_nil] at this
    exact this

/-! ### C.m(e), a static method -/
structure SMet (K : PySem.W.Frag) (C : Addr) (mc : Value) (m : Str) (p g : Addr) : Prop where
  rd : PySem.W.readsIn K C mc = true
  ga : PySem.W.specialIn K (.ref C) "__getattribute__" = some (some (.builtin "type.__getattribute__"))
  at_ : PySem.W.findCls K (.ref C) mc m = some (.get (.builtin "staticmethod.__get__") (.ref p) .none (.ref C))
  rc : ∃ rest, PySem.W.recIn K p "staticmethod" = some (.ref g :: rest)
  kp : PySem.W.keepIn K (.ref g) = true
theorem getsm_ok {pins : List (Addr × Obj)} {σ : L2.St} {H : Hp} {s : Shared} {C q g : Addr} {mc : Value} {m : Str} {pl : Sem Bool} {Q : Value × List Value → Shared → Prop} {A : Around} {E : Value → Shared → Prop} (I : Inv X pins σ H s) (r : SMet X.K C mc m q g) (h : ∀ s', Inv X pins σ H s' → Q (.ref g, []) s') :
    wpAny (model X.prog X.w) A (getMethod (.ref C) m pl) Q E s := by
  obtain ⟨rest, hp⟩ := r.rc
  refine PySem.W.method_cls I.kIn r.ga ?_
  refine PySem.W.cls_bind I.kIn r.rd r.at_ ?_
  exact wpAny_call (PySem.W.sm_get (s := { s with toks := s.toks + 1 }) I.kIn hp (PySem.W.handed_on rfl (h _ (I.tok _))))
theorem q_smX {m : Str} {C q : Addr} {mc : Value} {pl : Sem Bool} (r : SMet X.K C mc m q f) (F : FnP X.prog X.w X.K X.mg X.base k f fd ps pf) (hr : Room k X.A) (hb : Binds X.K fd ps []) (hx : Passes (L2.CX X.prog X.w) X E) (wok : WOk X.K J H0 E Ξ) (hg : Gl X x) (hmg : X.mg x = some (.ref C)) (he : QE X J H0 e pe)
    (hdb : (x == ("__debug__" : Str)) = false := by decide) (hst : starEach [e] X.env = (false, eval e X.env) :: starEach [] X.env := by rfl) (hpl : (backTo pos (starEach [] X.env)).any (·.1) = false := by rfl)
    (ht : eval (.Call (.Attribute (.Name x p) m apos) [e] [] pos) X.env = (do
      let ov ← eval (.Name x p) X.env
      standAt apos.atName
      let (f, first) ← holding [ov] (getMethod ov m pl)
      callWith pos f first (backTo pos (starEach [e] X.env)) (backToKw pos (keywordEach [] X.env))) := by rfl) :
    QE X J H0 (.Call (.Attribute (.Name x p) m apos) [e] [] pos) (pCall pf Ξ (pCons pe pNil)) := by
  obtain ⟨te, h1, s1⟩ := he
  refine ⟨fun σ H Q => tCons te tNil σ H fun vs H1 => spP X.K pf (vs ++ []) H1 Q E, ⟨fun pins s σ H Q I h => ?_⟩, fun ρ Φ h σ H w e Q k => s1 ρ _ h σ H w e _ fun v d H1 w1 i1 q1 => ?_⟩
  · refine PySem.W.methodCall_KW (pl := pl) (ld_glob I hg hmg ?_ hdb) ht
    refine getsm_ok I r fun s' I' => ?_
    refine PySem.W.callWith_K (h₀ := X.base) I.ok.mod.kin r.kp (thn ((pa_cons h1 pa_nil hst).run pos pins s' σ H _ I' h) fun us s2 hh => ?_) hst hpl
    obtain ⟨vs, H2, I2, rv, q2⟩ := hh
    exact ⟨I2.kIn, run_fn F hr hb .nil hx I2 rv q2⟩
  · exact spP_of (E := E) (Q := Q) (K := X.K) (vs := [v]) wok (w.trans w1) (.cons i1 .nil) q1 fun z b H2 w2 i2 q2 => k z b H2 (w1.trans w2) i2 q2
theorem q_smKX {m kn : Str} {kp} {C q : Addr} {mc : Value} {pl : Sem Bool} (r : SMet X.K C mc m q f) (F : FnP X.prog X.w X.K X.mg X.base k f fd ps pf) (hr : Room k X.A) (hb : ∀ (s : Shared) (us : List Value) (u : Value), X.K.In s.heap → us.length + 1 = ps.length → BindsTo s fd ⟨us, [(kn, u)]⟩ (ps.zip (us ++ [u])))
    (hx : Passes (L2.CX X.prog X.w) X E) (wok : WOk X.K J H0 E Ξ) (hg : Gl X x) (hmg : X.mg x = some (.ref C)) (he : QE X J H0 e pe) (hall : (backToKw pos (keywordEach [⟨some kn, e, kp⟩] X.env)).all (·.1.isSome) = true := by rfl) (hks : (backToKw pos (keywordEach [⟨some kn, e, kp⟩] X.env)).filterMap (·.1) = [kn] := by rfl)
    (hdb : (x == ("__debug__" : Str)) = false := by decide) (hpl : ((backTo pos (starEach [] X.env)).any (·.1) || (backToKw pos (keywordEach [⟨some kn, e, kp⟩] X.env)).any (·.1.isNone)) = false := by rfl)
    (ht : eval (.Call (.Attribute (.Name x p) m apos) [] [⟨some kn, e, kp⟩] pos) X.env = (do
      let ov ← eval (.Name x p) X.env
      standAt apos.atName
      let (f, first) ← holding [ov] (getMethod ov m pl)
      callWith pos f first (backTo pos (starEach [] X.env)) (backToKw pos (keywordEach [⟨some kn, e, kp⟩] X.env))) := by rfl) :
    QE X J H0 (.Call (.Attribute (.Name x p) m apos) [] [⟨some kn, e, kp⟩] pos) (pCall pf Ξ (pCons pe pNil)) := by
  obtain ⟨te, h1, s1⟩ := he
  refine ⟨fun σ H Q => tCons te tNil σ H fun vs H1 => ∃ v, vs = [v] ∧ spP X.K pf ([] ++ [v]) H1 Q E, ⟨fun pins s σ H Q I h => ?_⟩, fun ρ Φ h σ H w e Q k => s1 ρ _ h σ H w e _ fun v d H1 w1 i1 q1 => ⟨v, rfl, ?_⟩⟩
  · refine PySem.W.methodCall_KW (pl := pl) (ld_glob I hg hmg ?_ hdb) ht
    refine getsm_ok I r fun s' I' => ?_
    refine PySem.W.callWith_KW0 (h₀ := X.base) I.ok.mod.kin r.kp hall (thn ((pk_of h1).run pos pins s' σ H _ I' h) (fun us s1 hh => ?_)) hpl
    obtain ⟨vs, H1, I1, r1, v, rfl, q1⟩ := hh
    obtain ⟨u, rfl, ru⟩ := Vals.one r1
    refine ⟨I1.kIn, ?_⟩
    rw [hks]
    exact run_kw (us := []) (vs := []) F hr hb hx I1 .nil ru q1
  · have := spP_of (E := E) (Q := Q) (K := X.K) (vs := [v]) wok (w.trans w1) (.cons i1 .nil) q1 fun z b H2 w2 i2 q2 => k z b H2 (w1.trans w2) i2 q2
    rw [List.append_nil] at this
    exact this
end
end PL
set_option Elab.async false
set_option linter.all false
set_option maxRecDepth 100000
set_option maxHeartbeats 4000000
/-! ### errors that keep what they are given: __init__ by its form -/
namespace HX
open PySem PySem.Spec PyProof.Rows L2 GX

def isSet (st : Stmt) (f : Str) : Bool := match st with
  | .Assign [.Attribute (.Name s _) g _] (.Name h _) _ => s == "self" && (g == f && h == f)
  | _ => false
theorem isSet_ok {st : Stmt} {f : Str} (h : isSet st f = true) : ∃ p1 p2 p3 p4, st = .Assign [.Attribute (.Name "self" p1) f p2] (.Name f p3) p4 := by
  unfold isSet at h
  split at h
  · obtain ⟨h1, h⟩ := ba h
    obtain ⟨h2, h3⟩ := ba h
    rw [beq_iff_eq.mp h1, beq_iff_eq.mp h2, beq_iff_eq.mp h3]
    exact ⟨_, _, _, _, rfl⟩
  · cases h
def bodyB (b : List Stmt) (fl : List Str) : Bool := match fl, b with
  | [f], [s] => isSet s f
  | [f, g], [s, t] => isSet s f && isSet t g
  | _, _ => false
def arg1B (A : Arguments) (f : Str) : Bool := match A with
  | ⟨[], [⟨s, none, _⟩, ⟨g, none, _⟩], none, [], [], none, []⟩ => s == "self" && g == f
  | _ => false
def arg2B (A : Arguments) (f g : Str) : Bool := match A with
  | ⟨[], [⟨s, none, _⟩, ⟨f', none, _⟩, ⟨g', none, _⟩], none, [], [], none, []⟩ => s == "self" && (f' == f && g' == g)
  | _ => false
theorem arg1_ok {A : Arguments} {f : Str} (h : arg1B A f = true) : ∃ p1 p2, A = ⟨[], [⟨"self", none, p1⟩, ⟨f, none, p2⟩], none, [], [], none, []⟩ := by
  unfold arg1B at h
  split at h
  · obtain ⟨h1, h2⟩ := ba h
    rw [beq_iff_eq.mp h1, beq_iff_eq.mp h2]
    exact ⟨_, _, rfl⟩
  · cases h
theorem arg2_ok {A : Arguments} {f g : Str} (h : arg2B A f g = true) : ∃ p1 p2 p3, A = ⟨[], [⟨"self", none, p1⟩, ⟨f, none, p2⟩, ⟨g, none, p3⟩], none, [], [], none, []⟩ := by
  unfold arg2B at h
  split at h
  · obtain ⟨h1, h2⟩ := ba h
    obtain ⟨h3, h4⟩ := ba h2
    rw [beq_iff_eq.mp h1, beq_iff_eq.mp h3, beq_iff_eq.mp h4]
    exact ⟨_, _, _, rfl⟩
  · cases h
def argsC (A : Arguments) (fl : List Str) : Bool := match fl with
  | [f] => arg1B A f
  | [f, g] => arg2B A f g
  | _ => false
def scB (sc : Scope) (N : List Str) : Bool := decide (sc.kind = .function) && (!sc.isCoroutine && (!sc.isGenerator && (decide N.Nodup && (N.all (fun x => decide (sc.names.lookup x = some .local)) && sc.names.all fun y => decide (y.2 ≠ .free)))))
theorem sc_ok {sc : Scope} {N : List Str} (h : scB sc N = true) : FnScope N N sc ∧ ∀ x ∈ N, sc.names.lookup x = some .local := by
  obtain ⟨h1, h⟩ := ba h
  obtain ⟨h2, h⟩ := ba h
  obtain ⟨h3, h⟩ := ba h
  obtain ⟨h4, h⟩ := ba h
  obtain ⟨h5, h6⟩ := ba h
  have loc : ∀ x ∈ N, sc.names.lookup x = some .local := fun x hx => of_decide_eq_true (List.all_eq_true.mp h5 x hx)
  exact ⟨⟨of_decide_eq_true h1, by simpa using h2, by simpa using h3, of_decide_eq_true h4, List.take_length, fun x hx => .inl (loc x hx), fun y hy => of_decide_eq_true (List.all_eq_true.mp h6 y hy)⟩, loc⟩
def plainName (f : Str) : Bool := (f == ("__debug__" : Str)) == false && (f == ("__classdict__" : Str)) == false
def initB (st : Stmt) (fl : List Str) : Bool := bodyB (defBody st) fl && (argsC (defArgs st) fl && (scB (defScope st) ("self" :: fl) && fl.all plainName))

/-- the promise of such an __init__: the fields are kept, the last one first -/
def spI (C : Addr) (fl : List Str) : Sp := fun vs H Q _ => ∃ (a : Addr) (ws : List V), vs = .ref a :: ws ∧ ws.length = fl.length ∧ H a = some (exo a C none) ∧
  ∀ (d : Addr) (H' : Hp), H d = none → H' a = some (exo a C (some d)) → H' d = some (exd d (fl.zip ws).reverse) → (∀ b o, b ≠ a → H b = some o → H' b = some o) → Q .non H'
section
variable {P : Program} {w : World} {K : PySem.W.Frag} {mg : Str → Option Value} {base : Heap}
theorem pvs {X : Cx} (i : Nat) {x : Str} {pos : Pos} (hN : X.N[i]? = some x) (hl : X.env.scope.names.lookup x = some .local) (hp : plainName x = true) : PE X (.Name x pos) (tVar i) := by
  obtain ⟨h1, h2⟩ := ba hp
  exact pe_var hN (.inl hl) (beq_iff_eq.mp h1) (beq_iff_eq.mp h2)
theorem ok_init {q : Str} {st : Stmt} {f C : Addr} {fd : FuncData} {fl : List Str} (F : Fun K "__init__" q st f fd) (hB : initB st fl = true) (T : ∃ tl n, ExC K tl n C ∧ TlOk tl) (hno : ∀ g ∈ fl, PySem.W.findIn K (.ref C) g = some none) :
    FnOk P w K mg base CX0 1 f fd ("self" :: fl) (spI C fl) := by
  obtain ⟨hb, k1⟩ := ba hB
  obtain ⟨k2, k3⟩ := ba k1
  obtain ⟨hs, hpn⟩ := ba k3
  clear k1 k2 k3
  obtain ⟨S, loc⟩ := sc_ok hs
  have pself : plainName "self" = true := by decide +kernel
  refine F.ok S (fun vs H Q E h => ?_) (fun cdv A outer s H vs Q E hr h => ?_)
  · obtain ⟨a, ws, rfl, hl, _⟩ := h
    show ws.length + 1 = fl.length + 1
    rw [hl]
  · obtain ⟨a, ws, rfl, hl, ha, k⟩ := h
    unfold bodyB at hb
    split at hb
    · rename_i g s1 heq
      obtain ⟨p1, p2, p3, p4, rfl⟩ := isSet_ok hb
      rw [heq]
      have pg : plainName g = true := List.all_eq_true.mp hpn g (List.mem_cons_self ..)
      obtain ⟨v, rfl⟩ : ∃ v, ws = [v] := by
        match ws, hl with
        | [v], _ => exact ⟨v, rfl⟩
      refine ⟨_, pss_one (ps_ste (pvs 0 rfl (loc _ (List.mem_cons_self ..)) pself) (pvs 1 rfl (loc _ (List.mem_cons_of_mem _ (List.mem_cons_self ..))) pg)), ?_⟩
      refine ⟨_, rfl, _, rfl, a, C, rfl, T, hno g (List.mem_cons_self ..), .inl ⟨ha, fun d hd hda => ?_⟩⟩
      refine k d _ hd upd_same ((upd_ne hda).trans upd_same) (fun b o hb hbo => ?_)
      rw [upd_ne hb, upd_ne (ne_of_none hbo hd)]
      exact hbo
    · rename_i g g2 s1 s2 heq
      obtain ⟨hb1, hb2⟩ := ba hb
      obtain ⟨p1, p2, p3, p4, rfl⟩ := isSet_ok hb1
      obtain ⟨q1, q2, q3, q4, rfl⟩ := isSet_ok hb2
      rw [heq]
      have pg : plainName g = true := List.all_eq_true.mp hpn g (List.mem_cons_self ..)
      have pg2 : plainName g2 = true := List.all_eq_true.mp hpn g2 (List.mem_cons_of_mem _ (List.mem_cons_self ..))
      obtain ⟨v, u, rfl⟩ : ∃ v u, ws = [v, u] := by
        match ws, hl with
        | [v, u], _ => exact ⟨v, u, rfl⟩
      refine ⟨_, pss_cons (ps_ste (pvs 0 rfl (loc _ (List.mem_cons_self ..)) pself) (pvs 1 rfl (loc _ (List.mem_cons_of_mem _ (List.mem_cons_self ..))) pg))
        (pss_one (ps_ste (pvs 0 rfl (loc _ (List.mem_cons_self ..)) pself) (pvs 2 rfl (loc _ (List.mem_cons_of_mem _ (List.mem_cons_of_mem _ (List.mem_cons_self ..)))) pg2))), ?_⟩
      refine ⟨_, rfl, _, rfl, a, C, rfl, T, hno g (List.mem_cons_self ..), .inl ⟨ha, fun d hd hda => ?_⟩⟩
      refine ⟨_, rfl, _, rfl, a, C, rfl, T, hno g2 (List.mem_cons_of_mem _ (List.mem_cons_self ..)), .inr ⟨d, _, upd_same, (upd_ne hda).trans upd_same, by show 1 ≤ 900; decide, ?_⟩⟩
      refine k d _ hd ((upd_ne (Ne.symm hda)).trans upd_same) upd_same (fun b o hb hbo => ?_)
      rw [upd_ne (ne_of_none hbo hd), upd_ne hb, upd_ne (ne_of_none hbo hd)]
      exact hbo
    · cases hb
/-- which fields there are -/
def fls : List (List Str) := [[("given" : Str)], [("index" : Str)], [("kind" : Str)], [("shape" : Str)], [("kind" : Str), ("other" : Str)], [("shape" : Str), ("other" : Str)]]
theorem fls_in {fl : List Str} (h : fl ∈ fls) : fl = [("given" : Str)] ∨ fl = [("index" : Str)] ∨ fl = [("kind" : Str)] ∨ fl = [("shape" : Str)] ∨ fl = [("kind" : Str), ("other" : Str)] ∨ fl = [("shape" : Str), ("other" : Str)] := by
  unfold fls at h
  simp only [List.mem_cons, List.not_mem_nil, or_false] at h
  exact h
theorem args_one {st : Stmt} {f : Str} (hB : initB st [f] = true) : ∃ p1 p2, defArgs st = ⟨[], [⟨"self", none, p1⟩, ⟨f, none, p2⟩], none, [], [], none, []⟩ := by
  obtain ⟨k1, k2⟩ := ba hB
  obtain ⟨ha, k3⟩ := ba k2
  exact arg1_ok ha
theorem args_two {st : Stmt} {f g : Str} (hB : initB st [f, g] = true) : ∃ p1 p2 p3, defArgs st = ⟨[], [⟨"self", none, p1⟩, ⟨f, none, p2⟩, ⟨g, none, p3⟩], none, [], [], none, []⟩ := by
  obtain ⟨k1, k2⟩ := ba hB
  obtain ⟨ha, k3⟩ := ba k2
  exact arg2_ok ha
/-- by places -/
theorem bind_init {q : Str} {st : Stmt} {f : Addr} {fd : FuncData} {fl : List Str} (F : Fun K "__init__" q st f fd) (hB : initB st fl = true) (hf : fl ∈ fls) : Binds K fd ("self" :: fl) [] := by
  refine F.binds fun kV doc pm an cdv ct us hl => ?_
  rcases fls_in hf with rfl | rfl | rfl | rfl | rfl | rfl
  iterate 4
    · obtain ⟨p1, p2, e⟩ := args_one hB
      rw [e]
      match us, hl with
      | [_, _], _ => rfl
  iterate 2
    · obtain ⟨p1, p2, p3, e⟩ := args_two hB
      rw [e]
      match us, hl with
      | [_, _, _], _ => rfl
/-- by names; of two the second one first -/
theorem bindK_init {q : Str} {st : Stmt} {f : Addr} {fd : FuncData} {fl : List Str} (F : Fun K "__init__" q st f fd) (hB : initB st fl = true) (hf : fl ∈ fls)
    (s : Shared) (a : Addr) (ws : List Value) (hn : ws.length = fl.length) : BindsTo s fd ⟨[.ref a], fl.reverse.zip ws⟩ ((("self" : Str) :: fl).zip (.ref a :: ws.reverse)) := by
  obtain ⟨oc, od, kV, doc, pm, an, cdv, ct, osl, rfl, lk, hcd⟩ := F.ex
  rcases fls_in hf with rfl | rfl | rfl | rfl | rfl | rfl
  iterate 4
    · obtain ⟨p1, p2, e⟩ := args_one hB
      rw [e]
      match ws, hn with
      | [_], _ => exact .of_eq rfl
  iterate 2
    · obtain ⟨p1, p2, p3, e⟩ := args_two hB
      rw [e]
      match ws, hn with
      | [_, _], _ => exact .of_eq rfl
end
end HX
set_option Elab.async false
set_option linter.all false
set_option maxRecDepth 100000
set_option maxHeartbeats 4000000
/-! ### several clauses 'except x as n' -/
namespace HX
open PySem PySem.Spec PyProof.Rows L2 GX
theorem same_new {H : Hp} {p : Addr} {o : HO} (h : H p = none) : Same H (upd H p o) := fun c u e => by
  rw [upd_ne (ne_of_none e h)]
  exact e
structure MkF (K : PySem.W.Frag) (c : Ci) (st : Stmt) : Prop where
  fn : ∃ fd, Fun K "__init__" (c.nm ++ ".__init__") st (He.ma K (ga K c.nm) "__init__") fd
  bo : initB st c.fl = true
  fl : c.fl ∈ fls
abbrev Cls1 := Value × (Addr → Value → Option Addr → TS)
/-- what the clauses wish of an exception of the body; slot i is the name's -/
def wAsM (K : PySem.W.Frag) (i : Nat) (D : Ends) : List Cls1 → WX
  | [] => fun _ _ _ _ => False
  | (c, ts) :: r => fun cls d σ H => ∃ b, PySem.W.exmOne K cls c = some b ∧ (b = true → ∀ a, H a = none → ts a cls d { nx := fun σ' H' => D.nx (σ'.set i none) H', rt := D.rt, bk := fun σ' H' => D.bk (σ'.set i none) H', ct := fun σ' H' => D.ct (σ'.set i none) H' } (σ.set i (some (.ref a))) H) ∧
      (b = false → wAsM K i D r cls d σ H)
inductive HdsAs (X : Cx) (n : Str) : List ExceptHandler → List Cls1 → Prop
  | nil : HdsAs X n [] []
  | cons {x : Str} {c : Value} {ts : Addr → Value → Option Addr → TS} {b₀ : Stmt} {suite : List Stmt} {np pos' : Pos} {hds : List ExceptHandler} {l : List Cls1} (hc : Names X x c)
      (hsu : ∀ (a : Addr) (oe : Obj) (cls : Value) (d : Option Addr) (pn : List (Addr × Obj)), Zc cls d oe → (∃ vs, oe.data = .fields vs) → PSs (X.suite a ((a, oe) :: pn)) (b₀ :: suite) (ts a cls d)) (r : HdsAs X n hds l) :
      HdsAs X n (.ExceptHandler (some (.Name x np)) (some n) (b₀ :: suite) pos' :: hds) ((c, ts) :: l)
section
variable {X : Cx} {n : Str} {i : Nat} {body : List Stmt} {h₀ : ExceptHandler} {hds : List ExceptHandler} {l : List Cls1} {pos : Pos} {tb : WX → TS}
/-- try: body, several 'except x as n', the last of which takes all that is left -/
theorem ps_try_asM (hs : X.stack = X.env :: X.outer) (hf : X.env.frame = some X.env.locals) (hN : X.N.Nodup) (hi : X.N[i]? = some n) (hln : X.env.kindOf n = some .local)
    (hb : ∀ (W : WX) (pn : List (Addr × Obj)) (xe : Value → Shared → Prop), Takes (X.tr pn xe) W → PassesOwn (model X.prog X.w) X.A X.env xe → PSs (X.tr pn xe) body (tb W))
    (hh : HdsAs X n (h₀ :: hds) l) : PS X (.Try body (h₀ :: hds) [] [] pos) (fun D σ H => tb (wAsM X.K i D l) D σ H) := by
  refine ⟨fun pins s σ H D I h => ?_⟩
  have ok := I.ok
  have hfr : X.A.frames = some (X.env :: X.outer) := by rw [ok.frames, hs]
  refine wpAny_Try_except ?_
  refine wpAny_mono ((hb (wAsM X.K i D l) (X.pn ++ pins) (fun e s₁ => wpAny (model X.prog X.w) X.A (noteFrame e X.env) (fun _ s₂ => wpAny (model X.prog X.w) X.A (setFlight e none) (fun _ s₃ =>
    wpAny (model X.prog X.w) X.A (handleBy e X.env (h₀ :: hds)) (SP X pins D) X.xe s₃) X.xe s₂) X.xe s₁) (fun u s' xx => ?_) PassesOwn.looking).run [] s σ H D (I.toTry _) h) (fun f s1 hsp => ?_) (fun e s1 he => he)
  · obtain ⟨a, B, sI, pins', σ', H', cls, d, rfl, J', nb, up, sky, na, os, ag, w⟩ := xx
    have J : Inv X pins σ' H' sI := J'.ofTry ok
    refine Sky.land Zc.steady hfr hf (by rw [← hs]; exact sky) fun h3 fl3 up3 => ?_
    have J3 : Inv X pins σ' H' { s' with heap := h3 } := J.landed nb fl3.1 (up.trans up3) os ag
    obtain ⟨oe3, vs3, he3, hz3, hd3⟩ := fl3.there
    have nfr : a ∉ frs (X.env :: X.outer) := fun hm => by
      obtain ⟨_, o', e', hnf⟩ := fl3.2.2.1.mem hm
      rw [he3] at e'
      cases e'
      exact hnf _ hd3
    have nL : a ≠ X.env.locals := fun z => nfr (List.mem_filterMap.mpr ⟨X.env, List.mem_cons_self, by rw [hf, z]⟩)
    have nF : a ∉ X.fs := fun hm => by
      obtain ⟨e, he, q⟩ := List.mem_filterMap.mp hm
      exact nfr (List.mem_filterMap.mpr ⟨e, List.mem_cons_of_mem _ he, q⟩)
    have S3 := J3.suite he3 hd3 na nL nF
    have go : ∀ {cs : List ExceptHandler} {ls : List Cls1}, HdsAs X n cs ls → wAsM X.K i D ls cls d σ' H' → wpAny (model X.prog X.w) X.A (handleBy (.ref a) X.env cs) (SP X pins D) X.xe { s' with heap := h3 } := by
      intro cs ls hk
      induction hk with
      | nil => exact fun w => w.elim
      | @cons x c ts b₀ suite np pos' hds2 l2 hc hsu r ih =>
        rintro ⟨b, hb1, hyes, hno⟩
        have LT : PySem.W.Looks (model X.prog X.w) h3 (typeOf (.ref a)) cls := fun A Q E s k q => wpAny_typeOf_ref (k _ _ he3) (by rw [hz3.1]; exact q)
        have LM := PySem.W.exm_one (M := model X.prog X.w) J3.kIn LT hb1
        refine wpAny_handleBy_cons (codeAny_handlers_test ?_) (by intro q; cases q)
        have test : ∀ {Q E : Value → Shared → Prop}, Q c { s' with heap := h3 } → wpAny (model X.prog X.w) (X.A.mark (some (.ref a))) (eval (.Name x np) X.env) Q E { s' with heap := h3 } := fun {Q E} q => by
          obtain ⟨hg, hdbg, hm | ⟨hm, hv, hnn⟩⟩ := hc
          · exact ld_glob (X := X.suite a ((a, oe3) :: (X.pn ++ pins))) S3 hg hm q hdbg
          · exact ld_blt (X := X.suite a ((a, oe3) :: (X.pn ++ pins))) S3 hg hm hv q hnn hdbg
        refine test (LM.here ?_)
        cases b with
        | false => exact ih (hno rfl)
        | true =>
          refine codeAny_handlers_suite_as (HandSPX.lands_againZ fl3 fun h4 fl4 up4 => ?_)
          have J4 : Inv X pins σ' H' { s' with heap := h4 } := J.landed nb fl4.1 ((up.trans up3).trans up4) os ag
          obtain ⟨oe4, vs4, he4, hz4, hd4⟩ := fl4.there
          refine store_ok (X := X.suite a ((a, oe4) :: (X.pn ++ pins))) (v := .ref a) (J4.suite he4 hd4 na nL nF) hN hi (.inl hln) rfl (fun s5 S5 => ?_) (.inr hln)
          refine wpAny_mono ((hsu a oe4 cls d (X.pn ++ pins) hz4 ⟨_, hd4⟩).run [] s5 _ H' _ S5 (hyes rfl a na)) (fun f s6 hsp => ?_) (fun _ _ z => False.elim z)
          cases f with
          | ret u => obtain ⟨v6, σ6, H6, S6, r6, q6⟩ := hsp; exact gone_ok (S6.unsuite ok) hN hi hln fun s7 J7 => ⟨_, _, _, J7, r6, q6⟩
          | _ => obtain ⟨σ6, H6, S6, q6⟩ := hsp; exact gone_ok (S6.unsuite ok) hN hi hln fun s7 J7 => ⟨_, _, J7, q6⟩
    exact go hh w
  · cases f with
    | next => obtain ⟨σ', H', J', q⟩ := hsp; exact wpAny_execs_nil ⟨σ', H', J'.ofTry ok, q⟩
    | ret u => obtain ⟨v, σ', H', J', r, q⟩ := hsp; exact ⟨v, σ', H', J'.ofTry ok, r, q⟩
    | _ => obtain ⟨σ', H', J', q⟩ := hsp; exact ⟨σ', H', J'.ofTry ok, q⟩
end
/-- an error with one field, raised -/
def tRz (C : Addr) (f : Str) (i : Nat) : L2.St → Hp → XK → Prop := fun σ H Q => ∃ v, σ[i]? = some (some v) ∧ ∀ d H', Same H H' → H' d = some (.xd [(f, v)]) → Q (.ref C) (some d) H'
theorem pmk_one {X : Cx} {c : Ci} {st : Stmt} {f y : Str} {i : Nat} {C : Addr} {p q pos : Pos} (R : RowOk X.K c) (M : c.fl ≠ [] → MkF X.K c st) (gl : X.mg c.nm = some (.ref (ga X.K c.nm))) (hg : Gl X c.nm) (hdb : (c.nm == ("__debug__" : Str)) = false) (hr : Room 2 X.A)
    (e1 : c.fl = [f]) (hC : C = ga X.K c.nm) (he : PE X (.Name y q) (tVar i)) : PMk X (.Call (.Name c.nm p) [.Name y q] [] pos) (tRz C f i) := by
  have ne : c.fl ≠ [] := by rw [e1]; exact List.cons_ne_nil _ _
  obtain ⟨⟨fd, F⟩, hb, hf⟩ := M ne
  obtain ⟨i1, i2⟩ := R.i1 ne
  obtain ⟨B, j, Fb⟩ := facts_of c.kind
  have FI := ok_init (P := X.prog) (w := X.w) (mg := X.mg) (base := X.base) F hb ⟨_, _, R.ex, tlOk _⟩ R.no
  intro pins s σ H Q I h
  refine pmk_mkE R.ex (tlOk _) Fb i1 i2 FI hr pass0 hg gl (bind_init F hb hf) (pa_cons he pa_nil) hdb (by rfl) (by rfl) pins s σ H Q I ?_
  obtain ⟨v, hv, k⟩ := h
  refine ⟨v, hv, by show 1 ≤ 1000; decide, fun a ha => ⟨a, [v], rfl, by rw [e1]; rfl, upd_same, fun d H' hd h1 h2 h3 => ⟨rfl, a, d, [(f, v)], rfl, h1, by rw [h2, e1]; rfl, ?_, ?_⟩⟩⟩
  · have da : d ≠ a := by
      intro e
      rw [e, upd_same] at hd
      cases hd
    rw [upd_ne da] at hd
    exact hd
  · have da : d ≠ a := by
      intro e
      rw [e, upd_same] at hd
      cases hd
    rw [hC.symm]
    refine k d _ (fun b o hb => ?_) upd_same
    have ba : b ≠ a := ne_of_none hb ha
    have bd : b ≠ d := by
      rw [upd_ne da] at hd
      exact ne_of_none hb hd
    rw [upd_ne bd, del_ne ba]
    exact h3 b o ba (by rw [upd_ne ba]; exact hb)
end HX
set_option Elab.async false
set_option linter.all false
set_option maxRecDepth 100000
set_option maxHeartbeats 4000000
namespace PL
open PySem PySem.Spec PyProof.Rows L2 GX HX

/-! ### raise -/
section
variable {X : Cx} {J : Option Addr} {H0 : Hp}
theorem qs_raise {c : HX.Ci} {st : Stmt} {y : Str} {i : Nat} {p q pos pos' : Pos} {E : XK} {Ξ : Str → D → Prop} (hc : X.calm = true) (tk : Takes X (fun cls d _ H => E cls d H)) (wok : WOk X.K J H0 E Ξ) (R : RowOk X.K c) (M : c.fl ≠ [] → MkF X.K c st)
    (gl : X.mg c.nm = some (.ref (HX.ga X.K c.nm))) (hg : Gl X c.nm) (hdb : (c.nm == ("__debug__" : Str)) = false) (hr : Room 2 X.A) {g : Str} (e1 : c.fl = [g]) (e2 : flOf c.nm = [g]) (hN : X.N[i]? = some y) (hv : Vis X.env.scope y) (hd : (y == ("__debug__" : Str)) = false) (hcd : (y == ("__classdict__" : Str)) = false) :
    QS X J H0 (.Raise (some (.Call (.Name c.nm p) [.Name y q] [] pos)) none pos') (fun ρ _ _ => ∃ d, ρ[i]? = some (some d) ∧ Ξ c.nm d) := by
  refine ⟨_, ps_raise hc tk (pmk_one (C := HX.ga X.K c.nm) R M gl hg hdb hr e1 rfl (pv i hN hv hd hcd)), fun ρ N R' h σ H w e Dn kn kr => ?_⟩
  obtain ⟨d, h1, h2⟩ := h
  obtain ⟨v, h3, h4⟩ := e.at_ i d h1
  exact ⟨v, h3, fun dd H' sm hd => wok c.nm d H' dd _ (w.trans (w.refl.same sm)) hd (.inl ⟨g, v, e2, rfl, h4.mono (w.refl.same sm)⟩) h2⟩
end

/-! ### // by any divisor -/
def CDivF (_ j : Int) : Prop := j ≠ 0 ∧ j.natAbs.log2 < 9000
theorem op_fdivF {X : Cx} : OpR X (binaryOp .FloorDiv) (rI CDivF fun i j => .int (i.fdiv j)) := opI fun i j _ _ _ _ _ hc q => floordiv_int hc.1 q (.inl (PyProof.noPylong_of_log2 hc.2))

/-! ### an instance of one's own, made -/
/-- what __init__ of class c does: fields from nothing, or an error before any field is set -/
def spMk (K : PySem.W.Frag) (c : Str) (pf : PF) : Sp := fun vs H Q E => ∃ (x dx : Addr) (ws : List V) (J : Option Addr) (ds : List D) (Φ : D → Prop) (Ξ : Str → D → Prop), vs = .ref x :: ws ∧ H x = some (.ins (He.ga K c) dx []) ∧ J ≠ some x ∧
  (∀ j, J = some j → Jar H j) ∧ IsL K J H ws ds ∧ pf ds Φ Ξ ∧
  (∀ (dx' : Addr) (fs : List (Str × V)) (gs : List (Str × D)) (H1 H' : Hp), Wr J H H1 → (∀ b o, b ≠ x → H1 b = some o → H' b = some o) → H' x = some (.ins (He.ga K c) dx' fs) → IsF K J H' fs gs → Φ (.ins c gs) → Q .non H') ∧ WOk K J H E Ξ
theorem made {K : PySem.W.Frag} {c : Str} {pf : PF} {J : Option Addr} {H0 H : Hp} {vs : List V} {ds : List D} {Φ : D → Prop} {Ξ : Str → D → Prop} {Q : VK} {E : XK} (wok : WOk K J H0 E Ξ) (w : Wr J H0 H) (i : IsL K J H vs ds) (h : pf ds Φ Ξ) (k : ∀ v d H', Wr J H H' → Is K J H' v d → Φ d → Q v H')
    (x dx : Addr) (hx : H x = none) (hd : H dx = none) (ne : dx ≠ x) : spMk K c pf (.ref x :: vs) (upd (upd H dx (.own x)) x (.ins (He.ga K c) dx [])) (fun v H3 => v = .non ∧ Q (.ref x) H3) E := by
  have w1 : Wr J H (upd H dx (.own x)) := w.new hd
  have hx1 : upd H dx (.own x) x = none := by rw [upd_ne (Ne.symm ne)]; exact hx
  have w2 : Wr J (upd H dx (.own x)) (upd (upd H dx (.own x)) x (.ins (He.ga K c) dx [])) := w1.new hx1
  have nx : J ≠ some x := w.nj hx
  refine ⟨x, dx, vs, J, ds, Φ, Ξ, rfl, upd_same, nx, w2.jr, i.mono (w1.trans w2), h, fun dx' fs gs H1 H' wa kp hx' hf q => ⟨rfl, k _ _ H' ?_ (.ins hx' nx hf) q⟩, wok.mono (w.trans (w1.trans w2))⟩
  have w3 := (w1.trans w2).trans wa
  refine ⟨fun b o n e => kp b o (ne_of_none e hx) (w3.st b o n e), fun j hj => ?_⟩
  obtain ⟨a1, a2, a3, g⟩ := w3.jr j hj
  exact ⟨a1, a2, a3, kp _ _ (fun z => nx (z ▸ hj)) g⟩
section
variable {X : Cx} {J : Option Addr} {H0 : Hp} {k : Nat} {f : Addr} {fd : FuncData} {ps ks : List Str} {pf : PF} {E : XK} {Ξ : Str → D → Prop} {x c : Str} {p pos : Pos} {e : Expr} {es : List Expr} {pa : PAx}
/-- C(e, ..), the last parameters by their defaults -/
theorem q_make {dvs : List V} {du : List Value} {dds : List D} (M : Mk X.K (He.ga X.K c) f) (F : FnOk X.prog X.w X.K X.mg X.base (L2.CX X.prog X.w) k f fd ps (spMk X.K c pf)) (hr : Room (k + 1) X.A) (hg : Gl X x) (hm : X.mg x = some (.ref (He.ga X.K c))) (hb : Binds X.K fd ps du) (hd : Vals dvs du)
    (hdd : ∀ H, IsL X.K J H dvs dds) (hx : Passes (L2.CX X.prog X.w) X E) (wok : WOk X.K J H0 E Ξ)
    (ha : QA X J H0 (e :: es) pa) (hdb : (x == ("__debug__" : Str)) = false := by decide) (he : starEach (e :: es) X.env = (false, eval e X.env) :: starEach es X.env := by rfl) (hpl : (backTo pos (starEach es X.env)).any (·.1) = false := by rfl) :
    QE X J H0 (.Call (.Name x p) (e :: es) [] pos) (fun ρ Φ => pa ρ fun ds => pf (ds ++ dds) Φ Ξ) := by
  obtain ⟨ta, h1, s1⟩ := ha
  exact ⟨_, pe_make M F hr hg hm hb hd hx h1 hdb he hpl, fun ρ Φ h σ H w e Q k => s1 ρ _ h σ H w e _ fun vs ds H1 w1 i1 q1 => fun x dx hx hd ne => made wok (w.trans w1) (i1.app (hdd H1)) q1 (fun v d H2 w2 i2 q2 => k v d H2 (w1.trans w2) i2 q2) x dx hx hd ne⟩
/-- C(b = e, a = e') -/
theorem q_make2 {k1 k2 : Str} {e1 e2 : Expr} {kp1 kp2 : Pos} {p1 p2 : PEx} {g : List Value → List Value → List Value} {gV : List V → List V → List V} (M : Mk X.K (He.ga X.K c) f) (F : FnOk X.prog X.w X.K X.mg X.base (L2.CX X.prog X.w) k f fd ps (spMk X.K c pf)) (hr : Room (k + 1) X.A) (hg : Gl X x)
    (hm : X.mg x = some (.ref (He.ga X.K c))) (hb : KBn X.K fd ps 1 [k1, k2] g gV) (hgV : ∀ s a b, gV [s] [a, b] = [s, b, a]) (hx : Passes (L2.CX X.prog X.w) X E) (wok : WOk X.K J H0 E Ξ) (h1 : QE X J H0 e1 p1) (h2 : QE X J H0 e2 p2)
    (hall : (backToKw pos (keywordEach [⟨some k1, e1, kp1⟩, ⟨some k2, e2, kp2⟩] X.env)).all (·.1.isSome) = true := by rfl) (hks : (backToKw pos (keywordEach [⟨some k1, e1, kp1⟩, ⟨some k2, e2, kp2⟩] X.env)).filterMap (·.1) = [k1, k2] := by rfl) (hdb : (x == ("__debug__" : Str)) = false := by decide)
    (hpl : ((backTo pos (starEach [] X.env)).any (·.1) || (backToKw pos (keywordEach [⟨some k1, e1, kp1⟩, ⟨some k2, e2, kp2⟩] X.env)).any (·.1.isNone)) = false := by rfl) :
    QE X J H0 (.Call (.Name x p) [] [⟨some k1, e1, kp1⟩, ⟨some k2, e2, kp2⟩] pos) (fun ρ Φ => p1 ρ fun b => p2 ρ fun a => pf [a, b] Φ Ξ) := by
  obtain ⟨t1, a1, s1⟩ := h1
  obtain ⟨t2, a2, s2⟩ := h2
  refine ⟨_, pe_makeK0 M F hr hg hm hb hx (pk_cons a1 (pk_cons a2 pk_nil)) hall hks hdb hpl, fun ρ Φ h σ H w e Q k => ?_⟩
  refine s1 ρ _ h σ H w e _ fun v d H1 w1 i1 q1 => s2 ρ _ q1 σ H1 (w.trans w1) (e.mono w1) _ fun u d2 H2 w2 i2 q2 => ⟨rfl, rfl, fun x dx hx hd ne => ?_⟩
  rw [hgV]
  exact made wok (w.trans (w1.trans w2)) (.cons i2 (.cons (i1.mono w2) .nil)) q2 (fun v d H3 w3 i3 q3 => k v d H3 (w1.trans (w2.trans w3)) i3 q3) x dx hx hd ne
end

/-! ### isqrt -/
def rSqrt : List V → Hp → VK → Prop := fun vs H Q => ∃ n : Nat, vs = [.int (n : Int)] ∧ n.log2 ≤ 13000 ∧ Q (.int ((Float64.isqrt n : Nat) : Int)) H
theorem cr_isqrt {X : Cx} : CallR X (.builtin "math.isqrt") rSqrt := by
  intro pins s σ H vs us Q I r h
  obtain ⟨n, rfl, hn, q⟩ := h
  obtain ⟨u, rfl, t, rfl⟩ := Vals.one r
  refine PySem.call_function_meets PySem.W.MGF.kind_isqrt PySem.W.MGF.plain_isqrt PySem.W.MGF.entry_isqrt (PySem.W.MGF.args_isqrt _) (PySem.W.mg_run_isqrt (n : Int) t (by omega) (by rw [Int.toNat_natCast]; omega) (by rw [Int.toNat_natCast]; omega)).meets ?_
  rw [Int.toNat_natCast]
  exact ⟨.int _, H, I.tok _, ⟨_, rfl⟩, q⟩
theorem rc_isqrt {K : PySem.W.Frag} : RC K rSqrt (fun ds Φ => ∃ n : Nat, ds = [.int (n : Int)] ∧ n.log2 ≤ 13000 ∧ Φ (.int ((Float64.isqrt n : Nat) : Int))) := by
  intro J H0 H vs ds Φ w hi h Q k
  obtain ⟨i, rfl, hz, q⟩ := h
  obtain ⟨v, rfl, a⟩ := hi.inv1
  cases a
  exact ⟨i, rfl, hz, k _ _ H w.refl (.int _) q⟩
end PL
set_option Elab.async false
set_option linter.all false
set_option maxRecDepth 100000
set_option maxHeartbeats 4000000
namespace GX
open PySem PySem.Spec PyProof.Rows L2 PyData

/-! ### the points of texts -/
def Pts (z : Str) : Prop := ∀ c ∈ z.cps.toList, c < 0x110000
theorem strOk_of {z : Str} (h : Pts z) : PyData.strOk z = true := by
  unfold PyData.strOk
  rw [← Array.all_toList]
  exact List.all_eq_true.mpr fun c hc => decide_eq_true (h c hc)
theorem pts_app {a b : Str} (ha : Pts a) (hb : Pts b) : Pts (a ++ b) := fun c hc => by
  rw [Str.cps_append, Array.toList_append] at hc
  rcases List.mem_append.mp hc with h | h
  · exact ha c h
  · exact hb c h
theorem char_lt (c : Char) : c.toNat < 0x110000 := by
  have h := c.valid
  rcases h with h | h
  · have : c.toNat < 0xd800 := h
    omega
  · exact h.2
theorem pts_of (s : String) : Pts (Str.ofString s) := fun c hc => by
  have hc2 : c ∈ (cpsOfBytes 0 0 s.toByteArray.data.toList) := by simpa [Str.ofString] using hc
  rw [cpsOfBytes_string] at hc2
  obtain ⟨d, _, rfl⟩ := List.mem_map.mp hc2
  exact char_lt d
theorem pts_char {q c : Nat} (hq : q < 0x110000) (hc : c < 0x110000) : ∀ p ∈ Builtin.Str.reprChar q c, p < 0x110000 := by
  intro p hp
  have hex : ∀ w : Nat, ∀ p ∈ (List.replicate (w - ((Nat.toDigits 16 c).map Char.toNat).length) 48 ++ (Nat.toDigits 16 c).map Char.toNat), p < 0x110000 := by
    intro w p hp
    rcases List.mem_append.mp hp with h | h
    · rw [List.eq_of_mem_replicate h]
      decide
    · obtain ⟨d, _, rfl⟩ := List.mem_map.mp h
      exact char_lt d
  unfold Builtin.Str.reprChar at hp
  dsimp only at hp
  repeat' split at hp
  all_goals first
    | (have hp' := hex _ p (by simpa using hp); exact hp')
    | (rcases List.mem_append.mp hp with h | h
       · simp only [List.mem_cons, List.not_mem_nil, or_false] at h
         omega
       · exact hex _ p h)
    | (simp only [List.mem_cons, List.not_mem_nil, or_false] at hp
       omega)
theorem pts_fold {q : Nat} (hq : q < 0x110000) : ∀ (l : List Nat) (acc : Array Nat), (∀ c ∈ l, c < 0x110000) → (∀ c ∈ acc.toList, c < 0x110000) → ∀ c ∈ (l.foldl (fun out c => out ++ (Builtin.Str.reprChar q c).toArray) acc).toList, c < 0x110000
  | [], acc, _, ha => ha
  | d :: r, acc, hl, ha => by
    refine pts_fold hq r _ (fun c hc => hl c (List.mem_cons_of_mem _ hc)) (fun c hc => ?_)
    rw [Array.toList_append] at hc
    rcases List.mem_append.mp hc with h | h
    · exact ha c h
    · exact pts_char hq (hl d (List.mem_cons_self ..)) c h
theorem pts_repr {z : Str} (h : Pts z) : Pts (reprText z) := by
  have hq : reprQuote z < 0x110000 := by
    unfold reprQuote
    split <;> decide
  intro c hc
  unfold reprText at hc
  rw [Array.toList_push] at hc
  rcases List.mem_append.mp hc with hc | hc
  · rw [← Array.foldl_toList] at hc
    exact pts_fold hq _ _ h (fun c hc => by
      have : c = reprQuote z := by simpa using hc
      rw [this]
      exact hq) c hc
  · have : c = reprQuote z := by simpa using hc
    rw [this]
    exact hq
theorem pts_joinS {sep : Str} (hs : Pts sep) : ∀ ts : List Str, (∀ t ∈ ts, Pts t) → Pts (Str.join sep ts)
  | [], _ => by
    show Pts Str.empty
    intro c hc
    exact absurd hc (by simp [Str.empty])
  | [x], h => h x (List.mem_cons_self ..)
  | x :: y :: r, h => by
    show Pts (x ++ sep ++ Str.join sep (y :: r))
    exact pts_app (pts_app (h x (List.mem_cons_self ..)) hs) (pts_joinS hs (y :: r) fun t ht => h t (List.mem_cons_of_mem _ ht))
theorem pts_join (ts : List Str) (h : ∀ t ∈ ts, Pts t) : Pts (Str.join ", " ts) := pts_joinS (pts_of _) ts h
theorem pts_list {ts : List Str} (h : ∀ t ∈ ts, Pts t) : Pts (listText ts) := by
  rw [listText_eq_join]
  exact pts_app (pts_app (pts_of _) (pts_join ts h)) (pts_of _)
theorem pts_tuple {ts : List Str} (h : ∀ t ∈ ts, Pts t) : Pts (tupleText ts) := by
  unfold tupleText
  refine pts_app (pts_app (pts_of _) (pts_join ts h)) ?_
  split <;> exact pts_of _

/-! ### good data -/
/-- data of at most m nested rows, their text of at most n signs -/
structure Gd (m n : Nat) (d : PyData) : Prop where
  sh : d.showable = true
  nd : d.hasDict = false
  ln : d.shown.length ≤ n
  dp : d.depth ≤ m
  pt : Pts d.shown
theorem Gd.mono {m n m' n' : Nat} {d : PyData} (g : Gd m n d) (hm : m ≤ m') (hn : n ≤ n') : Gd m' n' d := ⟨g.sh, g.nd, Nat.le_trans g.ln hn, Nat.le_trans g.dp hm, g.pt⟩
theorem Gd.shw {m n : Nat} {d : PyData} (g : Gd m n d) (hm : m ≤ 30) (hn : n ≤ 1000000) : Shw d :=
  ⟨g.sh, g.nd, Nat.le_trans g.ln (Nat.le_trans hn (by decide)), Nat.le_trans g.dp hm⟩
structure GdAll (m n : Nat) (ds : List PyData) : Prop where
  sh : PyData.showableAll ds = true
  nd : PyData.hasDictAll ds = false
  ln : ((PyData.shownAll ds).map (·.length)).sum ≤ n * ds.length
  le : (PyData.shownAll ds).length = ds.length
  dp : PyData.depthAll ds ≤ m
  pt : ∀ t ∈ PyData.shownAll ds, Pts t
theorem gdAll {m n : Nat} : ∀ ds : List PyData, (∀ d ∈ ds, Gd m n d) → GdAll m n ds
  | [], _ => ⟨rfl, rfl, Nat.le_refl _, rfl, Nat.zero_le _, fun t ht => nomatch ht⟩
  | d :: ds, h => by
    have g := h d (List.mem_cons_self ..)
    have r := gdAll ds fun e he => h e (List.mem_cons_of_mem _ he)
    refine ⟨?_, ?_, ?_, ?_, ?_, fun t ht => ?_⟩
    · show (d.showable && PyData.showableAll ds) = true
      rw [g.sh, r.sh]
      rfl
    · show (d.hasDict || PyData.hasDictAll ds) = false
      rw [g.nd, r.nd]
      rfl
    · show d.shown.length + ((PyData.shownAll ds).map (·.length)).sum ≤ n * (ds.length + 1)
      have := g.ln
      have := r.ln
      rw [Nat.mul_add]
      omega
    · show (PyData.shownAll ds).length + 1 = ds.length + 1
      rw [r.le]
    · show max d.depth (PyData.depthAll ds) ≤ m
      exact Nat.max_le.mpr ⟨g.dp, r.dp⟩
    · rcases List.mem_cons.mp (show t ∈ d.shown :: PyData.shownAll ds from ht) with e | e
      · rw [e]
        exact g.pt
      · exact r.pt t e
theorem gd_list {m n k : Nat} {ds : List PyData} (h : ∀ d ∈ ds, Gd m n d) (hk : ds.length ≤ k) : Gd (m + 1) (n * k + 2 * k + 3) (.list ds) := by
  have r := gdAll ds h
  have l := listText_len_le (PyData.shownAll ds)
  refine ⟨r.sh, r.nd, ?_, Nat.add_le_add_right r.dp 1, pts_list r.pt⟩
  show (listText (PyData.shownAll ds)).length ≤ _
  have e1 := r.ln
  have e2 : n * ds.length ≤ n * k := Nat.mul_le_mul_left n hk
  rw [r.le] at l
  omega
theorem gd_tup {m n k : Nat} {ds : List PyData} (h : ∀ d ∈ ds, Gd m n d) (hk : ds.length ≤ k) : Gd (m + 1) (n * k + 2 * k + 3) (.tuple ds) := by
  have r := gdAll ds h
  have l := tupleText_len_le (PyData.shownAll ds)
  refine ⟨r.sh, r.nd, ?_, Nat.add_le_add_right r.dp 1, pts_tuple r.pt⟩
  show (tupleText (PyData.shownAll ds)).length ≤ _
  have e1 := r.ln
  have e2 : n * ds.length ≤ n * k := Nat.mul_le_mul_left n hk
  rw [r.le] at l
  omega
theorem gd_int {i : Int} (h : i.natAbs < 10 ^ 60) : Gd 0 62 (.int i) := by
  refine ⟨decide_eq_true ?_, rfl, ?_, Nat.le_refl _, pts_of _⟩
  · refine Nat.lt_of_le_of_lt (m := 200) ?_ (by decide)
    by_cases h0 : i.natAbs = 0
    · rw [h0]
      decide
    · refine Nat.le_of_lt ((Nat.log2_lt h0).mpr (Nat.lt_of_lt_of_le h (by decide)))
  · show (Str.ofString (toString i)).length ≤ 62
    have e : (Str.ofString (toString i)).length = (toString i).length := by
      have q : (Str.ofString (toString i)).cps.toList = (toString i).toList.map Char.toNat := by
        show (cpsOfBytes 0 0 (toString i).toByteArray.data.toList).toArray.toList = _
        rw [cpsOfBytes_string]
      have q2 := congrArg List.length q
      have q3 : (toString i).toList.length = (toString i).length := String.length_toList
      rw [List.length_map, q3] at q2
      rw [← q2]
      simp [Str.length]
    rw [e]
    exact Nat.le_trans (int_text_length_le10 (by decide) h) (by decide)
theorem gd_none : Gd 0 62 .none := ⟨rfl, rfl, by decide, Nat.le_refl _, pts_of _⟩
theorem gd_bool (b : Bool) : Gd 0 62 (.bool b) := ⟨rfl, rfl, by cases b <;> decide, Nat.le_refl _, by cases b <;> exact pts_of _⟩
theorem gd_str {z : Str} (hz : Pts z) (hl : z.length ≤ 20) : Gd 0 202 (.str z) := by
  refine ⟨rfl, rfl, ?_, Nat.le_refl _, pts_repr hz⟩
  show (reprText z).length ≤ 202
  have := StrLaws.reprText_len z (fun c hc => Nat.lt_trans (hz c hc) (by decide))
  omega

/-- the data of the menu of small things -/
def menu : List PyData := [.int 0, .int 1, .int (-1), .bool true, .none, .str "a", .tuple [], .tuple [.int 1, .int 2], .list [], .list [.int 0]]
theorem gd_menu : ∀ d ∈ menu, Gd 1 202 d := by
  intro d hd
  have i0 : ∀ i : Int, i.natAbs < 10 ^ 60 → Gd 1 202 (.int i) := fun i h => (gd_int h).mono (by decide) (by decide)
  have sm : ∀ i : Int, i.natAbs < 10 ^ 60 → Gd 0 62 (.int i) := fun i h => gd_int h
  simp only [menu, List.mem_cons, List.not_mem_nil, or_false] at hd
  rcases hd with rfl | rfl | rfl | rfl | rfl | rfl | rfl | rfl | rfl | rfl
  · exact i0 0 (by decide)
  · exact i0 1 (by decide)
  · exact i0 (-1) (by decide)
  · exact (gd_bool true).mono (by decide) (by decide)
  · exact gd_none.mono (by decide) (by decide)
  · exact (gd_str (pts_of _) (by decide)).mono (by decide) (by decide)
  · exact (gd_tup (m := 0) (n := 62) (k := 2) (ds := []) (fun d h => nomatch h) (by decide)).mono (by decide) (by decide)
  · refine (gd_tup (m := 0) (n := 62) (k := 2) (ds := [.int 1, .int 2]) (fun d h => ?_) (by decide)).mono (by decide) (by decide)
    simp only [List.mem_cons, List.not_mem_nil, or_false] at h
    rcases h with rfl | rfl
    · exact sm 1 (by decide)
    · exact sm 2 (by decide)
  · exact (gd_list (m := 0) (n := 62) (k := 2) (ds := []) (fun d h => nomatch h) (by decide)).mono (by decide) (by decide)
  · refine (gd_list (m := 0) (n := 62) (k := 2) (ds := [.int 0]) (fun d h => ?_) (by decide)).mono (by decide) (by decide)
    simp only [List.mem_cons, List.not_mem_nil, or_false] at h
    rw [h]
    exact sm 0 (by decide)

/-! ### data that stays -/
mutual
theorem dp_same {K : PySem.W.Frag} {H H' : Hp} (e : Same H H') : ∀ (d : PyData) (v : V), Dp K H v d → Dp K H' v d
  | .none, _, h => by cases h; exact .non
  | .bool b, _, h => by cases h; exact .bl b
  | .int i, _, h => by cases h; exact .int i
  | .str x, _, h => by cases h; exact .str x
  | .list ds, _, h => by
    cases h with
    | lst hs ha => exact .lst (e.seq hs) (dpAll_same e ds _ ha)
  | .tuple ds, _, h => by
    cases h with
    | tup hs ha =>
      refine .tup ?_ (dpAll_same e ds _ ha)
      rcases hs with (h | ⟨o, h⟩) | h
      · exact .inl (.inl (e _ _ h))
      · exact .inl (.inr ⟨o, e _ _ h⟩)
      · exact .inr h
  | .dict _, _, h => by cases h
theorem dpAll_same {K : PySem.W.Frag} {H H' : Hp} (e : Same H H') : ∀ (ds : List PyData) (vs : List V), DpAll K H vs ds → DpAll K H' vs ds
  | [], _, h => by cases h; exact .nil
  | d :: ds, _, h => by
    cases h with
    | cons h1 h2 => exact .cons (dp_same e d _ h1) (dpAll_same e ds _ h2)
end
end GX
set_option Elab.async false
set_option linter.all false
set_option maxRecDepth 100000
set_option maxHeartbeats 4000000
/-! Looks in parts, with defs that stand behind descriptors too. -/
namespace HQ
open PySem PySem.Spec PyProof.Rows L2 GX HX
def more1 (g : Addr → Option Obj) : Option Obj → List Addr
  | some ⟨_, _, .fields vs, _⟩ => vs.toList.flatMap fun v => He.refV v ++ (He.refV v).flatMap fun a => codeO (g a)
  | some ⟨_, _, .func fd, _⟩ => He.refV fd.defaults
  | _ => []
def asQ (g : Addr → Option Obj) : List Addr := PySem.cStatics :: asX g ++ (asX g).flatMap fun a => more1 g (g a)
def fragQ (g : Addr → Option Obj) : PySem.W.Frag := He.frG g (asQ g)
/-- a def and where it stands -/
structure FnA where
  ad : PySem.W.Frag → Addr
  d : He.DefD
def fnWa (K : PySem.W.Frag) (a : Addr) : He.FnW := match K.lookup a with
  | some ⟨_, _, .func fd, _⟩ => some (fd.name, fd.qualname, fd.params, fd.body, fd.scope, fd.globals, fd.closure, fd.builtins)
  | _ => none
def FnA.ok (K : PySem.W.Frag) (x : FnA) : Bool := PySem.W.keepIn K (.ref (x.ad K)) && (match K.lookup (x.ad K) with
  | some ⟨_, _, .func fd, _⟩ => PySem.W.codeIn K fd.code x.d.qual && (He.dflB K fd.defaults (x.d.dvs K) && He.kwdB K fd.kwdefaults (x.d.kws K))
  | _ => false)
theorem FnA.funD {K : PySem.W.Frag} {x : FnA} (e : fnWa K (x.ad K) = x.d.val) (c : x.ok K = true) : ∃ fd, FunD K x.d.name x.d.qual x.d.params x.d.body x.d.scope (x.d.dvs K) (x.d.kws K) (x.ad K) fd := by
  obtain ⟨kp, c2⟩ := ba c
  unfold fnWa at e
  cases q : K.lookup (x.ad K) with
  | none =>
    rw [q] at c2
    cases c2
  | some o =>
    obtain ⟨oc, od, dt, osl⟩ := o
    rw [q] at c2 e
    cases dt with
    | func fd =>
      obtain ⟨n1, n2, n3, n4, n5, n6, n7, n8, n9, n10, n11, n12, n13, n14, n15⟩ := fd
      have e2 : (some (n1, n2, n3, n4, n5, n6, n7, n15) : He.FnW) = some (x.d.name, x.d.qual, x.d.params, .stmts x.d.body, x.d.scope, mainGlobals, [], builtinsNs) := e
      simp only [Option.some.injEq, Prod.mk.injEq] at e2
      obtain ⟨h1, h2, h3, h4, h5, h6, h7, h8⟩ := e2
      obtain ⟨ad, d⟩ := x
      obtain ⟨m1, m2, m3, m4, m5, m6, m7, m8⟩ := d
      dsimp only at h1 h2 h3 h4 h5 h6 h7 h8 kp q
      subst h1 h2 h3 h4 h5 h6 h7 h8
      obtain ⟨k1, k2⟩ := ba c2
      obtain ⟨k3, k4⟩ := ba k2
      exact ⟨_, ⟨oc, od, n8, n9, n10, n11, n12, n13, n14, osl, rfl, q, k1, He.dflB_ok k3, He.kwdB_ok k4⟩, kp⟩
    | _ => cases c2
/-- one look -/
structure Part where
  ok : PySem.W.Frag → Bool
  fn : List FnA
def Part.says (p : Part) (K : PySem.W.Frag) : Prop := p.ok K = true ∧ (∀ x ∈ p.fn, x.ok K = true) ∧ p.fn.map (fun x => fnWa K (x.ad K)) = p.fn.map fun x => x.d.val
def Part.see (p : Part) (g : Addr → Option Obj) : Bool × List He.FnW := frK (fragQ g) fun K => (p.ok K && p.fn.all fun d => d.ok K, p.fn.map fun x => fnWa K (x.ad K))
theorem Part.of {p : Part} {g : Addr → Option Obj} (h : p.see g = (true, p.fn.map fun x => x.d.val)) : p.says (fragQ g) := by
  unfold Part.see at h
  rw [frK_eq] at h
  obtain ⟨h1, h2⟩ := Prod.mk.inj h
  obtain ⟨h3, h4⟩ := ba h1
  exact ⟨h3, fun d hd => List.all_eq_true.mp h4 d hd, h2⟩
theorem Part.def_ {p : Part} {K : PySem.W.Frag} (c : p.says K) {x : FnA} (h : x ∈ p.fn) : ∃ fd, FunD K x.d.name x.d.qual x.d.params x.d.body x.d.scope (x.d.dvs K) (x.d.kws K) (x.ad K) fd := by
  obtain ⟨_, c2, e⟩ := c
  obtain ⟨i, hi, ei⟩ := List.mem_iff_getElem.mp h
  have e2 : (p.fn.map fun x => fnWa K (x.ad K))[i]? = (p.fn.map fun x => x.d.val)[i]? := by rw [e]
  have e3 : p.fn[i]? = some x := by rw [List.getElem?_eq_getElem hi, ei]
  rw [List.getElem?_map, List.getElem?_map, e3] at e2
  exact FnA.funD (Option.some.inj e2) (c2 x h)
def hookQ (ps : List Part) : PySem.W.Hook where
  α := List (Bool × List He.FnW)
  obs := fun s => ps.map fun p => p.see s.heap.get?
  val := fun _ => ps.map fun p => (true, p.fn.map fun x => x.d.val)
  says := fun _ h => ∃ K : PySem.W.Frag, K.In h ∧ ∀ p ∈ ps, p.says K
  of := fun _ s e => ⟨fragQ s.heap.get?, He.frG_in, fun p hp => Part.of (by
    obtain ⟨i, hi, ei⟩ := List.mem_iff_getElem.mp hp
    have e2 : (ps.map fun p => p.see s.heap.get?)[i]? = (ps.map fun p => ((true, p.fn.map fun x => x.d.val) : Bool × List He.FnW))[i]? := by rw [e]
    have e3 : ps[i]? = some p := by rw [List.getElem?_eq_getElem hi, ei]
    rw [List.getElem?_map, List.getElem?_map, e3] at e2
    exact Option.some.inj e2)⟩
  keeps := fun _ _ _ ⟨K, hK, c⟩ k => ⟨K, PySem.W.Frag.In.keeps hK k, c⟩
open HandSHeadRun PySem.W in
/-- the run alone, of a program that imports -/
def Run0 (r : OpenRow) (q : Program) (M : Nat) (loose : List PySem.Str) (w : World) : Prop :=
  (wholeF (fun p => stepQ (denQ tabQ) p w) fenceQ M r.prog).map (fun x => (looksF r.prog x.1.heap x.2.abs, seenQ q loose (importedModules r.prog.main.body) (fun s => xlAt q [] s && recOk r.toRowW.records s) x.2.abs)) = some (true, openGood q loose)
open HandSHeadRun PySem.W in
/-- one look behind the run -/
def Run1 (r : OpenRow) (M : Nat) (p : Part) (w : World) : Prop :=
  (wholeF (fun p => stepQ (denQ tabQ) p w) fenceQ M r.prog).map (fun x => p.see (getT x.2)) = some (true, p.fn.map fun x => x.d.val)
open HandSHeadRun PySem.W in
theorem run_all {r : OpenRow} {q : Program} {M : Nat} {loose : List PySem.Str} {w : World} {ps : List Part} (h0 : Run0 r q M loose w) (h1 : ∀ p ∈ ps, Run1 r M p w) : RunEqI r q (hookQ ps) (fun s => ps.map fun p => p.see (getT s)) M loose w := by
  obtain ⟨s, e, v⟩ := Option.map_eq_some_iff.mp h0
  obtain ⟨v1, v2⟩ := Prod.mk.inj v
  unfold RunEqI
  rw [e]
  show some (looksF r.prog s.1.heap s.2.abs, seenQ q loose (importedModules r.prog.main.body) (fun s => xlAt q [] s && recOk r.toRowW.records s) s.2.abs, ps.map fun p => p.see (getT s.2)) = some (true, openGood q loose, ps.map fun p => (true, p.fn.map fun x => x.d.val))
  rw [v1, v2]
  refine congrArg some (Prod.ext rfl (Prod.ext rfl (List.map_congr_left fun p hp => ?_)))
  have z := h1 p hp
  unfold Run1 at z
  rw [e] at z
  exact Option.some.inj z
theorem see_eq (ps : List Part) (s : PySem.W.SharedT) : (ps.map fun p => p.see (HandSHeadRun.getT s)) = (hookQ ps).obs s.abs := by
  have e : HandSHeadRun.getT s = s.abs.heap.get? := funext (HandSHeadRun.getT_eq s)
  rw [e] <;> rfl
/-! ### what is asked of a class with operators, properties, a static method -/
def recG (K : PySem.W.Frag) (p : Addr) (T : String) : Addr := match PySem.W.recIn K p T with
  | some (.ref g :: _) => g
  | _ => 0
def recB (K : PySem.W.Frag) (p : Addr) (T : String) : Bool := match PySem.W.recIn K p T with
  | some (.ref _ :: _) => true
  | _ => false
theorem recB_ok {K : PySem.W.Frag} {p : Addr} {T : String} (h : recB K p T = true) : ∃ rest, PySem.W.recIn K p T = some (.ref (recG K p T) :: rest) := by
  unfold recB at h
  split at h
  · rename_i g rest e
    refine ⟨rest, ?_⟩
    unfold recG
    rw [e]
  · cases h
def propB (K : PySem.W.Frag) (c m : Str) : Bool := He.eqO (PySem.W.findIn K (.ref (He.ga K c)) m) (some (some (.ref (He.ma K (He.ga K c) m)))) && (He.eqO (PySem.W.specialIn K (.ref (He.ma K (He.ga K c) m)) "__get__") (some (some (.builtin "property.__get__"))) &&
  (decide (PySem.W.takesIn K (.ref (He.ma K (He.ga K c) m)) = some true) && recB K (He.ma K (He.ga K c) m) "property"))
theorem prop_ok {K : PySem.W.Frag} {c m : Str} (h : propB K c m = true) : PropOf K (He.ga K c) m (He.ma K (He.ga K c) m) (recG K (He.ma K (He.ga K c) m) "property") := by
  obtain ⟨h1, h⟩ := ba h
  obtain ⟨h2, h⟩ := ba h
  obtain ⟨h3, h4⟩ := ba h
  exact ⟨He.eqO_ok h1, He.eqO_ok h2, of_decide_eq_true h3, recB_ok h4⟩
def smB (K : PySem.W.Frag) (c m : Str) : Bool := PySem.W.readsIn K (He.ga K c) (.type "type") && (He.eqO (PySem.W.specialIn K (.ref (He.ga K c)) "__getattribute__") (some (some (.builtin "type.__getattribute__"))) && ((match PySem.W.findCls K (.ref (He.ga K c)) (.type "type") m with
  | some (.get g a o t) => decide (g = .builtin "staticmethod.__get__") && (decide (a = .ref (He.ma K (He.ga K c) m)) && (decide (o = .none) && decide (t = .ref (He.ga K c))))
  | _ => false) && (recB K (He.ma K (He.ga K c) m) "staticmethod" && PySem.W.keepIn K (.ref (recG K (He.ma K (He.ga K c) m) "staticmethod")))))
def metB (K : PySem.W.Frag) (c m : Str) : Bool := (He.Fa.meth c m).ok K
theorem met_ok {K : PySem.W.Frag} {c m : Str} (h : metB K c m = true) : Meth K (He.ga K c) m (He.ma K (He.ga K c) m) := by
  obtain ⟨h1, h⟩ := ba (show (He.eqO (PySem.W.findIn K (.ref (He.ga K c)) m) (some (some (.ref (He.ma K (He.ga K c) m)))) && (PySem.W.isFn K (.ref (He.ma K (He.ga K c) m)) && PySem.W.keepIn K (.ref (He.ma K (He.ga K c) m)))) = true from h)
  obtain ⟨h2, h3⟩ := ba h
  exact ⟨He.eqO_ok h1, h2, h3⟩
def kinds7 : List String := ["int", "bool", "str", "NoneType", "tuple", "list", "dict"]
def ownB (K : PySem.W.Frag) (c : Str) : Bool := (He.Fa.cls c).ok K && (PySem.W.selfFirst K (He.ga K c) && (decide (PySem.W.subIn K (.ref (He.ga K c)) (.type "object") = some true) && ((kinds7.all fun T => PySem.W.subIn K (.ref (He.ga K c)) (.type T) == some false) &&
  (He.eqO (PySem.W.findIn K (.ref (He.ga K c)) "__ne__") (some (some (.builtin "object.__ne__"))) && (He.eqO (PySem.W.findIn K (.ref (He.ga K c)) "__class__") (some (some (.builtin "object.__class__"))) &&
  (He.eqO (PySem.W.specialIn K (.builtin "object.__class__") "__get__") (some (some (.builtin "getset_descriptor.__get__"))) && (decide (PySem.W.takesIn K (.builtin "object.__class__") = some true) && (decide (PySem.W.mroIn K (He.ga K c) (.type "object") = some true) &&
  (decide (PySem.W.kitOne K (.ref (He.ga K c)) (.ref (He.ga K c)) = some true) && ((kinds7.all fun T => decide (PySem.W.kitOne K (.type T) (.ref (He.ga K c)) = some false)) && ((kinds7.all fun T => decide (PySem.W.kitOne K (.ref (He.ga K c)) (.type T) = some false)) && (He.Fa.mkr c).ok K)))))))))))
end HQ
set_option Elab.async false
set_option linter.all false
set_option maxRecDepth 100000
set_option maxHeartbeats 4000000
namespace PL
open PySem PySem.Spec PyProof.Rows L2 GX HX
section
variable {X : Cx} {J : Option Addr} {H0 : Hp} {k : Nat} {f : Addr} {fd : FuncData} {ps : List Str} {pf : PF} {c x : Str} {a b e : Expr} {es : List Expr} {pa pb pe : PEx} {pas : PAx} {pos p : Pos} {nm sym : String} {op : Operator} {E : XK} {Ξ : Str → D → Prop}
/-! ### signs of own instances that may raise -/
def rOwn2X (K : PySem.W.Frag) (c : Str) (pf : PF) (E : XK) : R2 := fun x y H Q => (∃ p q dx dy fs gs, x = .ref p ∧ y = .ref q ∧ H p = some (.ins (He.ga K c) dx fs) ∧ H q = some (.ins (He.ga K c) dy gs)) ∧ spP K pf ([x, y] ++ []) H Q E
theorem op_own2X (o : OpC X.K (He.ga X.K c)) (hi : op.info = (sym, nm)) (hm : Meth X.K (He.ga X.K c) (PySem.dunder nm) f) (F : FnP X.prog X.w X.K X.mg X.base k f fd ps pf) (hr : Room k X.A) (hb : Binds X.K fd ps []) (hx : Passes (L2.CX X.prog X.w) X E) : OpR X (binaryOp op) (rOwn2X X.K c pf E) := by
  intro pins s σ H x y v u Q I rx ry h
  obtain ⟨⟨p, q, dx, dy, fs, gs, rfl, rfl, hp, hq⟩, hs⟩ := h
  obtain ⟨h1, od, J1⟩ := ins_at I hp
  obtain ⟨h2, od2, J2⟩ := ins_at I hq
  cases rx; cases ry
  obtain ⟨m, hF⟩ := I.fr
  refine PySem.W.binop_K hF I.ok.mod.kin J1 J2.type o.sf (by rw [hi]; exact hm.at_) hm.fn ?_
  exact wpAny_mono (run_fn (vs := [V.ref p, V.ref q]) F hr hb .nil hx I (.cons rfl (.cons rfl .nil)) hs) (fun v s' z => back_w z) fun _ _ z => z
def dOwn2X (c : Str) (pf : PF) (Ξ : Str → D → Prop) : D → D → (D → Prop) → Prop := fun x y Φ => ∃ gs hs, x = .ins c gs ∧ y = .ins c hs ∧ pf [x, y] Φ Ξ
theorem q_own2X (o : OpC X.K (He.ga X.K c)) (hi : op.info = (sym, nm)) (hm : Meth X.K (He.ga X.K c) (PySem.dunder nm) f) (F : FnP X.prog X.w X.K X.mg X.base k f fd ps pf) (hr : Room k X.A) (hb : Binds X.K fd ps []) (hx : Passes (L2.CX X.prog X.w) X E) (wok : WOk X.K J H0 E Ξ)
    (ha : QE X J H0 a pa) (hb' : QE X J H0 b pb) : QE X J H0 (.BinOp a op b pos) (pOp (dOwn2X c pf Ξ) pa pb) := by
  obtain ⟨ta, h1, s1⟩ := ha
  obtain ⟨tb, h2, s2⟩ := hb'
  refine ⟨_, pe_op (op_own2X o hi hm F hr hb hx) h1 h2, fun ρ Φ h σ H w e Q k => s1 ρ _ h σ H w e _ fun v d H1 w1 i1 q1 => s2 ρ _ q1 σ H1 (w.trans w1) (e.mono w1) _ fun u g H2 w2 i2 q2 => ?_⟩
  obtain ⟨gs, hs, rfl, rfl, q⟩ := q2
  have i1' := i1.mono w2
  have hs2 := spP_of (E := E) (Q := Q) (K := X.K) (vs := [v, u]) wok (w.trans (w1.trans w2)) (.cons i1' (.cons i2 .nil)) q fun z b H3 w3 i3 q3 => k z b H3 (w1.trans (w2.trans w3)) i3 q3
  cases i1' with
  | ins ha n t =>
  cases i2 with
  | ins hb n2 t2 => exact ⟨⟨_, _, _, _, _, _, rfl, rfl, ha, hb⟩, hs2⟩
/-! ### raise C(e, ..) -/
/-- an error's datum, of its fields' data -/
def oneD : List D → D
  | [d] => d
  | l => .tup l
theorem xf_of2 {K : PySem.W.Frag} {H : Hp} {c : Str} {fl : List Str} {vs : List V} {ds : List D} (e : flOf c = fl) (h1 : 1 ≤ fl.length) (h2 : fl.length ≤ 2) (hl : ds.length = fl.length) (i : IsL K J H vs ds) : XF K J H c (fl.zip vs).reverse (oneD ds) := by
  match fl, ds, hl, h1, h2 with
  | [f], [d], _, _, _ =>
    obtain ⟨v, rfl, iv⟩ := i.inv1
    exact .inl ⟨f, v, e, rfl, iv⟩
  | [f, g], [d, d2], _, _, _ =>
    obtain ⟨v, u, rfl, iv, iu⟩ := i.inv2
    exact .inr ⟨f, g, v, u, d, d2, e, rfl, rfl, iv, iu⟩
theorem qs_raiseN {c : HX.Ci} {st : Stmt} {pos' : Pos} (hc : X.calm = true) (tk : Takes X (fun cls d _ H => E cls d H)) (wok : WOk X.K J H0 E Ξ) (R : RowOk X.K c) (M : c.fl ≠ [] → MkF X.K c st)
    (gl : X.mg c.nm = some (.ref (HX.ga X.K c.nm))) (hg : Gl X c.nm) (hdb : (c.nm == ("__debug__" : Str)) = false) (hr : Room 2 X.A) (e2 : flOf c.nm = c.fl) (l1 : 1 ≤ c.fl.length) (l2 : c.fl.length ≤ 2) (ha : QA X J H0 (e :: es) pas)
    (he : starEach (e :: es) X.env = (false, eval e X.env) :: starEach es X.env := by rfl) (hpl : (backTo pos (starEach es X.env)).any (·.1) = false := by rfl) :
    QS X J H0 (.Raise (some (.Call (.Name c.nm p) (e :: es) [] pos)) none pos') (fun ρ _ _ => pas ρ fun ds => ds.length = c.fl.length ∧ Ξ c.nm (oneD ds)) := by
  obtain ⟨ta, h1, s1⟩ := ha
  have ne : c.fl ≠ [] := fun z => by rw [z] at l1; cases l1
  obtain ⟨⟨fd, F⟩, hb, hf⟩ := M ne
  obtain ⟨i1, i2⟩ := R.i1 ne
  obtain ⟨B, j, Fb⟩ := facts_of c.kind
  have FI := ok_init (P := X.prog) (w := X.w) (mg := X.mg) (base := X.base) F hb ⟨_, _, R.ex, tlOk _⟩ R.no
  refine ⟨_, ps_raise hc tk (pmk_mkE R.ex (tlOk _) Fb i1 i2 FI hr pass0 hg gl (bind_init F hb hf) h1 hdb he hpl), fun ρ N R' h σ H w e Dn kn kr => s1 ρ _ h σ H w e _ fun vs ds H1 w1 i1 q1 => ?_⟩
  obtain ⟨hl, hxi⟩ := q1
  have hlv : vs.length = c.fl.length := i1.len.trans hl
  refine ⟨by omega, fun a ha => ⟨a, vs, rfl, hlv, upd_same, fun d H' hd h1 h2 h3 => ⟨rfl, a, d, (c.fl.zip vs).reverse, rfl, h1, h2, ?_, ?_⟩⟩⟩
  · have da : d ≠ a := by
      intro e
      rw [e, upd_same] at hd
      cases hd
    rw [upd_ne da] at hd
    exact hd
  · have da : d ≠ a := by
      intro e
      rw [e, upd_same] at hd
      cases hd
    have sm : Same H1 (upd (del H' a) d (.xd (c.fl.zip vs).reverse)) := fun b o hb => by
      have ba : b ≠ a := ne_of_none hb ha
      have bd : b ≠ d := by
        rw [upd_ne da] at hd
        exact ne_of_none hb hd
      rw [upd_ne bd, del_ne ba]
      exact h3 b o ba (by rw [upd_ne ba]; exact hb)
    have wj := (w.trans w1).trans ((w.trans w1).refl.same sm)
    exact wok c.nm (oneD ds) _ d _ wj upd_same (xf_of2 e2 l1 l2 hl (i1.mono ((w.trans w1).refl.same sm))) hxi
/-! ### isinstance of a tuple of classes, laid here -/
theorem q_isiT {cls : List Expr} {x1} {ptp : Pos} {cvs : List V} {cus : List Value} {g : D → Bool} {cs : List Str} (ic : ∀ c ∈ cs, C8.InsC X.K (He.ga X.K c)) (hm : X.mg "isinstance" = none) (hg : Gl X "isinstance") (hc : PE X (.Tuple cls x1 ptp) (fun σ H Q => ∀ tp, H tp = none → Q (.ref tp) (upd H tp (.tup cvs)))) (kc : Paired ClsV cvs cus) (hk : ∀ d t, tyD X.K cs d = some t → PySem.W.kitAny X.K t cus = some (g d)) (he : QE X J H0 e pe)
    (h2 : starEach (e :: [.Tuple cls x1 ptp]) X.env = (false, eval e X.env) :: starEach [.Tuple cls x1 ptp] X.env := by rfl) (h3 : starEach [.Tuple cls x1 ptp] X.env = (false, eval (.Tuple cls x1 ptp) X.env) :: starEach [] X.env := by rfl) (hpl : (backTo pos (starEach [.Tuple cls x1 ptp] X.env)).any (·.1) = false := by rfl) :
    QE X J H0 (.Call (.Name "isinstance" p) [e, .Tuple cls x1 ptp] [] pos) (fun ρ Φ => pe ρ fun d => (tyD X.K cs d).isSome = true ∧ Φ (.bl (g d))) := by
  obtain ⟨te, h1, s1⟩ := he
  refine ⟨_, pe_callB call_isiT hg hm (by decide +kernel) (pa_cons h1 (pa_cons hc pa_nil h3) h2) (by decide) (by decide) h2 hpl, fun ρ Φ h σ H w e Q k => s1 ρ _ h σ H w e _ fun v d H1 w1 i1 q1 => ?_⟩
  obtain ⟨hs, q⟩ := q1
  obtain ⟨t, ht⟩ := Option.isSome_iff_exists.mp hs
  refine fun tp htp => ?_
  have wn := (w.trans w1).new (o := .tup cvs) htp
  exact ⟨v, tp, cvs, t, cus, g d, rfl, upd_same, kc, tyX_of ic (i1.mono wn) ht, hk d t ht, k _ _ _ (w1.trans wn) (.bl _) q⟩
/-! ### == and != of instances of unlike own classes -/
def rEqO (K : PySem.W.Frag) (c c2 : Str) (pf : PF) (ne : Bool) : R2 := fun x y H Q => ∃ (J : Option Addr) (gs hs : List (Str × D)), Is K J H x (.ins c gs) ∧ Is K J H y (.ins c2 hs) ∧ spP K pf ([x, y] ++ []) H (fun v H' => ∃ r, v = .bl r ∧ Q (.bl (if ne = true then !r else r)) H') E0
theorem op_eqO {c2 : Str} (o : OpC X.K (He.ga X.K c)) (hsub : PySem.W.subIn X.K (.ref (He.ga X.K c2)) (.ref (He.ga X.K c)) = some false) (hm : Meth X.K (He.ga X.K c) "__eq__" f) (F : FnP X.prog X.w X.K X.mg X.base k f fd ps pf) (hr : Room (k + 1) X.A) (hb : Binds X.K fd ps []) (ne : Bool) : OpR X (compareOp (if ne = true then .NotEq else .Eq)) (rEqO X.K c c2 pf ne) := by
  intro pins s σ H x y v u Q I rx ry h
  obtain ⟨J, gs, hs', ix, iy, hs⟩ := h
  cases ix with
  | @ins p dx _ fs _ hp n t =>
  obtain ⟨h3, od, J1⟩ := ins_at I hp
  cases rx
  obtain ⟨m, hF⟩ := I.fr
  cases iy with
  | @ins q dy _ fs2 _ hq n2 t2 =>
  obtain ⟨h4, od2, J2⟩ := ins_at I hq
  cases ry
  have L := J2.type (M := model X.prog X.w)
  have nf : PySem.W.notFirst X.K (He.ga X.K c) (.ref (He.ga X.K c2)) = true := by unfold PySem.W.notFirst; rw [hsub]; simp
  cases ne with
  | false =>
    show wpAny _ _ (richCompare .Eq (.ref p) (.ref q)) _ _ _
    refine PySem.W.cmp_K (op := .Eq) hr.units0 hF I.ok.mod.kin J1 L nf hm.at_ hm.fn ?_
    refine wpAny_mono (run_fn (vs := [V.ref p, V.ref q]) F (hr.mono (Nat.le_succ k)) hb .nil passL I (.cons rfl (.cons rfl .nil)) hs) (fun v s' z => ?_) fun _ _ z => z
    obtain ⟨z, H', I', r, b, rfl, q⟩ := z
    cases r
    exact ⟨.bl b, H', I', rfl, q⟩
  | true =>
    show wpAny _ _ (richCompare .NotEq (.ref p) (.ref q)) _ _ _
    refine cmpNe (by have := hr.units; omega) I.kIn J1 L nf (tryNe (by have := hr.units; omega) I.kIn J1 o.ne o.ob hm.at_ hm.fn ?_)
    refine wpAny_mono (run_in1 (vs := [V.ref p, V.ref q]) F hr hb passL I (.cons rfl (.cons rfl .nil)) hs) (fun v s' z => ?_) fun _ _ z => z
    obtain ⟨z, H', I', r, b, rfl, q⟩ := z
    cases r
    exact ⟨b, rfl, .bl (!b), H', I', rfl, q⟩
def dEqO (c c2 : Str) (pf : PF) (ne : Bool) : D → D → (D → Prop) → Prop := fun x y Φ => (∃ gs, x = .ins c gs) ∧ (∃ hs, y = .ins c2 hs) ∧ pf [x, y] (fun r => ∃ b, r = .bl b ∧ Φ (.bl (if ne = true then !b else b))) noX
theorem rd_eqO {K : PySem.W.Frag} {ne : Bool} {c2 : Str} : RD K (rEqO K c c2 pf ne) (dEqO c c2 pf ne) := by
  intro J H0 H x y cc d Φ w hx hy h Q k
  obtain ⟨⟨gs, rfl⟩, ⟨hs, rfl⟩, q⟩ := h
  refine ⟨J, gs, hs, hx, hy, spP_of (K := K) (vs := [x, y]) wok0 w (.cons hx (.cons hy .nil)) q fun z d2 H2 w2 i2 q2 => ?_⟩
  obtain ⟨b, rfl, q3⟩ := q2
  cases i2
  exact ⟨b, rfl, k _ _ H2 w2 (.bl _) q3⟩
/-- f(k2 = e', k1 = e) -/
theorem q_callK2X {k1 k2 : Str} {e1 e2 : Expr} {kp1 kp2 : Pos} {p1 p2 : PEx} (F : FnP X.prog X.w X.K X.mg X.base k f fd ps pf) (hr : Room k X.A) (hg : Gl X x) (hm : X.mg x = some (.ref f)) (hk : PySem.W.keepIn X.K (.ref f) = true)
    (hb : ∀ (s : Shared) (u v : Value), X.K.In s.heap → BindsTo s fd ⟨[], [(k1, u), (k2, v)]⟩ (ps.zip [v, u])) (hx : Passes (L2.CX X.prog X.w) X E) (wok : WOk X.K J H0 E Ξ) (h1 : QE X J H0 e1 p1) (h2 : QE X J H0 e2 p2)
    (hall : (backToKw pos (keywordEach [⟨some k1, e1, kp1⟩, ⟨some k2, e2, kp2⟩] X.env)).all (·.1.isSome) = true := by rfl) (hks : (backToKw pos (keywordEach [⟨some k1, e1, kp1⟩, ⟨some k2, e2, kp2⟩] X.env)).filterMap (·.1) = [k1, k2] := by rfl)
    (hdb : (x == ("__debug__" : Str)) = false := by decide) (hpl : ((backTo pos (starEach [] X.env)).any (·.1) || (backToKw pos (keywordEach [⟨some k1, e1, kp1⟩, ⟨some k2, e2, kp2⟩] X.env)).any (·.1.isNone)) = false := by rfl) :
    QE X J H0 (.Call (.Name x p) [] [⟨some k1, e1, kp1⟩, ⟨some k2, e2, kp2⟩] pos) (fun ρ Φ => p1 ρ fun b => p2 ρ fun a => pf [a, b] Φ Ξ) := by
  obtain ⟨t1, a1, s1⟩ := h1
  obtain ⟨t2, a2, s2⟩ := h2
  refine ⟨fun σ H Q => tCons t1 (tCons t2 tNil) σ H fun vs H1 => ∃ u v, vs = [u, v] ∧ spP X.K pf ([v, u] ++ []) H1 Q E, ⟨fun pins s σ H Q I h => wpAny_Call_Name_kw (ld_glob I hg hm ?_ hdb)⟩, fun ρ Φ h σ H w e Q k => s1 ρ _ h σ H w e _ fun v d H1 w1 i1 q1 => s2 ρ _ q1 σ H1 (w.trans w1) (e.mono w1) _ fun u g H2 w2 i2 q2 => ⟨v, u, rfl, ?_⟩⟩
  · refine PySem.W.callWith_KW0 (h₀ := X.base) I.ok.mod.kin hk hall (thn ((pk_cons a1 (pk_cons a2 pk_nil)).run pos pins s σ H _ I h) (fun us s1 hh => ?_)) hpl
    obtain ⟨vs, H1, I1, r1, v1, v2, rfl, q1⟩ := hh
    obtain ⟨u1, u2, rfl, ru, rv⟩ := vals2 r1
    refine ⟨I1.kIn, ?_⟩
    rw [hks]
    rw [List.append_nil] at q1
    refine wpAny_call (codeAny_mono (F.run X.A X.stack s1 H1 ⟨[], [(k1, u1), (k2, u2)]⟩ [u2, u1] [v2, v1] Q E hr I1.env0 (hb s1 u1 u2 I1.kIn) (.cons rv (.cons ru .nil)) q1) fun r s' hq => ?_)
    cases r with
    | error e => exact hx pins σ H1 s1 e s' I1 hq
    | ok fl =>
      cases fl with
      | ret u => exact I1.after hq
      | next => exact False.elim hq
      | brk => exact False.elim hq
      | cont => exact False.elim hq
  · exact spP_of (E := E) (Q := Q) (K := X.K) (vs := [u, v]) wok (w.trans (w1.trans w2)) (.cons i2 (.cons (i1.mono w2) .nil)) q2 fun z b H3 w3 i3 q3 => k z b H3 (w1.trans (w2.trans w3)) i3 q3
end
end PL
set_option Elab.async false
set_option linter.all false
set_option maxRecDepth 100000
set_option maxHeartbeats 0
namespace K3
open PySem PySem.Spec PyProof.Rows L2 GX HX
abbrev prg : Program := PySem.Challenge.pw_gridwright_k03_whole_rests_and_their_sig
def top (i : Nat) : Stmt := PySem.Challenge.pw_gridwright_k03_whole_rests_and_their_sig.main.body.getD i (.Pass ⟨0, 0, 0, 0⟩)
def st (j : Nat) : Stmt := inClass (top 25) j
def rt (j : Nat) : Stmt := inClass (top 31) j
def cNumber : HX.Ci := ⟨"InvalidNumber", some "WrongValue", 0, ["given"]⟩
def cText : HX.Ci := ⟨"InvalidText", some "WrongValue", 0, ["given"]⟩
def cNotNum : HX.Ci := ⟨"NotANumber", some "WrongValue", 0, ["given"]⟩
def cUnlike : HX.Ci := ⟨"Unlike", some "WrongValue", 0, ["kind", "other"]⟩
def cUnit : HX.Ci := ⟨"NotAUnit", some "NoAnswer", 2, ["given"]⟩
def cApart : HX.Ci := ⟨"NotApart", some "NoAnswer", 2, ["given"]⟩
def cMany : HX.Ci := ⟨"TooMany", some "NoAnswer", 2, ["given"]⟩
def tab : List HX.Ci := [cNumber, cText, cNotNum, cUnlike, cUnit, cApart, cMany, ⟨"WrongValue", none, 0, []⟩, ⟨"WrongName", none, 1, []⟩, ⟨"NoAnswer", none, 2, []⟩]
def dOf (x : Str) (i : Nat) : HQ.FnA := ⟨fun K => He.ga K x, ⟨(x, none), x, x, defArgs (top i), defBody (top i), defScope (top i), [], []⟩⟩
def iOf (x : Str) (i : Nat) : HQ.FnA := ⟨fun K => He.ma K (He.ga K x) "__init__", ⟨(x, some "__init__"), "__init__", x ++ ".__init__", defArgs (inClass (top i) 0), defBody (inClass (top i) 0), defScope (inClass (top i) 0), [], []⟩⟩
def sOf (m : Str) (j : Nat) : HQ.FnA := ⟨fun K => He.ma K (He.ga K "Rest") m, ⟨("Rest", some m), m, "Rest." ++ m, defArgs (st j), defBody (st j), defScope (st j), [], []⟩⟩
def sVia (T : String) (m : Str) (j : Nat) : HQ.FnA := ⟨fun K => HQ.recG K (He.ma K (He.ga K "Rest") m) T, ⟨("Rest", some m), m, "Rest." ++ m, defArgs (st j), defBody (st j), defScope (st j), [], []⟩⟩
def rOf (m : Str) (j : Nat) : HQ.FnA := ⟨fun K => He.ma K (He.ga K "Ratio") m, ⟨("Ratio", some m), m, "Ratio." ++ m, defArgs (rt j), defBody (rt j), defScope (rt j), [], []⟩⟩
def rIni : HQ.FnA := ⟨fun K => He.ma K (He.ga K "Ratio") "__init__", ⟨("Ratio", some "__init__"), "__init__", "Ratio.__init__", defArgs (rt 0), defBody (rt 0), defScope (rt 0), [.int 1], []⟩⟩
def rVia (T : String) (m : Str) (j : Nat) : HQ.FnA := ⟨fun K => HQ.recG K (He.ma K (He.ga K "Ratio") m) T, ⟨("Ratio", some m), m, "Ratio." ++ m, defArgs (rt j), defBody (rt j), defScope (rt j), [], []⟩⟩
def fnsL : List HQ.FnA := [dOf "is_whole_number" 17, dOf "lies_between" 18, dOf "primes_of" 21, dOf "inverse_by_whole" 22, dOf "raised" 23, dOf "_number_beside" 26, dOf "order_of" 27, dOf "_count_units" 28, dOf "joined" 29, dOf "_law_source" 35, dOf "_law_take" 36, dOf "_law_pick" 37, dOf "_law_great" 38, dOf "_law_by_modulus" 39, dOf "_law_whole" 40, dOf "_law_shared" 41, dOf "_law_turned" 42, dOf "_law_raised" 43, dOf "_law_round" 44, dOf "_law_shown" 45, dOf "_law_called" 46, dOf "_law_by_sign" 47, dOf "_law_refused" 48, dOf "_law_is_refused" 49, dOf "_law_odd" 50, dOf "_law_signs_right" 51, dOf "_law_powers_right" 52, dOf "_law_orders_right" 53, dOf "_law_joined_right" 54, dOf "_law_refusals_right" 55, dOf "_law_right" 56, dOf "law" 57]
def fnsR : List HQ.FnA := [sOf "__init__" 0, sVia "property" "is_unit" 1, sVia "property" "text" 2, sOf "__eq__" 3, sOf "__bool__" 4, sOf "__add__" 5, sOf "__radd__" 6, sOf "__sub__" 7, sOf "__rsub__" 8, sOf "__mul__" 9, sOf "__rmul__" 10, sOf "__pow__" 11, sOf "__neg__" 12, sOf "power" 13, sOf "inverse" 14, rIni, rVia "property" "text" 3, rOf "__eq__" 4]
def fnsE : List HQ.FnA := [iOf "InvalidNumber" 4, iOf "InvalidText" 5, iOf "NotANumber" 6, iOf "Unlike" 7, iOf "NotAUnit" 10, iOf "NotApart" 11, iOf "TooMany" 12]
def builtins : List Str := ["isinstance", "repr", "int", "str", "len", "abs", "bool", "divmod", "range", "all", "max", "min", "ValueError", "LookupError", "ArithmeticError"]
def meths : List Str := ["__init__", "__eq__", "__bool__", "__add__", "__radd__", "__sub__", "__rsub__", "__mul__", "__rmul__", "__pow__", "__neg__", "power", "inverse"]
abbrev R : PySem.W.OpenRow := PySem.W.OpenLaw.row PySem.Challenge.rw_gridwright_k03_whole_rests_and_their_sig
def bfB (K : PySem.W.Frag) (x : Str) (id : String) : Bool := He.eqO (PySem.W.nsIn K mainGlobals x) (some (some (.builtin id)))
def okM (K : PySem.W.Frag) : Bool := ((fnsL.all fun d => (He.Fa.glo d.d.name).ok K) && ((builtins.all fun b => (He.Fa.free b).ok K) && ((He.Fa.int "MOST_MODULUS" (10 ^ 6)).ok K && ((He.Fa.int "MOST_FAR" (10 ^ 30)).ok K && (bfB K "gcd" "math.gcd" && decide ((tab.map fun c => ga K c.nm).Nodup))))))
/-- two own classes have nothing of one another -/
def aptB (K : PySem.W.Frag) (a b : Str) : Bool := decide (PySem.W.kitOne K (.ref (He.ga K a)) (.ref (He.ga K b)) = some false) && decide (PySem.W.subIn K (.ref (He.ga K a)) (.ref (He.ga K b)) = some false)
def okR (K : PySem.W.Frag) : Bool := HQ.ownB K "Rest" && ((meths.all fun m => HQ.metB K "Rest" m) && (HQ.propB K "Rest" "is_unit" && (HQ.propB K "Rest" "text" && ((He.Fa.noat "Rest" "number").ok K && ((He.Fa.noat "Rest" "modulus").ok K && ((He.Fa.noat "Rest" "__rpow__").ok K && ((He.Fa.glo "Rest").ok K &&
  (HQ.ownB K "Ratio" && (HQ.metB K "Ratio" "__eq__" && (HQ.propB K "Ratio" "text" && ((He.Fa.noat "Ratio" "top").ok K && ((He.Fa.noat "Ratio" "bottom").ok K && ((He.Fa.glo "Ratio").ok K && (aptB K "Rest" "Ratio" && aptB K "Ratio" "Rest"))))))))))))))
def p1 : HQ.Part := ⟨fun K => tab.all fun c => rowB K c, fnsE⟩
def p2 : HQ.Part := ⟨okM, fnsL⟩
def p3 : HQ.Part := ⟨okR, fnsR⟩
def loose1 : List Str := ["_wall", "WrongValue", "InvalidNumber", "InvalidText", "NotANumber", "Unlike", "WrongName", "NoAnswer", "NotAUnit", "NotApart", "TooMany", "is_whole_number", "lies_between", "_are_figures", "read_whole", "primes_of", "inverse_by_whole", "raised", "Rest", "_number_beside", "order_of", "_count_units", "joined", "Ratio", "as_ratio", "read_ratio"]
def loose2 : List Str := ["_law_source", "_law_take", "_law_pick", "_law_great", "_law_by_modulus", "_law_whole", "_law_shared", "_law_turned", "_law_raised", "_law_round", "_law_shown", "_law_called", "_law_by_sign", "_law_refused", "_law_is_refused", "_law_odd", "_law_signs_right", "_law_powers_right", "_law_orders_right", "_law_joined_right", "_law_refusals_right", "_law_right", "MOST_MODULUS", "MOST_POWER", "MOST_FAR"]
def loose : List Str := loose1 ++ loose2
end K3
set_option Elab.async false
set_option linter.all false
set_option maxRecDepth 100000
set_option maxHeartbeats 0
namespace K3
open PySem PySem.Spec PyProof.Rows L2 GX HX
theorem run0 (w : World) : HQ.Run0 R (PySem.W.view R.prog [0, 57]) 25000 loose w := by
  unfold HQ.Run0
  kernel_rfl
end K3
set_option Elab.async false
set_option linter.all false
set_option maxRecDepth 100000
set_option maxHeartbeats 0
namespace K3
open PySem PySem.Spec PyProof.Rows L2 GX HX
theorem run1 (w : World) : HQ.Run1 R 25000 p1 w := by
  unfold HQ.Run1
  kernel_rfl
end K3
set_option Elab.async false
set_option linter.all false
set_option maxRecDepth 100000
set_option maxHeartbeats 0
namespace K3
open PySem PySem.Spec PyProof.Rows L2 GX HX
theorem run2 (w : World) : HQ.Run1 R 25000 p2 w := by
  unfold HQ.Run1
  kernel_rfl
end K3
set_option Elab.async false
set_option linter.all false
set_option maxRecDepth 100000
set_option maxHeartbeats 0
namespace K3
open PySem PySem.Spec PyProof.Rows L2 GX HX
theorem run3 (w : World) : HQ.Run1 R 25000 p3 w := by
  unfold HQ.Run1
  kernel_rfl
end K3
set_option Elab.async false
set_option linter.all false
set_option maxRecDepth 100000
set_option maxHeartbeats 4000000
namespace PL
open PySem PySem.Spec PyProof.Rows L2 GX HX
theorem isNon_non : PL.isNon .non = true := rfl
theorem isNon_int {i : Int} : PL.isNon (.int i) = false := rfl
theorem isNon_str {i : Str} : PL.isNon (.str i) = false := rfl
theorem isNon_tup {i : List D} : PL.isNon (.tup i) = false := rfl
theorem isNon_lst {i : List D} : PL.isNon (.lst i) = false := rfl
theorem isNon_bl {i : Bool} : PL.isNon (.bl i) = false := rfl
section
variable {X : Cx} {J : Option Addr} {H0 : Hp} {a b c : Expr} {pa pb pc : PEx} {pos : Pos}
/-- a op b op' c -/
def pChain (q q' : D → D → (D → Prop) → Prop) (pa pb pc : PEx) : PEx := fun ρ Φ => pa ρ fun c => pb ρ fun d => q c d fun z => ∃ k, z = .bl k ∧ (k = true → pc ρ fun e => q' d e Φ) ∧ (k = false → Φ (.bl false))
theorem q_chain {op op' : CmpOp} {r r' : R2} {q q' : D → D → (D → Prop) → Prop} (ho : OpR X (compareOp op) r) (hr : RD X.K r q) (ho' : OpR X (compareOp op') r') (hr' : RD X.K r' q') (ha : QE X J H0 a pa) (hb : QE X J H0 b pb) (hc : QE X J H0 c pc)
    (hm : lastMarks [op, op'] [b, c] = false := by with_unfolding_all rfl) : QE X J H0 (.Compare a [op, op'] [b, c] pos) (pChain q q' pa pb pc) := by
  obtain ⟨ta, h1, s1⟩ := ha
  obtain ⟨tb, h2, s2⟩ := hb
  obtain ⟨tc, h3, s3⟩ := hc
  refine ⟨_, pe_chain ho ho' h1 h2 h3 hm, fun ρ Φ h σ H w e Q k => s1 ρ _ h σ H w e _ fun v c H1 w1 i1 q1 => s2 ρ _ q1 σ H1 (w.trans w1) (e.mono w1) _ fun u d H2 w2 i2 q2 => ?_⟩
  have w02 := w.trans (w1.trans w2)
  refine hr J H0 H2 v u c d _ w02 (i1.mono w2) i2 q2 _ fun z g H3 w3 i3 q3 => ?_
  obtain ⟨kk, rfl, y, n⟩ := q3
  cases i3
  refine ⟨kk, rfl, ite_of (fun z => ?_) fun z => k _ _ H3 (w1.trans (w2.trans w3)) (.bl _) (n z)⟩
  refine s3 ρ _ (y z) σ H3 (w02.trans w3) (((e.mono w1).mono w2).mono w3) _ fun v4 d4 H4 w4 i4 q4 => ?_
  exact hr' J H0 H4 u v4 d d4 Φ ((w02.trans w3).trans w4) ((i2.mono w3).mono w4) i4 q4 Q fun z b H5 w5 i5 q5 => k z b H5 (w1.trans (w2.trans (w3.trans (w4.trans w5)))) i5 q5
theorem qt_isN {j pos'} (ha : QE X J H0 a pa) : QT X J H0 (.Compare a [.Is] [.Constant .none j pos'] pos) (fun ρ Φ => pa ρ fun c => Φ (PL.isNon c)) := by
  obtain ⟨ta, h1, s1⟩ := ha
  refine ⟨_, pt_cmp (pc_isN h1), fun ρ Φ h σ H w e Q k => s1 ρ _ h σ H w e _ fun v c H1 w1 i1 q1 => ?_⟩
  have : decide (v = V.non) = PL.isNon c := by cases i1 <;> simp [PL.isNon]
  refine ⟨_, rfl, ?_⟩
  rw [this]
  exact k _ H1 w1 q1
theorem qt_notN {j pos'} (ha : QE X J H0 a pa) : QT X J H0 (.Compare a [.IsNot] [.Constant .none j pos'] pos) (fun ρ Φ => pa ρ fun c => Φ (!PL.isNon c)) := by
  obtain ⟨ta, h1, s1⟩ := ha
  refine ⟨_, pt_cmp (pc_notN h1), fun ρ Φ h σ H w e Q k => s1 ρ _ h σ H w e _ fun v c H1 w1 i1 q1 => ?_⟩
  have : decide (v = V.non) = PL.isNon c := by cases i1 <;> simp [PL.isNon]
  refine ⟨_, rfl, ?_⟩
  rw [this]
  exact k _ H1 w1 q1
/-- a, b, c = x, y, z -/
def pPar3 (i j l : Nat) (pa : PAx) : PSx := fun ρ N R => pa ρ fun ds => match ds with
  | [c, d, e] => N (((ρ.set i (some c)).set j (some d)).set l (some e))
  | _ => False
theorem qs_par3 {i j l : Nat} {x y z : Str} {pa : PAx} {px py pz pt : Pos} {kt k2 pt2} (hc : X.calm = true) (hN : X.N.Nodup) (hi : X.N[i]? = some x) (hj : X.N[j]? = some y) (hl : X.N[l]? = some z) (hij : i ≠ j) (hil : i ≠ l) (hjl : j ≠ l)
    (hx : X.env.scope.names.lookup x = some .local) (hy : X.env.scope.names.lookup y = some .local) (hz : X.env.scope.names.lookup z = some .local) (ha : QA X J H0 [a, b, c] pa)
    (hw : swappedStores [.Tuple [.Name x px, .Name y py, .Name z pz] kt pt] (.Tuple [a, b, c] k2 pt2) X.env = pure (some [x, y, z]))
    (hs : swapsWithSole [.Tuple [.Name x px, .Name y py, .Name z pz] kt pt] (.Tuple [a, b, c] k2 pt2) pos.line X.env = pure false := by rfl) : QS X J H0 (.Assign [.Tuple [.Name x px, .Name y py, .Name z pz] kt pt] (.Tuple [a, b, c] k2 pt2) pos) (pPar3 i j l pa) := by
  obtain ⟨ta, h1, s1⟩ := ha
  refine ⟨_, ps_par3 hc hN hi hj hl hij hil hjl hx hy hz h1 hw hs, fun ρ N R h σ H w e Dn kn kr => s1 ρ _ h σ H w e _ fun vs ds H1 w1 i1 q1 => ?_⟩
  split at q1
  · rename_i c d e' 
    obtain ⟨v, u, t, rfl, a1, a2, a3⟩ := i1.inv3
    exact ⟨v, u, t, rfl, kn _ _ H1 w1 ((((e.mono w1).set a1 i).set a2 j).set a3 l) q1⟩
  · exact q1.elim
end
end PL
namespace K3
open PySem PySem.Spec PyProof.Rows L2 GX HX PL
structure Txt (K : PySem.W.Frag) (mg : Str → Option Value) : Prop where
  rows : ∀ c ∈ tab, RowOk K c
  nd : (tab.map fun c => HX.ga K c.nm).Nodup
  gl : ∀ c ∈ tab, mg c.nm = some (.ref (HX.ga K c.nm))
  free : ∀ b ∈ builtins, mg b = none
  mod_ : ∃ t, mg "MOST_MODULUS" = some (.int (10 ^ 6) t)
  far : ∃ t, mg "MOST_FAR" = some (.int (10 ^ 30) t)
  gcd : mg "gcd" = some (.builtin "math.gcd")
def stOf (x : Str) : Stmt := inClass (top (match ([("InvalidNumber", 4), ("InvalidText", 5), ("NotANumber", 6), ("Unlike", 7), ("NotAUnit", 10), ("NotApart", 11), ("TooMany", 12)] : List (Str × Nat)).lookup x with | some i => i | none => 0)) 0
def Inits (K : PySem.W.Frag) : Prop := ∀ c ∈ tab, c.fl ≠ [] → MkF K c (stOf c.nm)
/-- a def of the top, at f -/
structure Df (K : PySem.W.Frag) (mg : Str → Option Value) (x : Str) (i : Nat) (f : Addr) (fd : FuncData) : Prop where
  fn : Fun K x x (top i) f fd
  gl : mg x = some (.ref f)
/-- a method of Rest, of Ratio, at f -/
abbrev Sf (K : PySem.W.Frag) (m q : Str) (j : Nat) (f : Addr) (fd : FuncData) : Prop := Fun K m q (st j) f fd
abbrev Rf (K : PySem.W.Frag) (m q : Str) (j : Nat) (f : Addr) (fd : FuncData) : Prop := Fun K m q (rt j) f fd
abbrev kRs : Str := "Rest"
abbrev kRat : Str := "Ratio"
abbrev owns : List Str := [kRs, kRat]
def gInt : D → Bool
  | .int _ => true
  | .bl _ => true
  | _ => false
def gBool : D → Bool
  | .bl _ => true
  | _ => false
def gRs : D → Bool
  | .ins c _ => decide (c = kRs)
  | _ => false
def gRat : D → Bool
  | .ins c _ => decide (c = kRat)
  | _ => false
/-- an own class -/
structure Ow (K : PySem.W.Frag) (mg : Str → Option Value) (c : Str) : Prop where
  ic : C8.InsC K (He.ga K c)
  oc : OpC K (He.ga K c)
  gl : mg c = some (.ref (He.ga K c))
  mkr : Mk K (He.ga K c) (He.ma K (He.ga K c) "__init__")
  k1 : ∀ T ∈ HQ.kinds7, PySem.W.kitOne K (.type T) (.ref (He.ga K c)) = some false
  k2 : ∀ T ∈ HQ.kinds7, PySem.W.kitOne K (.ref (He.ga K c)) (.type T) = some false
theorem Ow.cl {K : PySem.W.Frag} {mg : Str → Option Value} {c : Str} (B : Ow K mg c) : Cls K (He.ga K c) := B.oc.cl
/-- what the classes Rest and Ratio are -/
structure Cl_ (K : PySem.W.Frag) (mg : Str → Option Value) : Prop where
  s : Ow K mg kRs
  r : Ow K mg kRat
  number : NoAttr K (He.ga K kRs) "number"
  modulus : NoAttr K (He.ga K kRs) "modulus"
  top : NoAttr K (He.ga K kRat) "top"
  bottom : NoAttr K (He.ga K kRat) "bottom"
  met : ∀ m ∈ meths, Meth K (He.ga K kRs) m (He.ma K (He.ga K kRs) m)
  rp : PySem.W.findIn K (.ref (He.ga K kRs)) "__rpow__" = some none
  unit : PropOf K (He.ga K kRs) "is_unit" (He.ma K (He.ga K kRs) "is_unit") (HQ.recG K (He.ma K (He.ga K kRs) "is_unit") "property")
  text : PropOf K (He.ga K kRs) "text" (He.ma K (He.ga K kRs) "text") (HQ.recG K (He.ma K (He.ga K kRs) "text") "property")
  rtext : PropOf K (He.ga K kRat) "text" (He.ma K (He.ga K kRat) "text") (HQ.recG K (He.ma K (He.ga K kRat) "text") "property")
  req : Meth K (He.ga K kRat) "__eq__" (He.ma K (He.ga K kRat) "__eq__")
  sr : PySem.W.kitOne K (.ref (He.ga K kRs)) (.ref (He.ga K kRat)) = some false
  rs : PySem.W.kitOne K (.ref (He.ga K kRat)) (.ref (He.ga K kRs)) = some false
  bsr : PySem.W.subIn K (.ref (He.ga K kRs)) (.ref (He.ga K kRat)) = some false
  brs : PySem.W.subIn K (.ref (He.ga K kRat)) (.ref (He.ga K kRs)) = some false
section
variable {K : PySem.W.Frag} {mg : Str → Option Value}
theorem Cl_.ow (B : Cl_ K mg) : ∀ c ∈ owns, Ow K mg c := by
  intro c hc
  simp only [owns, List.mem_cons, List.not_mem_nil, or_false] at hc
  rcases hc with rfl | rfl
  · exact B.s
  · exact B.r
theorem Cl_.ics (B : Cl_ K mg) : ∀ c ∈ owns, C8.InsC K (He.ga K c) := fun c hc => (B.ow c hc).ic
theorem kit_of (B : Cl_ K mg) {U : String} (hU : U ∈ HQ.kinds7) {g : D → Bool} (h : ∀ T ∈ HQ.kinds7, ∀ d, (bT d = some T ∨ (T = "dict" ∧ d = .dic)) → PySem.W.kitOne K (.type T) (.type U) = some (g d)) (h2 : ∀ c gs, g (.ins c gs) = false) : ∀ d t, tyD K owns d = some t → PySem.W.kitOne K t (.type U) = some (g d) := by
  intro d t ht
  cases d with
  | ins c gs =>
    have ht : (if c ∈ owns then some (Value.ref (He.ga K c)) else none) = some t := ht
    split at ht
    · rename_i hc
      cases ht
      rw [h2]
      exact (B.ow c hc).k2 _ hU
    · cases ht
  | jar => cases ht
  | scr _ => cases ht
  | dic => cases ht; exact h "dict" (by decide) _ (.inr ⟨rfl, rfl⟩)
  | non => cases ht; exact h _ (by decide) _ (.inl rfl)
  | bl b => cases ht; exact h _ (by decide) _ (.inl rfl)
  | int b => cases ht; exact h _ (by decide) _ (.inl rfl)
  | str b => cases ht; exact h _ (by decide) _ (.inl rfl)
  | tup b => cases ht; exact h _ (by decide) _ (.inl rfl)
  | lst b => cases ht; exact h _ (by decide) _ (.inl rfl)
theorem Cl_.kInt (B : Cl_ K mg) : ∀ d t, tyD K owns d = some t → PySem.W.kitOne K t (.type "int") = some (gInt d) := kit_of B (by decide) (fun T hT d h => by
  rcases h with h | ⟨rfl, rfl⟩
  · cases d <;> first | (cases h; kernel_rfl) | cases h
  · kernel_rfl) fun _ _ => rfl
theorem Cl_.kBool (B : Cl_ K mg) : ∀ d t, tyD K owns d = some t → PySem.W.kitOne K t (.type "bool") = some (gBool d) := kit_of B (by decide) (fun T hT d h => by
  rcases h with h | ⟨rfl, rfl⟩
  · cases d <;> first | (cases h; kernel_rfl) | cases h
  · kernel_rfl) fun _ _ => rfl
theorem kit_own {u : Value} {g : D → Bool} (h1 : ∀ T ∈ HQ.kinds7, PySem.W.kitOne K (.type T) u = some false) (h2 : ∀ c ∈ owns, ∀ gs, PySem.W.kitOne K (.ref (He.ga K c)) u = some (g (.ins c gs))) (h3 : ∀ d, (∀ c gs, d ≠ .ins c gs) → g d = false) : ∀ d t, tyD K owns d = some t → PySem.W.kitOne K t u = some (g d) := by
  intro d t ht
  cases d with
  | ins c gs =>
    have ht : (if c ∈ owns then some (Value.ref (He.ga K c)) else none) = some t := ht
    split at ht
    · rename_i e
      cases ht
      exact h2 c e gs
    · cases ht
  | jar => cases ht
  | scr _ => cases ht
  | dic => cases ht; rw [h3 _ (by intro _ _ z; cases z)]; exact h1 _ (by decide)
  | non => cases ht; rw [h3 _ (by intro _ _ z; cases z)]; exact h1 _ (by decide)
  | bl b => cases ht; rw [h3 _ (by intro _ _ z; cases z)]; exact h1 _ (by decide)
  | int b => cases ht; rw [h3 _ (by intro _ _ z; cases z)]; exact h1 _ (by decide)
  | str b => cases ht; rw [h3 _ (by intro _ _ z; cases z)]; exact h1 _ (by decide)
  | tup b => cases ht; rw [h3 _ (by intro _ _ z; cases z)]; exact h1 _ (by decide)
  | lst b => cases ht; rw [h3 _ (by intro _ _ z; cases z)]; exact h1 _ (by decide)
theorem Cl_.kRs_ (B : Cl_ K mg) : ∀ d t, tyD K owns d = some t → PySem.W.kitOne K t (.ref (He.ga K kRs)) = some (gRs d) := kit_own B.s.k1 (fun c hc gs => by
  simp only [owns, List.mem_cons, List.not_mem_nil, or_false] at hc
  rcases hc with rfl | rfl
  · exact B.s.ic.me
  · exact B.rs) fun d h => by cases d <;> first | rfl | exact absurd rfl (h _ _)
theorem Cl_.kRat_ (B : Cl_ K mg) : ∀ d t, tyD K owns d = some t → PySem.W.kitOne K t (.ref (He.ga K kRat)) = some (gRat d) := kit_own B.r.k1 (fun c hc gs => by
  simp only [owns, List.mem_cons, List.not_mem_nil, or_false] at hc
  rcases hc with rfl | rfl
  · exact B.sr
  · exact B.r.ic.me) fun d h => by cases d <;> first | rfl | exact absurd rfl (h _ _)
/-- whether it is one of both -/
theorem Cl_.kBoth (B : Cl_ K mg) : ∀ d t, tyD K owns d = some t → PySem.W.kitAny K t [.ref (He.ga K kRs), .ref (He.ga K kRat)] = some (gRs d || gRat d) := by
  intro d t ht
  have h1 := B.kRs_ d t ht
  have h2 := B.kRat_ d t ht
  exact kitAny_cons (b := gRs d) h1 (fun e => by
    rw [e, Bool.false_or]
    exact kitAny_cons (b := gRat d) h2 (fun e2 => by rw [e2]; exact kitAny_nil) fun e2 => by rw [e2]) fun e => by rw [e, Bool.true_or]
end
end K3
set_option Elab.async false
set_option linter.all false
set_option maxRecDepth 100000
set_option maxHeartbeats 4000000

namespace K3
open PySem PySem.Spec PyProof.Rows L2 GX HX PL
/-- a def that stands under the name x, and what it does -/
structure Fn (P : Program) (w : World) (K : PySem.W.Frag) (mg : Str → Option Value) (base : Heap) (x : Str) (k : Nat) (ps : List Str) (pf : PF) where
  f : Addr
  fd : FuncData
  gl : mg x = some (.ref f)
  kp : PySem.W.keepIn K (.ref f) = true
  bd : Binds K fd ps []
  ok : FnP P w K mg base k f fd ps pf
/-- a method of the class c -/
structure Me (P : Program) (w : World) (K : PySem.W.Frag) (mg : Str → Option Value) (base : Heap) (c m : Str) (k : Nat) (ps : List Str) (pf : PF) where
  f : Addr
  fd : FuncData
  met : Meth K (He.ga K c) m f
  bd : Binds K fd ps []
  ok : FnP P w K mg base k f fd ps pf
/-- a def that shows data -/
structure FnG' (P : Program) (w : World) (K : PySem.W.Frag) (mg : Str → Option Value) (base : Heap) (x : Str) (k : Nat) (ps : List Str) (pf : PF) where
  f : Addr
  fd : FuncData
  gl : mg x = some (.ref f)
  kp : PySem.W.keepIn K (.ref f) = true
  bd : Binds K fd ps []
  ok : FnGP P w K mg base k f fd ps pf
/-- a property of the class c -/
structure Pp (P : Program) (w : World) (K : PySem.W.Frag) (mg : Str → Option Value) (base : Heap) (c m : Str) (k : Nat) (pf : PF) where
  q : Addr
  f : Addr
  fd : FuncData
  prop : PropOf K (He.ga K c) m q f
  bd : Binds K fd ["self"] []
  ok : FnP P w K mg base k f fd ["self"] pf
section
variable {P : Program} {w : World} {K : PySem.W.Frag} {mg : Str → Option Value} {base : Heap} {f : Addr} {fd : FuncData}
def Bd (n : Nat) (i : Int) : Prop := i.natAbs < 2 ^ n
theorem Bd.mono {m n : Nat} {i : Int} (h : Bd m i) (l : m ≤ n) : Bd n i := Nat.lt_of_lt_of_le h (Nat.pow_le_pow_right (by decide) l)
theorem Bd.mulW {m n : Nat} {i j : Int} (a : Bd m i) (b : Bd n j) (hm : 0 < m) (hn : 0 < n) (h : m + n ≤ 1000000) : CMulW i j := wide_mul a b hm hn h
theorem Bd.mul {m n : Nat} {i j : Int} (a : Bd m i) (b : Bd n j) : Bd (m + n) (i * j) := wide_lt a b
theorem Bd.add {n : Nat} {i j : Int} (a : Bd n i) (b : Bd n j) : Bd (n + 1) (i + j) := by
  unfold Bd at *
  rw [Nat.pow_succ]
  omega
theorem Bd.neg {n : Nat} {i : Int} (a : Bd n i) : Bd n (-i) := by
  unfold Bd at *
  omega
theorem Bd.sub {n : Nat} {i j : Int} (a : Bd n i) (b : Bd n j) : Bd (n + 1) (i - j) := by
  rw [Int.sub_eq_add_neg]
  exact a.add b.neg
/-- whether it is a whole number -/
def wh : PL.D → Bool
  | .int _ => true
  | _ => false
/-- a datum of one of the kinds that are met -/
def Kd : PL.D → Prop
  | .jar => False
  | .scr _ => False
  | .ins c _ => c ∈ owns
  | _ => True
theorem Kd.ty {d : PL.D} (h : Kd d) : (tyD K owns d).isSome = true := by
  cases d with
  | ins c gs =>
    have h : c ∈ owns := h
    show (if c ∈ owns then some (Value.ref (He.ga K c)) else none).isSome = true
    rw [if_pos h]
    rfl
  | jar => exact h.elim
  | scr _ => exact h.elim
  | _ => rfl
/-! ### is_whole_number -/
theorem scIwn : FnScope ["value"] ["value"] (defScope (top 17)) := ⟨rfl, rfl, rfl, by decide +kernel, rfl, by decide +kernel, by decide +kernel⟩
def pfIwn : PF := fun ds Φ _ => ∃ d, ds = [d] ∧ Kd d ∧ Φ (.bl (wh d))
theorem ok_iwn (DF : Df K mg "is_whole_number" 17 f fd) (T : Txt K mg) (B : Cl_ K mg) : FnP P w K mg base 1 f fd ["value"] pfIwn := by
  refine fnP DF.fn scIwn (fun ds Φ Ξ h => ?_) fun cdv A outer s H E J Ξ hr wok => ⟨_, (qss_one (qs_ret (q_and (q_isi B.ics (T.free "isinstance" (by decide +kernel)) (by rfl) (pe_bltn (v := .ty "int") (by rfl) (T.free "int" (by decide +kernel)) (by decide +kernel) rfl) (.ty _) B.kInt (qv 0)) (q_one (q_not (q_isi B.ics (T.free "isinstance" (by decide +kernel)) (by rfl) (pe_bltn (v := .ty "bool") (by rfl) (T.free "bool" (by decide +kernel)) (by decide +kernel) rfl) (.ty _) B.kBool (qv 0))))))), fun ds Φ h => ?_⟩
  · obtain ⟨d, rfl, _⟩ := h
    rfl
  · obtain ⟨d, rfl, hk, q⟩ := h
    simp only [startD, pSeq, pNext, pSet, pRet, pRetN, pVar, pC, pNil, pCons, pTup, pLst, pOp, dI, dI0, pTest, dEq, dNe, pAnd, pOr, pNot, pIf, pIfS, pAndV, pOrV, pCall, pMeth, pFld, pB, pChain, pNoPart, pPart, pSl, dSlS, dSlC, dM1, pFmt, pJs3, pPar, pPar3, pUnp, pJarIx, pJarSet, dIxT, dIxL, dIxS, dIxC, dCat, dRep, dAddS, dOwn2, dOwnI, dOwnR, setAll, noX, List.map_cons, List.map_nil, List.length_cons, List.length_nil, List.cons_append, List.nil_append, List.replicate, List.getElem?_cons_succ, List.getElem?_cons_zero, List.set_cons_zero, List.set_cons_succ, List.zip_cons_cons, List.zip_nil_right, List.foldl_cons, List.foldl_nil, Option.some.injEq, exists_eq_left', exists_eq_left, exists_eq_right, exists_eq, exists_eq', PL.D.int.injEq, PL.D.bl.injEq, PL.D.str.injEq, PL.D.tup.injEq, PL.D.lst.injEq, PL.D.ins.injEq, PL.D.scr.injEq, List.cons.injEq, and_true, true_and, and_self, exists_and_left, exists_and_right, reduceCtorEq, false_and, and_false, exists_false, or_false, false_or, forall_const, false_implies, true_implies, Nat.reduceAdd, Nat.reduceSub, Nat.reduceLeDiff, exists_const, if_true, if_false, Bool.false_eq_true, ne_eq, not_false_eq_true, Nat.sub_self, List.append_nil, PL.isNon_non, PL.isNon_int, PL.isNon_str, PL.isNon_tup, PL.isNon_lst, PL.isNon_bl, pNever, Bool.not_true, Bool.not_false]
    have ht := hk.ty (K := K)
    refine ⟨ht, fun c => ⟨ht, ?_⟩, fun c => ?_⟩
    · cases d <;> first | exact q | cases c
    · cases d <;> first | exact q | cases c
abbrev FIwn (P : Program) (w : World) (K : PySem.W.Frag) (mg : Str → Option Value) (base : Heap) := Fn P w K mg base "is_whole_number" 1 ["value"] pfIwn
/-! ### lies_between -/
theorem scLb : FnScope ["value", "low", "high"] ["value", "low", "high"] (defScope (top 18)) := ⟨rfl, rfl, rfl, by decide +kernel, rfl, by decide +kernel, by decide +kernel⟩
def btw : PL.D → Int → Int → Bool
  | .int i, lo, hi => decide (lo ≤ i) && decide (i ≤ hi)
  | _, _, _ => false
def pfLb : PF := fun ds Φ _ => ∃ d lo hi, ds = [d, .int lo, .int hi] ∧ Kd d ∧ Φ (.bl (btw d lo hi))
theorem ok_lb (DF : Df K mg "lies_between" 18 f fd) (I : FIwn P w K mg base) : FnP P w K mg base 2 f fd ["value", "low", "high"] pfLb := by
  refine fnP DF.fn scLb (fun ds Φ Ξ h => ?_) fun cdv A outer s H E J Ξ hr wok => ⟨_, (qss_one (qs_ret (q_and (q_call I.ok (hr.mono (by decide)) (by rfl) I.gl I.kp I.bd (qa_cons (qv 0) qa_nil)) (q_one (q_chain op_le rd_B0 op_le rd_B0 (qv 1) (qv 0) (qv 2)))))), fun ds Φ h => ?_⟩
  · obtain ⟨d, lo, hi, rfl, _⟩ := h
    rfl
  · obtain ⟨d, lo, hi, rfl, hk, q⟩ := h
    simp only [startD, pSeq, pNext, pSet, pRet, pRetN, pVar, pC, pNil, pCons, pTup, pLst, pOp, dI, dI0, pTest, dEq, dNe, pAnd, pOr, pNot, pIf, pIfS, pAndV, pOrV, pCall, pMeth, pFld, pB, pChain, pNoPart, pPart, pSl, dSlS, dSlC, dM1, pFmt, pJs3, pPar, pPar3, pUnp, pJarIx, pJarSet, dIxT, dIxL, dIxS, dIxC, dCat, dRep, dAddS, dOwn2, dOwnI, dOwnR, setAll, noX, List.map_cons, List.map_nil, List.length_cons, List.length_nil, List.cons_append, List.nil_append, List.replicate, List.getElem?_cons_succ, List.getElem?_cons_zero, List.set_cons_zero, List.set_cons_succ, List.zip_cons_cons, List.zip_nil_right, List.foldl_cons, List.foldl_nil, Option.some.injEq, exists_eq_left', exists_eq_left, exists_eq_right, exists_eq, exists_eq', PL.D.int.injEq, PL.D.bl.injEq, PL.D.str.injEq, PL.D.tup.injEq, PL.D.lst.injEq, PL.D.ins.injEq, PL.D.scr.injEq, List.cons.injEq, and_true, true_and, and_self, exists_and_left, exists_and_right, reduceCtorEq, false_and, and_false, exists_false, or_false, false_or, forall_const, false_implies, true_implies, Nat.reduceAdd, Nat.reduceSub, Nat.reduceLeDiff, exists_const, if_true, if_false, Bool.false_eq_true, ne_eq, not_false_eq_true, Nat.sub_self, List.append_nil, PL.isNon_non, PL.isNon_int, PL.isNon_str, PL.isNon_tup, PL.isNon_lst, PL.isNon_bl, pNever, Bool.not_true, Bool.not_false, pfIwn]
    refine ⟨hk, fun c => ?_, fun c => ?_⟩
    · cases d with
      | int i =>
        simp only [startD, pSeq, pNext, pSet, pRet, pRetN, pVar, pC, pNil, pCons, pTup, pLst, pOp, dI, dI0, pTest, dEq, dNe, pAnd, pOr, pNot, pIf, pIfS, pAndV, pOrV, pCall, pMeth, pFld, pB, pChain, pNoPart, pPart, pSl, dSlS, dSlC, dM1, pFmt, pJs3, pPar, pPar3, pUnp, pJarIx, pJarSet, dIxT, dIxL, dIxS, dIxC, dCat, dRep, dAddS, dOwn2, dOwnI, dOwnR, setAll, noX, List.map_cons, List.map_nil, List.length_cons, List.length_nil, List.cons_append, List.nil_append, List.replicate, List.getElem?_cons_succ, List.getElem?_cons_zero, List.set_cons_zero, List.set_cons_succ, List.zip_cons_cons, List.zip_nil_right, List.foldl_cons, List.foldl_nil, Option.some.injEq, exists_eq_left', exists_eq_left, exists_eq_right, exists_eq, exists_eq', PL.D.int.injEq, PL.D.bl.injEq, PL.D.str.injEq, PL.D.tup.injEq, PL.D.lst.injEq, PL.D.ins.injEq, PL.D.scr.injEq, List.cons.injEq, and_true, true_and, and_self, exists_and_left, exists_and_right, reduceCtorEq, false_and, and_false, exists_false, or_false, false_or, forall_const, false_implies, true_implies, Nat.reduceAdd, Nat.reduceSub, Nat.reduceLeDiff, exists_const, if_true, if_false, Bool.false_eq_true, ne_eq, not_false_eq_true, Nat.sub_self, List.append_nil, PL.isNon_non, PL.isNon_int, PL.isNon_str, PL.isNon_tup, PL.isNon_lst, PL.isNon_bl, pNever, Bool.not_true, Bool.not_false]
        refine ⟨fun c2 => ?_, fun c2 => ?_⟩
        · have : btw (.int i) lo hi = decide (i ≤ hi) := by show (decide (lo ≤ i) && decide (i ≤ hi)) = _; rw [c2, Bool.true_and]
          rw [this] at q
          exact q
        · have : btw (.int i) lo hi = false := by show (decide (lo ≤ i) && decide (i ≤ hi)) = _; rw [c2, Bool.false_and]
          rw [this] at q
          exact q
      | _ => cases c
    · cases d <;> first | exact q | cases c
abbrev FLb (P : Program) (w : World) (K : PySem.W.Frag) (mg : Str → Option Value) (base : Heap) := Fn P w K mg base "lies_between" 2 ["value", "low", "high"] pfLb
end
end K3
set_option Elab.async false
set_option linter.all false
set_option maxRecDepth 100000
set_option maxHeartbeats 4000000

namespace K3
open PySem PySem.Spec PyProof.Rows L2 GX HX PL
section
variable {P : Program} {w : World} {K : PySem.W.Frag} {mg : Str → Option Value} {base : Heap} {f : Addr} {fd : FuncData}
def stm (j i : Nat) : Stmt := (defBody (rt j)).getD i (.Pass ⟨0, 0, 0, 0⟩)
def sts (j i : Nat) : Stmt := (defBody (st j)).getD i (.Pass ⟨0, 0, 0, 0⟩)
def tst : Stmt → Expr
  | .If c _ _ _ => c
  | _ => .Constant .none 0 ⟨0, 0, 0, 0⟩
def bdy : Stmt → List Stmt
  | .If _ b _ _ => b
  | _ => []
def vle : Stmt → Expr
  | .Assign _ e _ => e
  | _ => .Constant .none 0 ⟨0, 0, 0, 0⟩
/-! ### Ratio's __init__ -/
theorem scIni : FnScope ["self", "top", "bottom", "shared"] ["self", "top", "bottom"] (defScope (rt 0)) := ⟨rfl, rfl, rfl, by decide +kernel, rfl, by decide +kernel, by decide +kernel⟩
def sh (t b : Int) : Int := if 0 < b then (Nat.gcd t.natAbs b.natAbs : Int) else -(Nat.gcd t.natAbs b.natAbs : Int)
def rat (t b : Int) : PL.D := .ins kRat [("top", .int t), ("bottom", .int b)]
def mk (i j : Int) : PL.D := rat (i.fdiv (sh i j)) (j.fdiv (sh i j))
def pfIni : PF := fun ds Φ Ξ => ∃ a b, ds = [a, b] ∧ Kd a ∧ Kd b ∧ ((∃ i j : Int, a = .int i ∧ b = .int j ∧ j ≠ 0 ∧ Bd 8900 j ∧ Φ (mk i j)) ∨ (wh a = false ∧ Ξ "InvalidNumber" a) ∨ (wh a = true ∧ (wh b = false ∨ b = .int 0) ∧ Ξ "InvalidNumber" b))
theorem sh_ne {t b : Int} (h : b ≠ 0) : sh t b ≠ 0 := by
  have : 0 < Nat.gcd t.natAbs b.natAbs := Nat.gcd_pos_of_pos_right _ (Int.natAbs_pos.mpr h)
  unfold sh
  split <;> omega
theorem sh_abs {t b : Int} : (sh t b).natAbs = Nat.gcd t.natAbs b.natAbs := by
  unfold sh
  split <;> omega
theorem sh_bd {t b : Int} {n : Nat} (h : b ≠ 0) (hb : Bd n b) : Bd n (sh t b) := by
  unfold Bd at *
  rw [sh_abs]
  exact Nat.lt_of_le_of_lt (Nat.gcd_le_right _ (Int.natAbs_pos.mpr h)) hb
theorem sh_div {t b i : Int} {n : Nat} (h : b ≠ 0) (hb : Bd n b) (h0 : 0 < n) (h9 : n ≤ 9000) : CDivF i (sh t b) := ⟨sh_ne h, Nat.lt_of_lt_of_le (PySem.Flt.log2_lt_of h0 (sh_bd h hb)) h9⟩
theorem ok_ini (F : FunD K "__init__" "Ratio.__init__" (defArgs (rt 0)) (defBody (rt 0)) (defScope (rt 0)) [.int 1] [] f fd) (T : Txt K mg) (B : Cl_ K mg) (M : Inits K) (I : FIwn P w K mg base) : FnOk P w K mg base (L2.CX P w) 4 f fd ["self", "top", "bottom"] (spMk K kRat pfIni) := by
  refine F.ok scIni (fun vs H Q E h => ?_) fun cdv A outer s H vs Q E hr h => ?_
  · obtain ⟨x, dx, ws, J, ds, Φ, Ξ, rfl, _, _, _, hi, ⟨a, b, rfl, _⟩, _⟩ := h
    rw [List.length_cons, hi.len]
    rfl
  · obtain ⟨x, dx, ws, J, ds, Φ, Ξ, rfl, hx, nx, hj, hi, ⟨a, b, rfl, ka, kb, hp⟩, hq, wok⟩ := h
    obtain ⟨u, v, rfl, iu, iv⟩ := hi.inv2
    have w0 : Wr J H H := ⟨fun _ _ _ h => h, hj⟩
    have c1 : QT (cxOf (L2.CX P w) P w K mg base ["self", "top", "bottom", "shared"] "Ratio.__init__" (defScope (rt 0)) f cdv A outer s H E) J H (tst (stm 0 0)) _ := (qt_not (qt_val (q_call I.ok (hr.mono (by decide)) (by rfl) I.gl I.kp I.bd (qa_cons (qv 1) qa_nil))))
    have g1 : QSs (cxOf (L2.CX P w) P w K mg base ["self", "top", "bottom", "shared"] "Ratio.__init__" (defScope (rt 0)) f cdv A outer s H E) J H (bdy (stm 0 0)) _ := (qss_one (qs_raise (c := cNumber) (i := 1) rfl (takes_of rfl rfl rfl rfl) wok (T.rows _ (by decide)) (M _ (by decide)) (T.gl _ (by decide)) (by rfl) (by decide) (hr.mono (by decide)) rfl (by decide) rfl (.inl rfl) (by decide) (by decide)))
    have c2 : QT (cxOf (L2.CX P w) P w K mg base ["self", "top", "bottom", "shared"] "Ratio.__init__" (defScope (rt 0)) f cdv A outer s H E) J H (tst (stm 0 1)) _ := (qt_pw (qw_or (qt_not (qt_val (q_call I.ok (hr.mono (by decide)) (by rfl) I.gl I.kp I.bd (qa_cons (qv 2) qa_nil)))) (qw_or1 (qt_cmp op_eq rd_eq (qv 2) q_int (nomark _)))))
    have g2 : QSs (cxOf (L2.CX P w) P w K mg base ["self", "top", "bottom", "shared"] "Ratio.__init__" (defScope (rt 0)) f cdv A outer s H E) J H (bdy (stm 0 1)) _ := (qss_one (qs_raise (c := cNumber) (i := 2) rfl (takes_of rfl rfl rfl rfl) wok (T.rows _ (by decide)) (M _ (by decide)) (T.gl _ (by decide)) (by rfl) (by decide) (hr.mono (by decide)) rfl (by decide) rfl (.inl rfl) (by decide) (by decide)))
    have v5 : QE (cxOf (L2.CX P w) P w K mg base ["self", "top", "bottom", "shared"] "Ratio.__init__" (defScope (rt 0)) f cdv A outer s H E) J H (vle (stm 0 2)) _ := (q_ifExp (qt_cmp op_gt rd_B0 (qv 2) q_int (nomark _)) (q_BF cr_gcd rc_gcd T.gcd (by rfl) (qa_cons (qv 1) (qa_cons (qv 2) qa_nil))) (q_neg (q_BF cr_gcd rc_gcd T.gcd (by rfl) (qa_cons (qv 1) (qa_cons (qv 2) qa_nil)))))
    obtain ⟨t1, P1, S1⟩ := c1
    obtain ⟨t2, P2, S2⟩ := g1
    obtain ⟨t3, P3, S3⟩ := c2
    obtain ⟨t4, P4, S4⟩ := g2
    obtain ⟨t5, P5, S5⟩ := v5
    have en : En K J H [some (.ref x), some u, some v, none] [none, some a, some b, none] := ⟨rfl, fun i d e => by
      match i, e with
      | 1, e => cases e; exact ⟨u, rfl, iu⟩
      | 2, e => cases e; exact ⟨v, rfl, iv⟩
      | n + 4, e => cases e⟩
    refine ⟨_, pss_cons (ps_if P1 P2 pss_nil) (pss_cons (ps_if P3 P4 pss_nil) (pss_cons (ps_set (i := 3) scIni.nd rfl (.inl rfl) P5 rfl (.inl rfl)) (pss_cons (ps_fld (pv 0) (pe_op op_fdivF (pv 1) (pv 3)) rfl) (pss_one (ps_fld (pv 0) (pe_op op_fdivF (pv 2) (pv 3)) rfl))))), ?_⟩
    refine S1 _ (fun c => c = !wh a) (by simp only [startD, pSeq, pNext, pSet, pRet, pRetN, pVar, pC, pNil, pCons, pTup, pLst, pOp, dI, dI0, pTest, dEq, dNe, pAnd, pOr, pNot, pIf, pIfS, pAndV, pOrV, pCall, pMeth, pFld, pB, pChain, pNoPart, pPart, pSl, dSlS, dSlC, dM1, pFmt, pJs3, pPar, pPar3, pUnp, pJarIx, pJarSet, dIxT, dIxL, dIxS, dIxC, dCat, dRep, dAddS, dOwn2, dOwnI, dOwnR, setAll, noX, List.map_cons, List.map_nil, List.length_cons, List.length_nil, List.cons_append, List.nil_append, List.replicate, List.getElem?_cons_succ, List.getElem?_cons_zero, List.set_cons_zero, List.set_cons_succ, List.zip_cons_cons, List.zip_nil_right, List.foldl_cons, List.foldl_nil, Option.some.injEq, exists_eq_left', exists_eq_left, exists_eq_right, exists_eq, exists_eq', PL.D.int.injEq, PL.D.bl.injEq, PL.D.str.injEq, PL.D.tup.injEq, PL.D.lst.injEq, PL.D.ins.injEq, PL.D.scr.injEq, List.cons.injEq, and_true, true_and, and_self, exists_and_left, exists_and_right, reduceCtorEq, false_and, and_false, exists_false, or_false, false_or, forall_const, false_implies, true_implies, Nat.reduceAdd, Nat.reduceSub, Nat.reduceLeDiff, exists_const, if_true, if_false, Bool.false_eq_true, ne_eq, not_false_eq_true, Nat.sub_self, List.append_nil, PL.isNon_non, PL.isNon_int, PL.isNon_str, PL.isNon_tup, PL.isNon_lst, PL.isNon_bl, pNever, Bool.not_true, Bool.not_false, pfIwn]; exact ka) _ H w0 en _ fun b1 H1 w1 q1 => ite_of (fun z => ?_) fun z => ?_
    · refine S2 _ (fun _ => False) (fun _ => False) ?_ _ H1 w1 (en.mono w1) _ (fun _ _ _ _ _ z => z.elim) fun _ _ _ _ _ z => z.elim
      refine ⟨a, rfl, ?_⟩
      rcases hp with ⟨i, j, rfl, _⟩ | ⟨_, h⟩ | ⟨h, _⟩
      · rw [q1] at z; cases z
      · exact h
      · rw [q1, h] at z; cases z
    have wa : wh a = true := by cases h : wh a with
      | true => rfl
      | false => rw [q1, h] at z; cases z
    refine S3 _ (fun c => (c = true → wh b = false ∨ b = .int 0) ∧ (c = false → ∃ j : Int, b = .int j ∧ j ≠ 0)) ?_ _ H1 w1 (en.mono w1) _ fun b2 H2 w2 q2 => ite_of (fun z => ?_) fun z => ?_
    · simp only [startD, pSeq, pNext, pSet, pRet, pRetN, pVar, pC, pNil, pCons, pTup, pLst, pOp, dI, dI0, pTest, dEq, dNe, pAnd, pOr, pNot, pIf, pIfS, pAndV, pOrV, pCall, pMeth, pFld, pB, pChain, pNoPart, pPart, pSl, dSlS, dSlC, dM1, pFmt, pJs3, pPar, pPar3, pUnp, pJarIx, pJarSet, dIxT, dIxL, dIxS, dIxC, dCat, dRep, dAddS, dOwn2, dOwnI, dOwnR, setAll, noX, List.map_cons, List.map_nil, List.length_cons, List.length_nil, List.cons_append, List.nil_append, List.replicate, List.getElem?_cons_succ, List.getElem?_cons_zero, List.set_cons_zero, List.set_cons_succ, List.zip_cons_cons, List.zip_nil_right, List.foldl_cons, List.foldl_nil, Option.some.injEq, exists_eq_left', exists_eq_left, exists_eq_right, exists_eq, exists_eq', PL.D.int.injEq, PL.D.bl.injEq, PL.D.str.injEq, PL.D.tup.injEq, PL.D.lst.injEq, PL.D.ins.injEq, PL.D.scr.injEq, List.cons.injEq, and_true, true_and, and_self, exists_and_left, exists_and_right, reduceCtorEq, false_and, and_false, exists_false, or_false, false_or, forall_const, false_implies, true_implies, Nat.reduceAdd, Nat.reduceSub, Nat.reduceLeDiff, exists_const, if_true, if_false, Bool.false_eq_true, ne_eq, not_false_eq_true, Nat.sub_self, List.append_nil, PL.isNon_non, PL.isNon_int, PL.isNon_str, PL.isNon_tup, PL.isNon_lst, PL.isNon_bl, pNever, Bool.not_true, Bool.not_false, pfIwn]
      refine ⟨kb, fun c => ?_, fun c => ?_⟩
      · left
        cases h : wh b with
        | true => rw [h] at c; cases c
        | false => rfl
      · cases b with
        | int j =>
          refine ⟨rfl, fun d => ?_, fun d => ?_⟩
          · exact .inr (congrArg _ (of_decide_eq_true d))
          · exact ⟨j, rfl, of_decide_eq_false d⟩
        | _ => cases c
    · refine S4 _ (fun _ => False) (fun _ => False) ?_ _ H2 (w1.trans w2) ((en.mono w1).mono w2) _ (fun _ _ _ _ _ z => z.elim) fun _ _ _ _ _ z => z.elim
      refine ⟨b, rfl, ?_⟩
      rcases hp with ⟨i, j, rfl, rfl, hj0, _⟩ | ⟨h, _⟩ | ⟨_, _, h⟩
      · rcases q2.1 z with h | h
        · cases h
        · cases h; exact absurd rfl hj0
      · rw [wa] at h; cases h
      · exact h
    obtain ⟨j, rfl, hj0⟩ := q2.2 z
    rcases hp with ⟨i, j', rfl, e, _, hb, q⟩ | ⟨h, _⟩ | ⟨_, h | h, _⟩
    · cases e
      have w12 := w1.trans w2
      refine S5 _ (fun d => d = .int (sh i j)) ?_ _ H2 w12 ((en.mono w1).mono w2) _ fun g d H3 w3 i3 q3 => ?_
      · simp only [startD, pSeq, pNext, pSet, pRet, pRetN, pVar, pC, pNil, pCons, pTup, pLst, pOp, dI, dI0, pTest, dEq, dNe, pAnd, pOr, pNot, pIf, pIfS, pAndV, pOrV, pCall, pMeth, pFld, pB, pChain, pNoPart, pPart, pSl, dSlS, dSlC, dM1, pFmt, pJs3, pPar, pPar3, pUnp, pJarIx, pJarSet, dIxT, dIxL, dIxS, dIxC, dCat, dRep, dAddS, dOwn2, dOwnI, dOwnR, setAll, noX, List.map_cons, List.map_nil, List.length_cons, List.length_nil, List.cons_append, List.nil_append, List.replicate, List.getElem?_cons_succ, List.getElem?_cons_zero, List.set_cons_zero, List.set_cons_succ, List.zip_cons_cons, List.zip_nil_right, List.foldl_cons, List.foldl_nil, Option.some.injEq, exists_eq_left', exists_eq_left, exists_eq_right, exists_eq, exists_eq', PL.D.int.injEq, PL.D.bl.injEq, PL.D.str.injEq, PL.D.tup.injEq, PL.D.lst.injEq, PL.D.ins.injEq, PL.D.scr.injEq, List.cons.injEq, and_true, true_and, and_self, exists_and_left, exists_and_right, reduceCtorEq, false_and, and_false, exists_false, or_false, false_or, forall_const, false_implies, true_implies, Nat.reduceAdd, Nat.reduceSub, Nat.reduceLeDiff, exists_const, if_true, if_false, Bool.false_eq_true, ne_eq, not_false_eq_true, Nat.sub_self, List.append_nil, PL.isNon_non, PL.isNon_int, PL.isNon_str, PL.isNon_tup, PL.isNon_lst, PL.isNon_bl, pNever, Bool.not_true, Bool.not_false]
        refine ⟨fun c => ?_, fun c => ?_⟩
        · unfold sh; rw [if_pos (of_decide_eq_true c)]; exact ⟨i, j, ⟨rfl, rfl⟩, rfl⟩
        · unfold sh; rw [if_neg (of_decide_eq_false c)]; exact ⟨i, j, ⟨rfl, rfl⟩, rfl⟩
      subst q3
      cases i3
      cases iu; cases iv
      have w13 := w12.trans w3
      have hx3 := w13.st x _ nx hx
      have dv : ∀ i' : Int, CDivF i' (sh i j) := fun i' => sh_div hj0 hb (by decide) (by decide)
      refine ⟨_, rfl, _, rfl, ⟨i, sh i j, rfl, rfl, dv i, _, rfl, x, He.ga K kRat, dx, [], rfl, hx3, B.r.cl, B.top, by decide, ?_⟩⟩
      refine ⟨_, rfl, _, rfl, ⟨j, sh i j, rfl, rfl, dv j, _, rfl, x, He.ga K kRat, dx, _, rfl, upd_same, B.r.cl, B.bottom, by show 1 < 1000; decide, ?_⟩⟩
      refine hq dx [("top", .int (i.fdiv (sh i j))), ("bottom", .int (j.fdiv (sh i j)))] [("top", .int (i.fdiv (sh i j))), ("bottom", .int (j.fdiv (sh i j)))] H3 _ w13 (fun b o hb ho => ?_) upd_same (.cons (.int _) (.cons (.int _) .nil)) q
      rw [upd_ne hb, upd_ne hb]
      exact ho
    · rw [wa] at h; cases h
    · cases h
    · cases h; exact absurd rfl hj0

/-! ### Rest's __init__ -/
theorem scSin : FnScope ["self", "number", "modulus"] ["self", "number", "modulus"] (defScope (st 0)) := ⟨rfl, rfl, rfl, by decide +kernel, rfl, by decide +kernel, by decide +kernel⟩
def rs (i m : Int) : PL.D := .ins kRs [("number", .int i), ("modulus", .int m)]
def pfSin : PF := fun ds Φ Ξ => ∃ a b, ds = [a, b] ∧ Kd a ∧ Kd b ∧ ((∃ i m : Int, a = .int i ∧ b = .int m ∧ 2 ≤ m ∧ m ≤ 1000000 ∧ Φ (rs (i % m) m)) ∨ (wh a = false ∧ Ξ "InvalidNumber" a) ∨ (wh a = true ∧ btw b 2 1000000 = false ∧ Ξ "InvalidNumber" b))
theorem ok_sin (F : Sf K "__init__" "Rest.__init__" 0 f fd) (T : Txt K mg) (B : Cl_ K mg) (M : Inits K) (I : FIwn P w K mg base) (L : FLb P w K mg base) : FnOk P w K mg base (L2.CX P w) 5 f fd ["self", "number", "modulus"] (spMk K kRs pfSin) := by
  refine F.okX scSin (fun vs H Q E h => ?_) fun cdv A outer s H vs Q E hr h => ?_
  · obtain ⟨x, dx, ws, J, ds, Φ, Ξ, rfl, _, _, _, hi, ⟨a, b, rfl, _⟩, _⟩ := h
    rw [List.length_cons, hi.len]
    rfl
  · obtain ⟨x, dx, ws, J, ds, Φ, Ξ, rfl, hx, nx, hj, hi, ⟨a, b, rfl, ka, kb, hp⟩, hq, wok⟩ := h
    obtain ⟨u, v, rfl, iu, iv⟩ := hi.inv2
    have w0 : Wr J H H := ⟨fun _ _ _ h => h, hj⟩
    have c1 : QT (cxOf (L2.CX P w) P w K mg base ["self", "number", "modulus"] "Rest.__init__" (defScope (st 0)) f cdv A outer s H E) J H (tst (sts 0 0)) _ := (qt_not (qt_val (q_call I.ok (hr.mono (by decide)) (by rfl) I.gl I.kp I.bd (qa_cons (qv 1) qa_nil))))
    have g1 : QSs (cxOf (L2.CX P w) P w K mg base ["self", "number", "modulus"] "Rest.__init__" (defScope (st 0)) f cdv A outer s H E) J H (bdy (sts 0 0)) _ := (qss_one (qs_raise (c := cNumber) (i := 1) rfl (takes_of rfl rfl rfl rfl) wok (T.rows _ (by decide)) (M _ (by decide)) (T.gl _ (by decide)) (by rfl) (by decide) (hr.mono (by decide)) rfl (by decide) rfl (.inl rfl) (by decide) (by decide)))
    have c2 : QT (cxOf (L2.CX P w) P w K mg base ["self", "number", "modulus"] "Rest.__init__" (defScope (st 0)) f cdv A outer s H E) J H (tst (sts 0 1)) _ := (qt_not (qt_val (q_call L.ok (hr.mono (by decide)) (by rfl) L.gl L.kp L.bd (qa_cons (qv 2) (qa_cons q_int (qa_cons (q_glob (by rfl) T.mod_) qa_nil))))))
    have g2 : QSs (cxOf (L2.CX P w) P w K mg base ["self", "number", "modulus"] "Rest.__init__" (defScope (st 0)) f cdv A outer s H E) J H (bdy (sts 0 1)) _ := (qss_one (qs_raise (c := cNumber) (i := 2) rfl (takes_of rfl rfl rfl rfl) wok (T.rows _ (by decide)) (M _ (by decide)) (T.gl _ (by decide)) (by rfl) (by decide) (hr.mono (by decide)) rfl (by decide) rfl (.inl rfl) (by decide) (by decide)))
    obtain ⟨t1, P1, S1⟩ := c1
    obtain ⟨t2, P2, S2⟩ := g1
    obtain ⟨t3, P3, S3⟩ := c2
    obtain ⟨t4, P4, S4⟩ := g2
    have en : En K J H [some (.ref x), some u, some v] [none, some a, some b] := ⟨rfl, fun i d e => by
      match i, e with
      | 1, e => cases e; exact ⟨u, rfl, iu⟩
      | 2, e => cases e; exact ⟨v, rfl, iv⟩
      | n + 3, e => cases e⟩
    refine ⟨_, pss_cons (ps_if P1 P2 pss_nil) (pss_cons (ps_if P3 P4 pss_nil) (pss_cons (ps_fld (pv 0) (pe_op op_mod (pv 1) (pv 2)) rfl) (pss_one (ps_fld (pv 0) (pv 2) rfl)))), ?_⟩
    refine S1 _ (fun c => c = !wh a) (by simp only [startD, pSeq, pNext, pSet, pRet, pRetN, pVar, pC, pNil, pCons, pTup, pLst, pOp, dI, dI0, pTest, dEq, dNe, pAnd, pOr, pNot, pIf, pIfS, pAndV, pOrV, pCall, pMeth, pFld, pB, pChain, pNoPart, pPart, pSl, dSlS, dSlC, dM1, pFmt, pJs3, pPar, pPar3, pUnp, pJarIx, pJarSet, dIxT, dIxL, dIxS, dIxC, dCat, dRep, dAddS, dOwn2, dOwnI, dOwnR, setAll, noX, List.map_cons, List.map_nil, List.length_cons, List.length_nil, List.cons_append, List.nil_append, List.replicate, List.getElem?_cons_succ, List.getElem?_cons_zero, List.set_cons_zero, List.set_cons_succ, List.zip_cons_cons, List.zip_nil_right, List.foldl_cons, List.foldl_nil, Option.some.injEq, exists_eq_left', exists_eq_left, exists_eq_right, exists_eq, exists_eq', PL.D.int.injEq, PL.D.bl.injEq, PL.D.str.injEq, PL.D.tup.injEq, PL.D.lst.injEq, PL.D.ins.injEq, PL.D.scr.injEq, List.cons.injEq, and_true, true_and, and_self, exists_and_left, exists_and_right, reduceCtorEq, false_and, and_false, exists_false, or_false, false_or, forall_const, false_implies, true_implies, Nat.reduceAdd, Nat.reduceSub, Nat.reduceLeDiff, exists_const, if_true, if_false, Bool.false_eq_true, ne_eq, not_false_eq_true, Nat.sub_self, List.append_nil, PL.isNon_non, PL.isNon_int, PL.isNon_str, PL.isNon_tup, PL.isNon_lst, PL.isNon_bl, pNever, Bool.not_true, Bool.not_false, pfIwn]; exact ka) _ H w0 en _ fun b1 H1 w1 q1 => ite_of (fun z => ?_) fun z => ?_
    · refine S2 _ (fun _ => False) (fun _ => False) ?_ _ H1 w1 (en.mono w1) _ (fun _ _ _ _ _ z => z.elim) fun _ _ _ _ _ z => z.elim
      refine ⟨a, rfl, ?_⟩
      rcases hp with ⟨i, j, rfl, _⟩ | ⟨_, h⟩ | ⟨h, _⟩
      · rw [q1] at z; cases z
      · exact h
      · rw [q1, h] at z; cases z
    have wa : wh a = true := by cases h : wh a with
      | true => rfl
      | false => rw [q1, h] at z; cases z
    refine S3 _ (fun c => c = !btw b 2 1000000) (by simp only [startD, pSeq, pNext, pSet, pRet, pRetN, pVar, pC, pNil, pCons, pTup, pLst, pOp, dI, dI0, pTest, dEq, dNe, pAnd, pOr, pNot, pIf, pIfS, pAndV, pOrV, pCall, pMeth, pFld, pB, pChain, pNoPart, pPart, pSl, dSlS, dSlC, dM1, pFmt, pJs3, pPar, pPar3, pUnp, pJarIx, pJarSet, dIxT, dIxL, dIxS, dIxC, dCat, dRep, dAddS, dOwn2, dOwnI, dOwnR, setAll, noX, List.map_cons, List.map_nil, List.length_cons, List.length_nil, List.cons_append, List.nil_append, List.replicate, List.getElem?_cons_succ, List.getElem?_cons_zero, List.set_cons_zero, List.set_cons_succ, List.zip_cons_cons, List.zip_nil_right, List.foldl_cons, List.foldl_nil, Option.some.injEq, exists_eq_left', exists_eq_left, exists_eq_right, exists_eq, exists_eq', PL.D.int.injEq, PL.D.bl.injEq, PL.D.str.injEq, PL.D.tup.injEq, PL.D.lst.injEq, PL.D.ins.injEq, PL.D.scr.injEq, List.cons.injEq, and_true, true_and, and_self, exists_and_left, exists_and_right, reduceCtorEq, false_and, and_false, exists_false, or_false, false_or, forall_const, false_implies, true_implies, Nat.reduceAdd, Nat.reduceSub, Nat.reduceLeDiff, exists_const, if_true, if_false, Bool.false_eq_true, ne_eq, not_false_eq_true, Nat.sub_self, List.append_nil, PL.isNon_non, PL.isNon_int, PL.isNon_str, PL.isNon_tup, PL.isNon_lst, PL.isNon_bl, pNever, Bool.not_true, Bool.not_false, pfLb]; exact ⟨_, _, _, ⟨rfl, rfl, rfl⟩, kb, rfl⟩) _ H1 w1 (en.mono w1) _ fun b2 H2 w2 q2 => ite_of (fun z => ?_) fun z => ?_
    · refine S4 _ (fun _ => False) (fun _ => False) ?_ _ H2 (w1.trans w2) ((en.mono w1).mono w2) _ (fun _ _ _ _ _ z => z.elim) fun _ _ _ _ _ z => z.elim
      refine ⟨b, rfl, ?_⟩
      rcases hp with ⟨i, m, rfl, rfl, h2, h3, _⟩ | ⟨h, _⟩ | ⟨_, _, h⟩
      · have : btw (.int m) 2 1000000 = true := by
          show (decide (2 ≤ m) && decide (m ≤ 1000000)) = true
          rw [decide_eq_true h2, decide_eq_true h3]
          rfl
        rw [q2, this] at z
        cases z
      · rw [wa] at h; cases h
      · exact h
    rcases hp with ⟨i, m, rfl, rfl, h2, h3, q⟩ | ⟨h, _⟩ | ⟨_, h, _⟩
    · cases iu; cases iv
      have w12 := w1.trans w2
      have hx3 := w12.st x _ nx hx
      refine ⟨_, rfl, _, rfl, ⟨i, m, rfl, rfl, by omega, _, rfl, x, He.ga K kRs, dx, [], rfl, hx3, B.s.cl, B.number, by decide, ?_⟩⟩
      refine ⟨_, rfl, _, rfl, x, He.ga K kRs, dx, _, rfl, upd_same, B.s.cl, B.modulus, by show 1 < 1000; decide, ?_⟩
      refine hq dx [("number", .int (i % m)), ("modulus", .int m)] [("number", .int (i % m)), ("modulus", .int m)] H2 _ w12 (fun b o hb ho => ?_) upd_same (.cons (.int _) (.cons (.int _) .nil)) q
      rw [upd_ne hb, upd_ne hb]
      exact ho
    · rw [wa] at h; cases h
    · rw [q2, h] at z; cases z
end
end K3
set_option Elab.async false
set_option linter.all false
set_option maxRecDepth 100000
set_option maxHeartbeats 4000000

namespace PL
open PySem PySem.Spec PyProof.Rows L2 GX HX
section
variable {X : Cx} {J : Option Addr} {H0 : Hp} {a b : Expr} {pa pb : PEx} {pos : Pos}
def pJs2 (pa pb : PEx) : PEx := fun ρ Φ => pa ρ fun x => ∃ y1 : Str, x = .str y1 ∧ y1.length ≤ 10000 ∧ pb ρ fun x => ∃ y2 : Str, x = .str y2 ∧ y2.length ≤ 10000 ∧ Φ (.str (Str.empty ++ y1 ++ y2))
theorem q_joined2 (ha : QE X J H0 a pa) (hb : QE X J H0 b pb) : QE X J H0 (.JoinedStr [a, b] pos) (pJs2 pa pb) := by
  obtain ⟨ta, h1, s1⟩ := ha
  obtain ⟨tb, h2, s2⟩ := hb
  have z0 : Str.empty.length = 0 := rfl
  have big : ∀ {n : Nat}, n ≤ 30000 → n ≤ sizeLine := fun h => Nat.le_trans h (by decide)
  refine ⟨_, pe_joined (.cons h1 (.cons h2 .nil)), fun ρ Φ h σ H w e Q k => s1 ρ _ h σ H w e _ fun v d H1 w1 i1 q1 => ?_⟩
  obtain ⟨y1, rfl, b1, q⟩ := q1
  cases i1
  refine ⟨y1, rfl, big (by rw [len_app, z0]; omega), s2 ρ _ q σ H1 (w.trans w1) (e.mono w1) _ fun v d H2 w2 i2 q2 => ?_⟩
  obtain ⟨y2, rfl, b2, q⟩ := q2
  cases i2
  exact ⟨y2, rfl, big (by rw [len_app, len_app, z0]; omega), k _ _ H2 (w1.trans w2) (.str _) q⟩
end
end PL
namespace K3
open PySem PySem.Spec PyProof.Rows L2 GX HX PL
/-- Rest's making -/
structure Sin (P : Program) (w : World) (K : PySem.W.Frag) (mg : Str → Option Value) (base : Heap) where
  f : Addr
  fd : FuncData
  mkr : Mk K (He.ga K kRs) f
  bd : Binds K fd ["self", "number", "modulus"] []
  kb : KBn K fd ["self", "number", "modulus"] 1 ["modulus", "number"] (fun us ws => us ++ ws.reverse) (fun vs zs => vs ++ zs.reverse)
  ok : FnOk P w K mg base (L2.CX P w) 5 f fd ["self", "number", "modulus"] (spMk K kRs pfSin)
section
variable {P : Program} {w : World} {K : PySem.W.Frag} {mg : Str → Option Value} {base : Heap} {f : Addr} {fd : FuncData}
theorem fld_num {t b : Int} {Φ : PL.D → Prop} : (∃ gs, rs t b = PL.D.ins kRs gs ∧ ∃ x, gs.lookup ("number" : Str) = some x ∧ Φ x) ↔ Φ (.int t) := by
  constructor
  · rintro ⟨gs, e, x, h, q⟩
    cases e
    cases h
    exact q
  · intro q
    exact ⟨_, rfl, _, rfl, q⟩
theorem fld_mod {t b : Int} {Φ : PL.D → Prop} : (∃ gs, rs t b = PL.D.ins kRs gs ∧ ∃ x, gs.lookup ("modulus" : Str) = some x ∧ Φ x) ↔ Φ (.int b) := by
  constructor
  · rintro ⟨gs, e, x, h, q⟩
    cases e
    cases h
    exact q
  · intro q
    exact ⟨_, rfl, _, rfl, q⟩
theorem ex_rs {t b : Int} : (∃ gs, rs t b = PL.D.ins kRs gs) ↔ True := ⟨fun _ => trivial, fun _ => ⟨_, rfl⟩⟩
theorem isNon_rs {t b : Int} : PL.isNon (rs t b) = false := rfl
theorem gRs_rs {t b : Int} : gRs (rs t b) = true := rfl
theorem wh_rs {t b : Int} : wh (rs t b) = false := rfl
theorem Kd_rs {t b : Int} : Kd (rs t b) := by show kRs ∈ owns; decide
theorem emp_app (x : Str) : Str.empty ++ x = x := TL.ext_tl (by
  show (Str.empty ++ x).cps.toList = x.cps.toList
  rw [Str.cps_append, Array.toList_append]
  rfl)
/-- a modulus -/
def Md (m : Int) : Prop := 2 ≤ m ∧ m ≤ 1000000
theorem Md.bd {m : Int} (h : Md m) : Bd 20 m := by have := h.1; have := h.2; unfold Bd; omega
theorem Md.btw {m : Int} (h : Md m) : btw (.int m) 2 1000000 = true := by
  show (decide (2 ≤ m) && decide (m ≤ 1000000)) = true
  rw [decide_eq_true h.1, decide_eq_true h.2]
  rfl
theorem Bd.lg {n : Nat} {i : Int} (h : Bd n i) (h0 : 0 < n) (h9 : n ≤ 1920) : i.natAbs.log2 < 1920 := Nat.lt_of_lt_of_le (PySem.Flt.log2_lt_of h0 h) h9
/-- a number by a modulus -/
def In (a m : Int) : Prop := 0 ≤ a ∧ a < m
theorem In.bd {a m : Int} (h : In a m) (hm : Md m) : Bd 20 a := by have := h.1; have := h.2; have := hm.2; unfold Bd; omega
theorem in_mod {a m : Int} (hm : Md m) : In (a % m) m := by have := hm.1; exact ⟨Int.emod_nonneg _ (by omega), Int.emod_lt_of_pos _ (by omega)⟩
theorem sin_ok {i m : Int} {Φ : PL.D → Prop} {Ξ : Str → PL.D → Prop} (hm : Md m) (q : Φ (rs (i % m) m)) : pfSin [.int i, .int m] Φ Ξ := ⟨_, _, rfl, trivial, trivial, .inl ⟨i, m, rfl, rfl, hm.1, hm.2, q⟩⟩
/-- the text of a kind of rests -/
def kn (m : Int) : Str := ("rest " : Str) ++ ((toString m : String) : Str)
/-! ### _number_beside -/
theorem scNb : FnScope ["rest", "other"] ["rest", "other"] (defScope (top 26)) := ⟨rfl, rfl, rfl, by decide +kernel, rfl, by decide +kernel, by decide +kernel⟩
def pfNb : PF := fun ds Φ Ξ => ∃ a m o, ds = [rs a m, o] ∧ Md m ∧ ((∃ i : Int, (o = .int i ∨ o = rs i m) ∧ Φ (.int i)) ∨ ∃ i m', o = rs i m' ∧ Md m' ∧ m' ≠ m ∧ Ξ "Unlike" (.tup [.str (kn m), .str (kn m')]))
theorem ok_nb (DF : Df K mg "_number_beside" 26 f fd) (T : Txt K mg) (B : Cl_ K mg) (M : Inits K) (I : FIwn P w K mg base) : FnP P w K mg base 3 f fd ["rest", "other"] pfNb := by
  refine fnP DF.fn scNb (fun ds Φ Ξ h => ?_) fun cdv A outer s H E J Ξ hr wok => ⟨_, (qss_cons (qs_if (qt_val (q_isi B.ics (T.free "isinstance" (by decide +kernel)) (by rfl) (pe_glob (v := .ref (He.ga K kRs)) (by rfl) B.s.gl rfl) (.own _) B.kRs_ (qv 1))) (qss_cons (qs_if (qt_cmp op_ne rd_ne (q_fld B.s.cl B.modulus (qv 1)) (q_fld B.s.cl B.modulus (qv 0)) (nomark _)) (qss_one (qs_raiseN (c := cUnlike) rfl (takes_of rfl rfl rfl rfl) wok (T.rows _ (by decide)) (M _ (by decide)) (T.gl _ (by decide)) (by rfl) (by decide) (hr.mono (by decide)) (by decide) (by decide) (by decide) (qa_cons (q_joined2 q_str (q_fmt (q_fld B.s.cl B.modulus (qv 0)))) (qa_cons (q_joined2 q_str (q_fmt (q_fld B.s.cl B.modulus (qv 1)))) qa_nil)))) qss_nil)
      (qss_one (qs_ret (q_fld B.s.cl B.number (qv 1))))) qss_nil)
      (qss_cons (qs_if (qt_val (q_call I.ok (hr.mono (by decide)) (by rfl) I.gl I.kp I.bd (qa_cons (qv 1) qa_nil))) (qss_one (qs_ret (qv 1))) qss_nil)
      (qss_one (qs_ret q_non)))), fun ds Φ h => ?_⟩
  · obtain ⟨_, _, _, rfl, _⟩ := h
    rfl
  · obtain ⟨a, m, o, rfl, hm, h⟩ := h
    simp only [startD, pSeq, pNext, pSet, pRet, pRetN, pVar, pC, pNil, pCons, pTup, pLst, pOp, dI, dI0, pTest, dEq, dNe, pAnd, pOr, pNot, pIf, pIfS, pAndV, pOrV, pCall, pMeth, pFld, pB, pChain, pNoPart, pPart, pSl, dSlS, dSlC, dM1, pFmt, pJs3, pPar, pPar3, pUnp, pJarIx, pJarSet, dIxT, dIxL, dIxS, dIxC, dCat, dRep, dAddS, dOwn2, dOwnI, dOwnR, setAll, noX, List.map_cons, List.map_nil, List.length_cons, List.length_nil, List.cons_append, List.nil_append, List.replicate, List.getElem?_cons_succ, List.getElem?_cons_zero, List.set_cons_zero, List.set_cons_succ, List.zip_cons_cons, List.zip_nil_right, List.foldl_cons, List.foldl_nil, Option.some.injEq, exists_eq_left', exists_eq_left, exists_eq_right, exists_eq, exists_eq', PL.D.int.injEq, PL.D.bl.injEq, PL.D.str.injEq, PL.D.tup.injEq, PL.D.lst.injEq, PL.D.ins.injEq, PL.D.scr.injEq, List.cons.injEq, and_true, true_and, and_self, exists_and_left, exists_and_right, reduceCtorEq, false_and, and_false, exists_false, or_false, false_or, forall_const, false_implies, true_implies, Nat.reduceAdd, Nat.reduceSub, Nat.reduceLeDiff, exists_const, if_true, if_false, Bool.false_eq_true, ne_eq, not_false_eq_true, Nat.sub_self, List.append_nil, PL.isNon_non, PL.isNon_int, PL.isNon_str, PL.isNon_tup, PL.isNon_lst, PL.isNon_bl, pNever, Bool.not_true, Bool.not_false, Int.reduceLT, Int.reduceLE,  PL.pFld, fld_num, fld_mod, ex_rs, isNon_rs, pJs2, pfIwn]
    have lm : ∀ {m : Int}, Md m → m.natAbs.log2 < 1920 := fun h => h.bd.lg (by decide) (by decide)
    have ln : ∀ {m : Int}, Md m → (((toString m : String) : Str)).length ≤ 10000 := fun h => Nat.le_trans (PyProof.Rows.int_text_len_1921 (lm h)) (by decide)
    rcases h with ⟨i, rfl | rfl, q⟩ | ⟨i, m', rfl, hm', hne, q⟩
    · exact ⟨Kd.ty (d := .int i) trivial, fun c => (by cases c), fun _ => ⟨trivial, fun _ => q, fun c => (by cases c)⟩⟩
    · refine ⟨Kd_rs.ty, fun _ => ⟨_, rfl, .int m, rfl, rfl, fun c => ?_, fun _ => ⟨_, rfl, _, rfl, q⟩⟩, fun c => (by cases c)⟩
      rw [show eqS (PL.D.int m) (PL.D.int m) = true from decide_eq_true rfl] at c
      cases c
    · refine ⟨Kd_rs.ty, fun _ => ⟨_, rfl, .int m', rfl, rfl, fun _ => ⟨by decide, lm hm, ln hm, by decide, _, rfl, .int m', rfl, .inr ⟨m', rfl, lm hm', ln hm', rfl, ?_⟩⟩, fun c => ?_⟩, fun c => (by cases c)⟩
      · rw [emp_app]
        exact q
      · rw [show eqS (PL.D.int m') (PL.D.int m) = false from decide_eq_false hne] at c
        cases c
abbrev FNb (P : Program) (w : World) (K : PySem.W.Frag) (mg : Str → Option Value) (base : Heap) := Fn P w K mg base "_number_beside" 3 ["rest", "other"] pfNb
def pfBin (ok : Int → Int → Prop) (g : Int → Int → Int) : PF := fun ds Φ Ξ => ∃ a m o, ds = [rs a m, o] ∧ Md m ∧ ((∃ i : Int, (o = .int i ∨ o = rs i m) ∧ ok a i ∧ Φ (rs (g a i % m) m)) ∨ ∃ i m', o = rs i m' ∧ Md m' ∧ m' ≠ m ∧ Ξ "Unlike" (.tup [.str (kn m), .str (kn m')]))
theorem scAdd : FnScope ["self", "other", "number"] ["self", "other"] (defScope (st 5)) := ⟨rfl, rfl, rfl, by decide +kernel, rfl, by decide +kernel, by decide +kernel⟩
abbrev pfAdd : PF := pfBin (fun _ _ => True) (fun a i => a + i)
theorem ok_add (F : Sf K "__add__" "Rest.__add__" 5 f fd) (T : Txt K mg) (B : Cl_ K mg) (NB : FNb P w K mg base) (N : Sin P w K mg base) : FnP P w K mg base 7 f fd ["self", "other"] pfAdd := by
  refine fnP F scAdd (fun ds Φ Ξ h => ?_) fun cdv A outer s H E J Ξ hr wok => ⟨_, (qss_cons (qs_set (i := 2) scAdd.nd rfl (.inl rfl) (q_callX NB.ok (hr.mono (by decide)) (by rfl) NB.gl NB.kp NB.bd passOwn wok (qa_cons (qv 0) (qa_cons (qv 1) qa_nil))))
      (qss_cons (qs_if (qt_isN (qv 2)) (qss_one qs_never) qss_nil)
      (qss_one (qs_ret (q_make (dvs := []) (dds := []) N.mkr N.ok (hr.mono (by decide)) (by rfl) B.s.gl N.bd .nil (fun _ => .nil) pass00 wok0 (qa_cons (q_add (q_fld B.s.cl B.number (qv 0)) (qv 2)) (qa_cons (q_fld B.s.cl B.modulus (qv 0)) qa_nil))))))), fun ds Φ h => ?_⟩
  · obtain ⟨_, _, _, rfl, _⟩ := h
    rfl
  · obtain ⟨a, m, o, rfl, hm, ⟨i, ho, hok, q⟩ | ⟨i, m', rfl, hm', hne, q⟩⟩ := h
    · simp only [startD, pSeq, pNext, pSet, pRet, pRetN, pVar, pC, pNil, pCons, pTup, pLst, pOp, dI, dI0, pTest, dEq, dNe, pAnd, pOr, pNot, pIf, pIfS, pAndV, pOrV, pCall, pMeth, pFld, pB, pChain, pNoPart, pPart, pSl, dSlS, dSlC, dM1, pFmt, pJs3, pPar, pPar3, pUnp, pJarIx, pJarSet, dIxT, dIxL, dIxS, dIxC, dCat, dRep, dAddS, dOwn2, dOwnI, dOwnR, setAll, noX, List.map_cons, List.map_nil, List.length_cons, List.length_nil, List.cons_append, List.nil_append, List.replicate, List.getElem?_cons_succ, List.getElem?_cons_zero, List.set_cons_zero, List.set_cons_succ, List.zip_cons_cons, List.zip_nil_right, List.foldl_cons, List.foldl_nil, Option.some.injEq, exists_eq_left', exists_eq_left, exists_eq_right, exists_eq, exists_eq', PL.D.int.injEq, PL.D.bl.injEq, PL.D.str.injEq, PL.D.tup.injEq, PL.D.lst.injEq, PL.D.ins.injEq, PL.D.scr.injEq, List.cons.injEq, and_true, true_and, and_self, exists_and_left, exists_and_right, reduceCtorEq, false_and, and_false, exists_false, or_false, false_or, forall_const, false_implies, true_implies, Nat.reduceAdd, Nat.reduceSub, Nat.reduceLeDiff, exists_const, if_true, if_false, Bool.false_eq_true, ne_eq, not_false_eq_true, Nat.sub_self, List.append_nil, PL.isNon_non, PL.isNon_int, PL.isNon_str, PL.isNon_tup, PL.isNon_lst, PL.isNon_bl, pNever, Bool.not_true, Bool.not_false, Int.reduceLT, Int.reduceLE,  PL.pFld, fld_num, fld_mod, ex_rs, isNon_rs, pJs2]
      refine ⟨a, m, o, rfl, hm, .inl ⟨i, ho, ?_⟩⟩
      simp only [startD, pSeq, pNext, pSet, pRet, pRetN, pVar, pC, pNil, pCons, pTup, pLst, pOp, dI, dI0, pTest, dEq, dNe, pAnd, pOr, pNot, pIf, pIfS, pAndV, pOrV, pCall, pMeth, pFld, pB, pChain, pNoPart, pPart, pSl, dSlS, dSlC, dM1, pFmt, pJs3, pPar, pPar3, pUnp, pJarIx, pJarSet, dIxT, dIxL, dIxS, dIxC, dCat, dRep, dAddS, dOwn2, dOwnI, dOwnR, setAll, noX, List.map_cons, List.map_nil, List.length_cons, List.length_nil, List.cons_append, List.nil_append, List.replicate, List.getElem?_cons_succ, List.getElem?_cons_zero, List.set_cons_zero, List.set_cons_succ, List.zip_cons_cons, List.zip_nil_right, List.foldl_cons, List.foldl_nil, Option.some.injEq, exists_eq_left', exists_eq_left, exists_eq_right, exists_eq, exists_eq', PL.D.int.injEq, PL.D.bl.injEq, PL.D.str.injEq, PL.D.tup.injEq, PL.D.lst.injEq, PL.D.ins.injEq, PL.D.scr.injEq, List.cons.injEq, and_true, true_and, and_self, exists_and_left, exists_and_right, reduceCtorEq, false_and, and_false, exists_false, or_false, false_or, forall_const, false_implies, true_implies, Nat.reduceAdd, Nat.reduceSub, Nat.reduceLeDiff, exists_const, if_true, if_false, Bool.false_eq_true, ne_eq, not_false_eq_true, Nat.sub_self, List.append_nil, PL.isNon_non, PL.isNon_int, PL.isNon_str, PL.isNon_tup, PL.isNon_lst, PL.isNon_bl, pNever, Bool.not_true, Bool.not_false, Int.reduceLT, Int.reduceLE,  PL.pFld, fld_num, fld_mod, ex_rs, isNon_rs, pJs2]
      exact sin_ok hm q
    · simp only [startD, pSeq, pNext, pSet, pRet, pRetN, pVar, pC, pNil, pCons, pTup, pLst, pOp, dI, dI0, pTest, dEq, dNe, pAnd, pOr, pNot, pIf, pIfS, pAndV, pOrV, pCall, pMeth, pFld, pB, pChain, pNoPart, pPart, pSl, dSlS, dSlC, dM1, pFmt, pJs3, pPar, pPar3, pUnp, pJarIx, pJarSet, dIxT, dIxL, dIxS, dIxC, dCat, dRep, dAddS, dOwn2, dOwnI, dOwnR, setAll, noX, List.map_cons, List.map_nil, List.length_cons, List.length_nil, List.cons_append, List.nil_append, List.replicate, List.getElem?_cons_succ, List.getElem?_cons_zero, List.set_cons_zero, List.set_cons_succ, List.zip_cons_cons, List.zip_nil_right, List.foldl_cons, List.foldl_nil, Option.some.injEq, exists_eq_left', exists_eq_left, exists_eq_right, exists_eq, exists_eq', PL.D.int.injEq, PL.D.bl.injEq, PL.D.str.injEq, PL.D.tup.injEq, PL.D.lst.injEq, PL.D.ins.injEq, PL.D.scr.injEq, List.cons.injEq, and_true, true_and, and_self, exists_and_left, exists_and_right, reduceCtorEq, false_and, and_false, exists_false, or_false, false_or, forall_const, false_implies, true_implies, Nat.reduceAdd, Nat.reduceSub, Nat.reduceLeDiff, exists_const, if_true, if_false, Bool.false_eq_true, ne_eq, not_false_eq_true, Nat.sub_self, List.append_nil, PL.isNon_non, PL.isNon_int, PL.isNon_str, PL.isNon_tup, PL.isNon_lst, PL.isNon_bl, pNever, Bool.not_true, Bool.not_false, Int.reduceLT, Int.reduceLE,  PL.pFld, fld_num, fld_mod, ex_rs, isNon_rs, pJs2]
      exact ⟨a, m, _, rfl, hm, .inr ⟨i, m', rfl, hm', hne, q⟩⟩
theorem scRad : FnScope ["self", "other", "number"] ["self", "other"] (defScope (st 6)) := ⟨rfl, rfl, rfl, by decide +kernel, rfl, by decide +kernel, by decide +kernel⟩
abbrev pfRad : PF := pfBin (fun _ _ => True) (fun a i => i + a)
theorem ok_rad (F : Sf K "__radd__" "Rest.__radd__" 6 f fd) (T : Txt K mg) (B : Cl_ K mg) (NB : FNb P w K mg base) (N : Sin P w K mg base) : FnP P w K mg base 7 f fd ["self", "other"] pfRad := by
  refine fnP F scRad (fun ds Φ Ξ h => ?_) fun cdv A outer s H E J Ξ hr wok => ⟨_, (qss_cons (qs_set (i := 2) scRad.nd rfl (.inl rfl) (q_callX NB.ok (hr.mono (by decide)) (by rfl) NB.gl NB.kp NB.bd passOwn wok (qa_cons (qv 0) (qa_cons (qv 1) qa_nil))))
      (qss_cons (qs_if (qt_isN (qv 2)) (qss_one qs_never) qss_nil)
      (qss_one (qs_ret (q_make (dvs := []) (dds := []) N.mkr N.ok (hr.mono (by decide)) (by rfl) B.s.gl N.bd .nil (fun _ => .nil) pass00 wok0 (qa_cons (q_add (qv 2) (q_fld B.s.cl B.number (qv 0))) (qa_cons (q_fld B.s.cl B.modulus (qv 0)) qa_nil))))))), fun ds Φ h => ?_⟩
  · obtain ⟨_, _, _, rfl, _⟩ := h
    rfl
  · obtain ⟨a, m, o, rfl, hm, ⟨i, ho, hok, q⟩ | ⟨i, m', rfl, hm', hne, q⟩⟩ := h
    · simp only [startD, pSeq, pNext, pSet, pRet, pRetN, pVar, pC, pNil, pCons, pTup, pLst, pOp, dI, dI0, pTest, dEq, dNe, pAnd, pOr, pNot, pIf, pIfS, pAndV, pOrV, pCall, pMeth, pFld, pB, pChain, pNoPart, pPart, pSl, dSlS, dSlC, dM1, pFmt, pJs3, pPar, pPar3, pUnp, pJarIx, pJarSet, dIxT, dIxL, dIxS, dIxC, dCat, dRep, dAddS, dOwn2, dOwnI, dOwnR, setAll, noX, List.map_cons, List.map_nil, List.length_cons, List.length_nil, List.cons_append, List.nil_append, List.replicate, List.getElem?_cons_succ, List.getElem?_cons_zero, List.set_cons_zero, List.set_cons_succ, List.zip_cons_cons, List.zip_nil_right, List.foldl_cons, List.foldl_nil, Option.some.injEq, exists_eq_left', exists_eq_left, exists_eq_right, exists_eq, exists_eq', PL.D.int.injEq, PL.D.bl.injEq, PL.D.str.injEq, PL.D.tup.injEq, PL.D.lst.injEq, PL.D.ins.injEq, PL.D.scr.injEq, List.cons.injEq, and_true, true_and, and_self, exists_and_left, exists_and_right, reduceCtorEq, false_and, and_false, exists_false, or_false, false_or, forall_const, false_implies, true_implies, Nat.reduceAdd, Nat.reduceSub, Nat.reduceLeDiff, exists_const, if_true, if_false, Bool.false_eq_true, ne_eq, not_false_eq_true, Nat.sub_self, List.append_nil, PL.isNon_non, PL.isNon_int, PL.isNon_str, PL.isNon_tup, PL.isNon_lst, PL.isNon_bl, pNever, Bool.not_true, Bool.not_false, Int.reduceLT, Int.reduceLE,  PL.pFld, fld_num, fld_mod, ex_rs, isNon_rs, pJs2]
      refine ⟨a, m, o, rfl, hm, .inl ⟨i, ho, ?_⟩⟩
      simp only [startD, pSeq, pNext, pSet, pRet, pRetN, pVar, pC, pNil, pCons, pTup, pLst, pOp, dI, dI0, pTest, dEq, dNe, pAnd, pOr, pNot, pIf, pIfS, pAndV, pOrV, pCall, pMeth, pFld, pB, pChain, pNoPart, pPart, pSl, dSlS, dSlC, dM1, pFmt, pJs3, pPar, pPar3, pUnp, pJarIx, pJarSet, dIxT, dIxL, dIxS, dIxC, dCat, dRep, dAddS, dOwn2, dOwnI, dOwnR, setAll, noX, List.map_cons, List.map_nil, List.length_cons, List.length_nil, List.cons_append, List.nil_append, List.replicate, List.getElem?_cons_succ, List.getElem?_cons_zero, List.set_cons_zero, List.set_cons_succ, List.zip_cons_cons, List.zip_nil_right, List.foldl_cons, List.foldl_nil, Option.some.injEq, exists_eq_left', exists_eq_left, exists_eq_right, exists_eq, exists_eq', PL.D.int.injEq, PL.D.bl.injEq, PL.D.str.injEq, PL.D.tup.injEq, PL.D.lst.injEq, PL.D.ins.injEq, PL.D.scr.injEq, List.cons.injEq, and_true, true_and, and_self, exists_and_left, exists_and_right, reduceCtorEq, false_and, and_false, exists_false, or_false, false_or, forall_const, false_implies, true_implies, Nat.reduceAdd, Nat.reduceSub, Nat.reduceLeDiff, exists_const, if_true, if_false, Bool.false_eq_true, ne_eq, not_false_eq_true, Nat.sub_self, List.append_nil, PL.isNon_non, PL.isNon_int, PL.isNon_str, PL.isNon_tup, PL.isNon_lst, PL.isNon_bl, pNever, Bool.not_true, Bool.not_false, Int.reduceLT, Int.reduceLE,  PL.pFld, fld_num, fld_mod, ex_rs, isNon_rs, pJs2]
      exact sin_ok hm q
    · simp only [startD, pSeq, pNext, pSet, pRet, pRetN, pVar, pC, pNil, pCons, pTup, pLst, pOp, dI, dI0, pTest, dEq, dNe, pAnd, pOr, pNot, pIf, pIfS, pAndV, pOrV, pCall, pMeth, pFld, pB, pChain, pNoPart, pPart, pSl, dSlS, dSlC, dM1, pFmt, pJs3, pPar, pPar3, pUnp, pJarIx, pJarSet, dIxT, dIxL, dIxS, dIxC, dCat, dRep, dAddS, dOwn2, dOwnI, dOwnR, setAll, noX, List.map_cons, List.map_nil, List.length_cons, List.length_nil, List.cons_append, List.nil_append, List.replicate, List.getElem?_cons_succ, List.getElem?_cons_zero, List.set_cons_zero, List.set_cons_succ, List.zip_cons_cons, List.zip_nil_right, List.foldl_cons, List.foldl_nil, Option.some.injEq, exists_eq_left', exists_eq_left, exists_eq_right, exists_eq, exists_eq', PL.D.int.injEq, PL.D.bl.injEq, PL.D.str.injEq, PL.D.tup.injEq, PL.D.lst.injEq, PL.D.ins.injEq, PL.D.scr.injEq, List.cons.injEq, and_true, true_and, and_self, exists_and_left, exists_and_right, reduceCtorEq, false_and, and_false, exists_false, or_false, false_or, forall_const, false_implies, true_implies, Nat.reduceAdd, Nat.reduceSub, Nat.reduceLeDiff, exists_const, if_true, if_false, Bool.false_eq_true, ne_eq, not_false_eq_true, Nat.sub_self, List.append_nil, PL.isNon_non, PL.isNon_int, PL.isNon_str, PL.isNon_tup, PL.isNon_lst, PL.isNon_bl, pNever, Bool.not_true, Bool.not_false, Int.reduceLT, Int.reduceLE,  PL.pFld, fld_num, fld_mod, ex_rs, isNon_rs, pJs2]
      exact ⟨a, m, _, rfl, hm, .inr ⟨i, m', rfl, hm', hne, q⟩⟩
theorem scSub : FnScope ["self", "other", "number"] ["self", "other"] (defScope (st 7)) := ⟨rfl, rfl, rfl, by decide +kernel, rfl, by decide +kernel, by decide +kernel⟩
abbrev pfSub : PF := pfBin (fun _ _ => True) (fun a i => a - i)
theorem ok_sub (F : Sf K "__sub__" "Rest.__sub__" 7 f fd) (T : Txt K mg) (B : Cl_ K mg) (NB : FNb P w K mg base) (N : Sin P w K mg base) : FnP P w K mg base 7 f fd ["self", "other"] pfSub := by
  refine fnP F scSub (fun ds Φ Ξ h => ?_) fun cdv A outer s H E J Ξ hr wok => ⟨_, (qss_cons (qs_set (i := 2) scSub.nd rfl (.inl rfl) (q_callX NB.ok (hr.mono (by decide)) (by rfl) NB.gl NB.kp NB.bd passOwn wok (qa_cons (qv 0) (qa_cons (qv 1) qa_nil))))
      (qss_cons (qs_if (qt_isN (qv 2)) (qss_one qs_never) qss_nil)
      (qss_one (qs_ret (q_make (dvs := []) (dds := []) N.mkr N.ok (hr.mono (by decide)) (by rfl) B.s.gl N.bd .nil (fun _ => .nil) pass00 wok0 (qa_cons (q_sub (q_fld B.s.cl B.number (qv 0)) (qv 2)) (qa_cons (q_fld B.s.cl B.modulus (qv 0)) qa_nil))))))), fun ds Φ h => ?_⟩
  · obtain ⟨_, _, _, rfl, _⟩ := h
    rfl
  · obtain ⟨a, m, o, rfl, hm, ⟨i, ho, hok, q⟩ | ⟨i, m', rfl, hm', hne, q⟩⟩ := h
    · simp only [startD, pSeq, pNext, pSet, pRet, pRetN, pVar, pC, pNil, pCons, pTup, pLst, pOp, dI, dI0, pTest, dEq, dNe, pAnd, pOr, pNot, pIf, pIfS, pAndV, pOrV, pCall, pMeth, pFld, pB, pChain, pNoPart, pPart, pSl, dSlS, dSlC, dM1, pFmt, pJs3, pPar, pPar3, pUnp, pJarIx, pJarSet, dIxT, dIxL, dIxS, dIxC, dCat, dRep, dAddS, dOwn2, dOwnI, dOwnR, setAll, noX, List.map_cons, List.map_nil, List.length_cons, List.length_nil, List.cons_append, List.nil_append, List.replicate, List.getElem?_cons_succ, List.getElem?_cons_zero, List.set_cons_zero, List.set_cons_succ, List.zip_cons_cons, List.zip_nil_right, List.foldl_cons, List.foldl_nil, Option.some.injEq, exists_eq_left', exists_eq_left, exists_eq_right, exists_eq, exists_eq', PL.D.int.injEq, PL.D.bl.injEq, PL.D.str.injEq, PL.D.tup.injEq, PL.D.lst.injEq, PL.D.ins.injEq, PL.D.scr.injEq, List.cons.injEq, and_true, true_and, and_self, exists_and_left, exists_and_right, reduceCtorEq, false_and, and_false, exists_false, or_false, false_or, forall_const, false_implies, true_implies, Nat.reduceAdd, Nat.reduceSub, Nat.reduceLeDiff, exists_const, if_true, if_false, Bool.false_eq_true, ne_eq, not_false_eq_true, Nat.sub_self, List.append_nil, PL.isNon_non, PL.isNon_int, PL.isNon_str, PL.isNon_tup, PL.isNon_lst, PL.isNon_bl, pNever, Bool.not_true, Bool.not_false, Int.reduceLT, Int.reduceLE,  PL.pFld, fld_num, fld_mod, ex_rs, isNon_rs, pJs2]
      refine ⟨a, m, o, rfl, hm, .inl ⟨i, ho, ?_⟩⟩
      simp only [startD, pSeq, pNext, pSet, pRet, pRetN, pVar, pC, pNil, pCons, pTup, pLst, pOp, dI, dI0, pTest, dEq, dNe, pAnd, pOr, pNot, pIf, pIfS, pAndV, pOrV, pCall, pMeth, pFld, pB, pChain, pNoPart, pPart, pSl, dSlS, dSlC, dM1, pFmt, pJs3, pPar, pPar3, pUnp, pJarIx, pJarSet, dIxT, dIxL, dIxS, dIxC, dCat, dRep, dAddS, dOwn2, dOwnI, dOwnR, setAll, noX, List.map_cons, List.map_nil, List.length_cons, List.length_nil, List.cons_append, List.nil_append, List.replicate, List.getElem?_cons_succ, List.getElem?_cons_zero, List.set_cons_zero, List.set_cons_succ, List.zip_cons_cons, List.zip_nil_right, List.foldl_cons, List.foldl_nil, Option.some.injEq, exists_eq_left', exists_eq_left, exists_eq_right, exists_eq, exists_eq', PL.D.int.injEq, PL.D.bl.injEq, PL.D.str.injEq, PL.D.tup.injEq, PL.D.lst.injEq, PL.D.ins.injEq, PL.D.scr.injEq, List.cons.injEq, and_true, true_and, and_self, exists_and_left, exists_and_right, reduceCtorEq, false_and, and_false, exists_false, or_false, false_or, forall_const, false_implies, true_implies, Nat.reduceAdd, Nat.reduceSub, Nat.reduceLeDiff, exists_const, if_true, if_false, Bool.false_eq_true, ne_eq, not_false_eq_true, Nat.sub_self, List.append_nil, PL.isNon_non, PL.isNon_int, PL.isNon_str, PL.isNon_tup, PL.isNon_lst, PL.isNon_bl, pNever, Bool.not_true, Bool.not_false, Int.reduceLT, Int.reduceLE,  PL.pFld, fld_num, fld_mod, ex_rs, isNon_rs, pJs2]
      exact sin_ok hm q
    · simp only [startD, pSeq, pNext, pSet, pRet, pRetN, pVar, pC, pNil, pCons, pTup, pLst, pOp, dI, dI0, pTest, dEq, dNe, pAnd, pOr, pNot, pIf, pIfS, pAndV, pOrV, pCall, pMeth, pFld, pB, pChain, pNoPart, pPart, pSl, dSlS, dSlC, dM1, pFmt, pJs3, pPar, pPar3, pUnp, pJarIx, pJarSet, dIxT, dIxL, dIxS, dIxC, dCat, dRep, dAddS, dOwn2, dOwnI, dOwnR, setAll, noX, List.map_cons, List.map_nil, List.length_cons, List.length_nil, List.cons_append, List.nil_append, List.replicate, List.getElem?_cons_succ, List.getElem?_cons_zero, List.set_cons_zero, List.set_cons_succ, List.zip_cons_cons, List.zip_nil_right, List.foldl_cons, List.foldl_nil, Option.some.injEq, exists_eq_left', exists_eq_left, exists_eq_right, exists_eq, exists_eq', PL.D.int.injEq, PL.D.bl.injEq, PL.D.str.injEq, PL.D.tup.injEq, PL.D.lst.injEq, PL.D.ins.injEq, PL.D.scr.injEq, List.cons.injEq, and_true, true_and, and_self, exists_and_left, exists_and_right, reduceCtorEq, false_and, and_false, exists_false, or_false, false_or, forall_const, false_implies, true_implies, Nat.reduceAdd, Nat.reduceSub, Nat.reduceLeDiff, exists_const, if_true, if_false, Bool.false_eq_true, ne_eq, not_false_eq_true, Nat.sub_self, List.append_nil, PL.isNon_non, PL.isNon_int, PL.isNon_str, PL.isNon_tup, PL.isNon_lst, PL.isNon_bl, pNever, Bool.not_true, Bool.not_false, Int.reduceLT, Int.reduceLE,  PL.pFld, fld_num, fld_mod, ex_rs, isNon_rs, pJs2]
      exact ⟨a, m, _, rfl, hm, .inr ⟨i, m', rfl, hm', hne, q⟩⟩
theorem scRsu : FnScope ["self", "other", "number"] ["self", "other"] (defScope (st 8)) := ⟨rfl, rfl, rfl, by decide +kernel, rfl, by decide +kernel, by decide +kernel⟩
abbrev pfRsu : PF := pfBin (fun _ _ => True) (fun a i => i - a)
theorem ok_rsu (F : Sf K "__rsub__" "Rest.__rsub__" 8 f fd) (T : Txt K mg) (B : Cl_ K mg) (NB : FNb P w K mg base) (N : Sin P w K mg base) : FnP P w K mg base 7 f fd ["self", "other"] pfRsu := by
  refine fnP F scRsu (fun ds Φ Ξ h => ?_) fun cdv A outer s H E J Ξ hr wok => ⟨_, (qss_cons (qs_set (i := 2) scRsu.nd rfl (.inl rfl) (q_callX NB.ok (hr.mono (by decide)) (by rfl) NB.gl NB.kp NB.bd passOwn wok (qa_cons (qv 0) (qa_cons (qv 1) qa_nil))))
      (qss_cons (qs_if (qt_isN (qv 2)) (qss_one qs_never) qss_nil)
      (qss_one (qs_ret (q_make (dvs := []) (dds := []) N.mkr N.ok (hr.mono (by decide)) (by rfl) B.s.gl N.bd .nil (fun _ => .nil) pass00 wok0 (qa_cons (q_sub (qv 2) (q_fld B.s.cl B.number (qv 0))) (qa_cons (q_fld B.s.cl B.modulus (qv 0)) qa_nil))))))), fun ds Φ h => ?_⟩
  · obtain ⟨_, _, _, rfl, _⟩ := h
    rfl
  · obtain ⟨a, m, o, rfl, hm, ⟨i, ho, hok, q⟩ | ⟨i, m', rfl, hm', hne, q⟩⟩ := h
    · simp only [startD, pSeq, pNext, pSet, pRet, pRetN, pVar, pC, pNil, pCons, pTup, pLst, pOp, dI, dI0, pTest, dEq, dNe, pAnd, pOr, pNot, pIf, pIfS, pAndV, pOrV, pCall, pMeth, pFld, pB, pChain, pNoPart, pPart, pSl, dSlS, dSlC, dM1, pFmt, pJs3, pPar, pPar3, pUnp, pJarIx, pJarSet, dIxT, dIxL, dIxS, dIxC, dCat, dRep, dAddS, dOwn2, dOwnI, dOwnR, setAll, noX, List.map_cons, List.map_nil, List.length_cons, List.length_nil, List.cons_append, List.nil_append, List.replicate, List.getElem?_cons_succ, List.getElem?_cons_zero, List.set_cons_zero, List.set_cons_succ, List.zip_cons_cons, List.zip_nil_right, List.foldl_cons, List.foldl_nil, Option.some.injEq, exists_eq_left', exists_eq_left, exists_eq_right, exists_eq, exists_eq', PL.D.int.injEq, PL.D.bl.injEq, PL.D.str.injEq, PL.D.tup.injEq, PL.D.lst.injEq, PL.D.ins.injEq, PL.D.scr.injEq, List.cons.injEq, and_true, true_and, and_self, exists_and_left, exists_and_right, reduceCtorEq, false_and, and_false, exists_false, or_false, false_or, forall_const, false_implies, true_implies, Nat.reduceAdd, Nat.reduceSub, Nat.reduceLeDiff, exists_const, if_true, if_false, Bool.false_eq_true, ne_eq, not_false_eq_true, Nat.sub_self, List.append_nil, PL.isNon_non, PL.isNon_int, PL.isNon_str, PL.isNon_tup, PL.isNon_lst, PL.isNon_bl, pNever, Bool.not_true, Bool.not_false, Int.reduceLT, Int.reduceLE,  PL.pFld, fld_num, fld_mod, ex_rs, isNon_rs, pJs2]
      refine ⟨a, m, o, rfl, hm, .inl ⟨i, ho, ?_⟩⟩
      simp only [startD, pSeq, pNext, pSet, pRet, pRetN, pVar, pC, pNil, pCons, pTup, pLst, pOp, dI, dI0, pTest, dEq, dNe, pAnd, pOr, pNot, pIf, pIfS, pAndV, pOrV, pCall, pMeth, pFld, pB, pChain, pNoPart, pPart, pSl, dSlS, dSlC, dM1, pFmt, pJs3, pPar, pPar3, pUnp, pJarIx, pJarSet, dIxT, dIxL, dIxS, dIxC, dCat, dRep, dAddS, dOwn2, dOwnI, dOwnR, setAll, noX, List.map_cons, List.map_nil, List.length_cons, List.length_nil, List.cons_append, List.nil_append, List.replicate, List.getElem?_cons_succ, List.getElem?_cons_zero, List.set_cons_zero, List.set_cons_succ, List.zip_cons_cons, List.zip_nil_right, List.foldl_cons, List.foldl_nil, Option.some.injEq, exists_eq_left', exists_eq_left, exists_eq_right, exists_eq, exists_eq', PL.D.int.injEq, PL.D.bl.injEq, PL.D.str.injEq, PL.D.tup.injEq, PL.D.lst.injEq, PL.D.ins.injEq, PL.D.scr.injEq, List.cons.injEq, and_true, true_and, and_self, exists_and_left, exists_and_right, reduceCtorEq, false_and, and_false, exists_false, or_false, false_or, forall_const, false_implies, true_implies, Nat.reduceAdd, Nat.reduceSub, Nat.reduceLeDiff, exists_const, if_true, if_false, Bool.false_eq_true, ne_eq, not_false_eq_true, Nat.sub_self, List.append_nil, PL.isNon_non, PL.isNon_int, PL.isNon_str, PL.isNon_tup, PL.isNon_lst, PL.isNon_bl, pNever, Bool.not_true, Bool.not_false, Int.reduceLT, Int.reduceLE,  PL.pFld, fld_num, fld_mod, ex_rs, isNon_rs, pJs2]
      exact sin_ok hm q
    · simp only [startD, pSeq, pNext, pSet, pRet, pRetN, pVar, pC, pNil, pCons, pTup, pLst, pOp, dI, dI0, pTest, dEq, dNe, pAnd, pOr, pNot, pIf, pIfS, pAndV, pOrV, pCall, pMeth, pFld, pB, pChain, pNoPart, pPart, pSl, dSlS, dSlC, dM1, pFmt, pJs3, pPar, pPar3, pUnp, pJarIx, pJarSet, dIxT, dIxL, dIxS, dIxC, dCat, dRep, dAddS, dOwn2, dOwnI, dOwnR, setAll, noX, List.map_cons, List.map_nil, List.length_cons, List.length_nil, List.cons_append, List.nil_append, List.replicate, List.getElem?_cons_succ, List.getElem?_cons_zero, List.set_cons_zero, List.set_cons_succ, List.zip_cons_cons, List.zip_nil_right, List.foldl_cons, List.foldl_nil, Option.some.injEq, exists_eq_left', exists_eq_left, exists_eq_right, exists_eq, exists_eq', PL.D.int.injEq, PL.D.bl.injEq, PL.D.str.injEq, PL.D.tup.injEq, PL.D.lst.injEq, PL.D.ins.injEq, PL.D.scr.injEq, List.cons.injEq, and_true, true_and, and_self, exists_and_left, exists_and_right, reduceCtorEq, false_and, and_false, exists_false, or_false, false_or, forall_const, false_implies, true_implies, Nat.reduceAdd, Nat.reduceSub, Nat.reduceLeDiff, exists_const, if_true, if_false, Bool.false_eq_true, ne_eq, not_false_eq_true, Nat.sub_self, List.append_nil, PL.isNon_non, PL.isNon_int, PL.isNon_str, PL.isNon_tup, PL.isNon_lst, PL.isNon_bl, pNever, Bool.not_true, Bool.not_false, Int.reduceLT, Int.reduceLE,  PL.pFld, fld_num, fld_mod, ex_rs, isNon_rs, pJs2]
      exact ⟨a, m, _, rfl, hm, .inr ⟨i, m', rfl, hm', hne, q⟩⟩
theorem scMul : FnScope ["self", "other", "number"] ["self", "other"] (defScope (st 9)) := ⟨rfl, rfl, rfl, by decide +kernel, rfl, by decide +kernel, by decide +kernel⟩
abbrev pfMul : PF := pfBin (fun a i => CMulW a i) (fun a i => a * i)
theorem ok_mul (F : Sf K "__mul__" "Rest.__mul__" 9 f fd) (T : Txt K mg) (B : Cl_ K mg) (NB : FNb P w K mg base) (N : Sin P w K mg base) : FnP P w K mg base 7 f fd ["self", "other"] pfMul := by
  refine fnP F scMul (fun ds Φ Ξ h => ?_) fun cdv A outer s H E J Ξ hr wok => ⟨_, (qss_cons (qs_set (i := 2) scMul.nd rfl (.inl rfl) (q_callX NB.ok (hr.mono (by decide)) (by rfl) NB.gl NB.kp NB.bd passOwn wok (qa_cons (qv 0) (qa_cons (qv 1) qa_nil))))
      (qss_cons (qs_if (qt_isN (qv 2)) (qss_one qs_never) qss_nil)
      (qss_one (qs_ret (q_make (dvs := []) (dds := []) N.mkr N.ok (hr.mono (by decide)) (by rfl) B.s.gl N.bd .nil (fun _ => .nil) pass00 wok0 (qa_cons (q_mul (q_fld B.s.cl B.number (qv 0)) (qv 2)) (qa_cons (q_fld B.s.cl B.modulus (qv 0)) qa_nil))))))), fun ds Φ h => ?_⟩
  · obtain ⟨_, _, _, rfl, _⟩ := h
    rfl
  · obtain ⟨a, m, o, rfl, hm, ⟨i, ho, hok, q⟩ | ⟨i, m', rfl, hm', hne, q⟩⟩ := h
    · simp only [startD, pSeq, pNext, pSet, pRet, pRetN, pVar, pC, pNil, pCons, pTup, pLst, pOp, dI, dI0, pTest, dEq, dNe, pAnd, pOr, pNot, pIf, pIfS, pAndV, pOrV, pCall, pMeth, pFld, pB, pChain, pNoPart, pPart, pSl, dSlS, dSlC, dM1, pFmt, pJs3, pPar, pPar3, pUnp, pJarIx, pJarSet, dIxT, dIxL, dIxS, dIxC, dCat, dRep, dAddS, dOwn2, dOwnI, dOwnR, setAll, noX, List.map_cons, List.map_nil, List.length_cons, List.length_nil, List.cons_append, List.nil_append, List.replicate, List.getElem?_cons_succ, List.getElem?_cons_zero, List.set_cons_zero, List.set_cons_succ, List.zip_cons_cons, List.zip_nil_right, List.foldl_cons, List.foldl_nil, Option.some.injEq, exists_eq_left', exists_eq_left, exists_eq_right, exists_eq, exists_eq', PL.D.int.injEq, PL.D.bl.injEq, PL.D.str.injEq, PL.D.tup.injEq, PL.D.lst.injEq, PL.D.ins.injEq, PL.D.scr.injEq, List.cons.injEq, and_true, true_and, and_self, exists_and_left, exists_and_right, reduceCtorEq, false_and, and_false, exists_false, or_false, false_or, forall_const, false_implies, true_implies, Nat.reduceAdd, Nat.reduceSub, Nat.reduceLeDiff, exists_const, if_true, if_false, Bool.false_eq_true, ne_eq, not_false_eq_true, Nat.sub_self, List.append_nil, PL.isNon_non, PL.isNon_int, PL.isNon_str, PL.isNon_tup, PL.isNon_lst, PL.isNon_bl, pNever, Bool.not_true, Bool.not_false, Int.reduceLT, Int.reduceLE,  PL.pFld, fld_num, fld_mod, ex_rs, isNon_rs, pJs2]
      refine ⟨a, m, o, rfl, hm, .inl ⟨i, ho, ?_⟩⟩
      simp only [startD, pSeq, pNext, pSet, pRet, pRetN, pVar, pC, pNil, pCons, pTup, pLst, pOp, dI, dI0, pTest, dEq, dNe, pAnd, pOr, pNot, pIf, pIfS, pAndV, pOrV, pCall, pMeth, pFld, pB, pChain, pNoPart, pPart, pSl, dSlS, dSlC, dM1, pFmt, pJs3, pPar, pPar3, pUnp, pJarIx, pJarSet, dIxT, dIxL, dIxS, dIxC, dCat, dRep, dAddS, dOwn2, dOwnI, dOwnR, setAll, noX, List.map_cons, List.map_nil, List.length_cons, List.length_nil, List.cons_append, List.nil_append, List.replicate, List.getElem?_cons_succ, List.getElem?_cons_zero, List.set_cons_zero, List.set_cons_succ, List.zip_cons_cons, List.zip_nil_right, List.foldl_cons, List.foldl_nil, Option.some.injEq, exists_eq_left', exists_eq_left, exists_eq_right, exists_eq, exists_eq', PL.D.int.injEq, PL.D.bl.injEq, PL.D.str.injEq, PL.D.tup.injEq, PL.D.lst.injEq, PL.D.ins.injEq, PL.D.scr.injEq, List.cons.injEq, and_true, true_and, and_self, exists_and_left, exists_and_right, reduceCtorEq, false_and, and_false, exists_false, or_false, false_or, forall_const, false_implies, true_implies, Nat.reduceAdd, Nat.reduceSub, Nat.reduceLeDiff, exists_const, if_true, if_false, Bool.false_eq_true, ne_eq, not_false_eq_true, Nat.sub_self, List.append_nil, PL.isNon_non, PL.isNon_int, PL.isNon_str, PL.isNon_tup, PL.isNon_lst, PL.isNon_bl, pNever, Bool.not_true, Bool.not_false, Int.reduceLT, Int.reduceLE,  PL.pFld, fld_num, fld_mod, ex_rs, isNon_rs, pJs2]
      exact ⟨hok, sin_ok hm q⟩
    · simp only [startD, pSeq, pNext, pSet, pRet, pRetN, pVar, pC, pNil, pCons, pTup, pLst, pOp, dI, dI0, pTest, dEq, dNe, pAnd, pOr, pNot, pIf, pIfS, pAndV, pOrV, pCall, pMeth, pFld, pB, pChain, pNoPart, pPart, pSl, dSlS, dSlC, dM1, pFmt, pJs3, pPar, pPar3, pUnp, pJarIx, pJarSet, dIxT, dIxL, dIxS, dIxC, dCat, dRep, dAddS, dOwn2, dOwnI, dOwnR, setAll, noX, List.map_cons, List.map_nil, List.length_cons, List.length_nil, List.cons_append, List.nil_append, List.replicate, List.getElem?_cons_succ, List.getElem?_cons_zero, List.set_cons_zero, List.set_cons_succ, List.zip_cons_cons, List.zip_nil_right, List.foldl_cons, List.foldl_nil, Option.some.injEq, exists_eq_left', exists_eq_left, exists_eq_right, exists_eq, exists_eq', PL.D.int.injEq, PL.D.bl.injEq, PL.D.str.injEq, PL.D.tup.injEq, PL.D.lst.injEq, PL.D.ins.injEq, PL.D.scr.injEq, List.cons.injEq, and_true, true_and, and_self, exists_and_left, exists_and_right, reduceCtorEq, false_and, and_false, exists_false, or_false, false_or, forall_const, false_implies, true_implies, Nat.reduceAdd, Nat.reduceSub, Nat.reduceLeDiff, exists_const, if_true, if_false, Bool.false_eq_true, ne_eq, not_false_eq_true, Nat.sub_self, List.append_nil, PL.isNon_non, PL.isNon_int, PL.isNon_str, PL.isNon_tup, PL.isNon_lst, PL.isNon_bl, pNever, Bool.not_true, Bool.not_false, Int.reduceLT, Int.reduceLE,  PL.pFld, fld_num, fld_mod, ex_rs, isNon_rs, pJs2]
      exact ⟨a, m, _, rfl, hm, .inr ⟨i, m', rfl, hm', hne, q⟩⟩
theorem scRmu : FnScope ["self", "other", "number"] ["self", "other"] (defScope (st 10)) := ⟨rfl, rfl, rfl, by decide +kernel, rfl, by decide +kernel, by decide +kernel⟩
abbrev pfRmu : PF := pfBin (fun a i => CMulW i a) (fun a i => i * a)
theorem ok_rmu (F : Sf K "__rmul__" "Rest.__rmul__" 10 f fd) (T : Txt K mg) (B : Cl_ K mg) (NB : FNb P w K mg base) (N : Sin P w K mg base) : FnP P w K mg base 7 f fd ["self", "other"] pfRmu := by
  refine fnP F scRmu (fun ds Φ Ξ h => ?_) fun cdv A outer s H E J Ξ hr wok => ⟨_, (qss_cons (qs_set (i := 2) scRmu.nd rfl (.inl rfl) (q_callX NB.ok (hr.mono (by decide)) (by rfl) NB.gl NB.kp NB.bd passOwn wok (qa_cons (qv 0) (qa_cons (qv 1) qa_nil))))
      (qss_cons (qs_if (qt_isN (qv 2)) (qss_one qs_never) qss_nil)
      (qss_one (qs_ret (q_make (dvs := []) (dds := []) N.mkr N.ok (hr.mono (by decide)) (by rfl) B.s.gl N.bd .nil (fun _ => .nil) pass00 wok0 (qa_cons (q_mul (qv 2) (q_fld B.s.cl B.number (qv 0))) (qa_cons (q_fld B.s.cl B.modulus (qv 0)) qa_nil))))))), fun ds Φ h => ?_⟩
  · obtain ⟨_, _, _, rfl, _⟩ := h
    rfl
  · obtain ⟨a, m, o, rfl, hm, ⟨i, ho, hok, q⟩ | ⟨i, m', rfl, hm', hne, q⟩⟩ := h
    · simp only [startD, pSeq, pNext, pSet, pRet, pRetN, pVar, pC, pNil, pCons, pTup, pLst, pOp, dI, dI0, pTest, dEq, dNe, pAnd, pOr, pNot, pIf, pIfS, pAndV, pOrV, pCall, pMeth, pFld, pB, pChain, pNoPart, pPart, pSl, dSlS, dSlC, dM1, pFmt, pJs3, pPar, pPar3, pUnp, pJarIx, pJarSet, dIxT, dIxL, dIxS, dIxC, dCat, dRep, dAddS, dOwn2, dOwnI, dOwnR, setAll, noX, List.map_cons, List.map_nil, List.length_cons, List.length_nil, List.cons_append, List.nil_append, List.replicate, List.getElem?_cons_succ, List.getElem?_cons_zero, List.set_cons_zero, List.set_cons_succ, List.zip_cons_cons, List.zip_nil_right, List.foldl_cons, List.foldl_nil, Option.some.injEq, exists_eq_left', exists_eq_left, exists_eq_right, exists_eq, exists_eq', PL.D.int.injEq, PL.D.bl.injEq, PL.D.str.injEq, PL.D.tup.injEq, PL.D.lst.injEq, PL.D.ins.injEq, PL.D.scr.injEq, List.cons.injEq, and_true, true_and, and_self, exists_and_left, exists_and_right, reduceCtorEq, false_and, and_false, exists_false, or_false, false_or, forall_const, false_implies, true_implies, Nat.reduceAdd, Nat.reduceSub, Nat.reduceLeDiff, exists_const, if_true, if_false, Bool.false_eq_true, ne_eq, not_false_eq_true, Nat.sub_self, List.append_nil, PL.isNon_non, PL.isNon_int, PL.isNon_str, PL.isNon_tup, PL.isNon_lst, PL.isNon_bl, pNever, Bool.not_true, Bool.not_false, Int.reduceLT, Int.reduceLE,  PL.pFld, fld_num, fld_mod, ex_rs, isNon_rs, pJs2]
      refine ⟨a, m, o, rfl, hm, .inl ⟨i, ho, ?_⟩⟩
      simp only [startD, pSeq, pNext, pSet, pRet, pRetN, pVar, pC, pNil, pCons, pTup, pLst, pOp, dI, dI0, pTest, dEq, dNe, pAnd, pOr, pNot, pIf, pIfS, pAndV, pOrV, pCall, pMeth, pFld, pB, pChain, pNoPart, pPart, pSl, dSlS, dSlC, dM1, pFmt, pJs3, pPar, pPar3, pUnp, pJarIx, pJarSet, dIxT, dIxL, dIxS, dIxC, dCat, dRep, dAddS, dOwn2, dOwnI, dOwnR, setAll, noX, List.map_cons, List.map_nil, List.length_cons, List.length_nil, List.cons_append, List.nil_append, List.replicate, List.getElem?_cons_succ, List.getElem?_cons_zero, List.set_cons_zero, List.set_cons_succ, List.zip_cons_cons, List.zip_nil_right, List.foldl_cons, List.foldl_nil, Option.some.injEq, exists_eq_left', exists_eq_left, exists_eq_right, exists_eq, exists_eq', PL.D.int.injEq, PL.D.bl.injEq, PL.D.str.injEq, PL.D.tup.injEq, PL.D.lst.injEq, PL.D.ins.injEq, PL.D.scr.injEq, List.cons.injEq, and_true, true_and, and_self, exists_and_left, exists_and_right, reduceCtorEq, false_and, and_false, exists_false, or_false, false_or, forall_const, false_implies, true_implies, Nat.reduceAdd, Nat.reduceSub, Nat.reduceLeDiff, exists_const, if_true, if_false, Bool.false_eq_true, ne_eq, not_false_eq_true, Nat.sub_self, List.append_nil, PL.isNon_non, PL.isNon_int, PL.isNon_str, PL.isNon_tup, PL.isNon_lst, PL.isNon_bl, pNever, Bool.not_true, Bool.not_false, Int.reduceLT, Int.reduceLE,  PL.pFld, fld_num, fld_mod, ex_rs, isNon_rs, pJs2]
      exact ⟨hok, sin_ok hm q⟩
    · simp only [startD, pSeq, pNext, pSet, pRet, pRetN, pVar, pC, pNil, pCons, pTup, pLst, pOp, dI, dI0, pTest, dEq, dNe, pAnd, pOr, pNot, pIf, pIfS, pAndV, pOrV, pCall, pMeth, pFld, pB, pChain, pNoPart, pPart, pSl, dSlS, dSlC, dM1, pFmt, pJs3, pPar, pPar3, pUnp, pJarIx, pJarSet, dIxT, dIxL, dIxS, dIxC, dCat, dRep, dAddS, dOwn2, dOwnI, dOwnR, setAll, noX, List.map_cons, List.map_nil, List.length_cons, List.length_nil, List.cons_append, List.nil_append, List.replicate, List.getElem?_cons_succ, List.getElem?_cons_zero, List.set_cons_zero, List.set_cons_succ, List.zip_cons_cons, List.zip_nil_right, List.foldl_cons, List.foldl_nil, Option.some.injEq, exists_eq_left', exists_eq_left, exists_eq_right, exists_eq, exists_eq', PL.D.int.injEq, PL.D.bl.injEq, PL.D.str.injEq, PL.D.tup.injEq, PL.D.lst.injEq, PL.D.ins.injEq, PL.D.scr.injEq, List.cons.injEq, and_true, true_and, and_self, exists_and_left, exists_and_right, reduceCtorEq, false_and, and_false, exists_false, or_false, false_or, forall_const, false_implies, true_implies, Nat.reduceAdd, Nat.reduceSub, Nat.reduceLeDiff, exists_const, if_true, if_false, Bool.false_eq_true, ne_eq, not_false_eq_true, Nat.sub_self, List.append_nil, PL.isNon_non, PL.isNon_int, PL.isNon_str, PL.isNon_tup, PL.isNon_lst, PL.isNon_bl, pNever, Bool.not_true, Bool.not_false, Int.reduceLT, Int.reduceLE,  PL.pFld, fld_num, fld_mod, ex_rs, isNon_rs, pJs2]
      exact ⟨a, m, _, rfl, hm, .inr ⟨i, m', rfl, hm', hne, q⟩⟩
abbrev MM (P : Program) (w : World) (K : PySem.W.Frag) (mg : Str → Option Value) (base : Heap) (m : Str) (pf : PF) := Me P w K mg base kRs m 7 ["self", "other"] pf
/-! ### the others -/
theorem scEq : FnScope ["self", "other"] ["self", "other"] (defScope (st 3)) := ⟨rfl, rfl, rfl, by decide +kernel, rfl, by decide +kernel, by decide +kernel⟩
def pfEq : PF := fun ds Φ _ => ∃ a m o, ds = [rs a m, o] ∧ Kd o ∧ ((∃ b n, o = rs b n ∧ Φ (.bl (decide (a = b) && decide (m = n)))) ∨ (gRs o = false ∧ Φ (.bl false)))
theorem ok_eq (F : Sf K "__eq__" "Rest.__eq__" 3 f fd) (T : Txt K mg) (B : Cl_ K mg) : FnP P w K mg base 1 f fd ["self", "other"] pfEq := by
  refine fnP F scEq (fun ds Φ Ξ h => ?_) fun cdv A outer s H E J Ξ hr wok => ⟨_, (qss_one (qs_ret (q_and (q_isi B.ics (T.free "isinstance" (by decide +kernel)) (by rfl) (pe_glob (v := .ref (He.ga K kRs)) (by rfl) B.s.gl rfl) (.own _) B.kRs_ (qv 1)) (q_and (q_cmp op_eq rd_eq (q_fld B.s.cl B.number (qv 0)) (q_fld B.s.cl B.number (qv 1)) (nomark _)) (q_one (q_cmp op_eq rd_eq (q_fld B.s.cl B.modulus (qv 0)) (q_fld B.s.cl B.modulus (qv 1)) (nomark _))))))), fun ds Φ h => ?_⟩
  · obtain ⟨_, _, _, rfl, _⟩ := h
    rfl
  · obtain ⟨a, m, o, rfl, hk, h⟩ := h
    simp only [startD, pSeq, pNext, pSet, pRet, pRetN, pVar, pC, pNil, pCons, pTup, pLst, pOp, dI, dI0, pTest, dEq, dNe, pAnd, pOr, pNot, pIf, pIfS, pAndV, pOrV, pCall, pMeth, pFld, pB, pChain, pNoPart, pPart, pSl, dSlS, dSlC, dM1, pFmt, pJs3, pPar, pPar3, pUnp, pJarIx, pJarSet, dIxT, dIxL, dIxS, dIxC, dCat, dRep, dAddS, dOwn2, dOwnI, dOwnR, setAll, noX, List.map_cons, List.map_nil, List.length_cons, List.length_nil, List.cons_append, List.nil_append, List.replicate, List.getElem?_cons_succ, List.getElem?_cons_zero, List.set_cons_zero, List.set_cons_succ, List.zip_cons_cons, List.zip_nil_right, List.foldl_cons, List.foldl_nil, Option.some.injEq, exists_eq_left', exists_eq_left, exists_eq_right, exists_eq, exists_eq', PL.D.int.injEq, PL.D.bl.injEq, PL.D.str.injEq, PL.D.tup.injEq, PL.D.lst.injEq, PL.D.ins.injEq, PL.D.scr.injEq, List.cons.injEq, and_true, true_and, and_self, exists_and_left, exists_and_right, reduceCtorEq, false_and, and_false, exists_false, or_false, false_or, forall_const, false_implies, true_implies, Nat.reduceAdd, Nat.reduceSub, Nat.reduceLeDiff, exists_const, if_true, if_false, Bool.false_eq_true, ne_eq, not_false_eq_true, Nat.sub_self, List.append_nil, PL.isNon_non, PL.isNon_int, PL.isNon_str, PL.isNon_tup, PL.isNon_lst, PL.isNon_bl, pNever, Bool.not_true, Bool.not_false, Int.reduceLT, Int.reduceLE,  PL.pFld, fld_num, fld_mod, ex_rs, isNon_rs, pJs2]
    refine ⟨hk.ty, fun c => ?_, fun c => ?_⟩
    · rcases h with ⟨b, n, rfl, q⟩ | ⟨h, _⟩
      · refine ⟨_, rfl, .int b, rfl, rfl, fun d => ⟨_, rfl, .int n, rfl, rfl, ?_⟩, fun d => ?_⟩
        · rw [show decide (a = b) = true from d, Bool.true_and] at q
          exact q
        · rw [show decide (a = b) = false from d, Bool.false_and] at q
          exact q
      · rw [h] at c; cases c
    · rcases h with ⟨b, n, rfl, q⟩ | ⟨_, q⟩
      · cases c
      · exact q
theorem scBo : FnScope ["self"] ["self"] (defScope (st 4)) := ⟨rfl, rfl, rfl, by decide +kernel, rfl, by decide +kernel, by decide +kernel⟩
def pfBool : PF := fun ds Φ _ => ∃ a m, ds = [rs a m] ∧ Φ (.bl (!decide (a = 0)))
theorem ok_bool (F : Sf K "__bool__" "Rest.__bool__" 4 f fd) (T : Txt K mg) (B : Cl_ K mg) : FnP P w K mg base 1 f fd ["self"] pfBool := by
  refine fnP F scBo (fun ds Φ Ξ h => ?_) fun cdv A outer s H E J Ξ hr wok => ⟨_, (qss_one (qs_ret (q_BT call_bool1 rc_bool1 (T.free "bool" (by decide +kernel)) (by rfl) (by decide +kernel) (qa_cons (q_cmp op_ne rd_ne (q_fld B.s.cl B.number (qv 0)) q_int (nomark _)) qa_nil)))), fun ds Φ h => ?_⟩
  · obtain ⟨_, _, rfl, _⟩ := h
    rfl
  · obtain ⟨a, m, rfl, q⟩ := h
    simp only [startD, pSeq, pNext, pSet, pRet, pRetN, pVar, pC, pNil, pCons, pTup, pLst, pOp, dI, dI0, pTest, dEq, dNe, pAnd, pOr, pNot, pIf, pIfS, pAndV, pOrV, pCall, pMeth, pFld, pB, pChain, pNoPart, pPart, pSl, dSlS, dSlC, dM1, pFmt, pJs3, pPar, pPar3, pUnp, pJarIx, pJarSet, dIxT, dIxL, dIxS, dIxC, dCat, dRep, dAddS, dOwn2, dOwnI, dOwnR, setAll, noX, List.map_cons, List.map_nil, List.length_cons, List.length_nil, List.cons_append, List.nil_append, List.replicate, List.getElem?_cons_succ, List.getElem?_cons_zero, List.set_cons_zero, List.set_cons_succ, List.zip_cons_cons, List.zip_nil_right, List.foldl_cons, List.foldl_nil, Option.some.injEq, exists_eq_left', exists_eq_left, exists_eq_right, exists_eq, exists_eq', PL.D.int.injEq, PL.D.bl.injEq, PL.D.str.injEq, PL.D.tup.injEq, PL.D.lst.injEq, PL.D.ins.injEq, PL.D.scr.injEq, List.cons.injEq, and_true, true_and, and_self, exists_and_left, exists_and_right, reduceCtorEq, false_and, and_false, exists_false, or_false, false_or, forall_const, false_implies, true_implies, Nat.reduceAdd, Nat.reduceSub, Nat.reduceLeDiff, exists_const, if_true, if_false, Bool.false_eq_true, ne_eq, not_false_eq_true, Nat.sub_self, List.append_nil, PL.isNon_non, PL.isNon_int, PL.isNon_str, PL.isNon_tup, PL.isNon_lst, PL.isNon_bl, pNever, Bool.not_true, Bool.not_false, Int.reduceLT, Int.reduceLE,  PL.pFld, fld_num, fld_mod, ex_rs, isNon_rs, pJs2]
    exact ⟨rfl, q⟩
theorem scNg : FnScope ["self"] ["self"] (defScope (st 12)) := ⟨rfl, rfl, rfl, by decide +kernel, rfl, by decide +kernel, by decide +kernel⟩
def pfNeg : PF := fun ds Φ _ => ∃ a m, ds = [rs a m] ∧ Md m ∧ Φ (rs (-a % m) m)
theorem ok_neg (F : Sf K "__neg__" "Rest.__neg__" 12 f fd) (T : Txt K mg) (B : Cl_ K mg) (N : Sin P w K mg base) : FnP P w K mg base 7 f fd ["self"] pfNeg := by
  refine fnP F scNg (fun ds Φ Ξ h => ?_) fun cdv A outer s H E J Ξ hr wok => ⟨_, (qss_one (qs_ret (q_make (dvs := []) (dds := []) N.mkr N.ok (hr.mono (by decide)) (by rfl) B.s.gl N.bd .nil (fun _ => .nil) pass00 wok0 (qa_cons (q_neg (q_fld B.s.cl B.number (qv 0))) (qa_cons (q_fld B.s.cl B.modulus (qv 0)) qa_nil))))), fun ds Φ h => ?_⟩
  · obtain ⟨_, _, rfl, _⟩ := h
    rfl
  · obtain ⟨a, m, rfl, hm, q⟩ := h
    simp only [startD, pSeq, pNext, pSet, pRet, pRetN, pVar, pC, pNil, pCons, pTup, pLst, pOp, dI, dI0, pTest, dEq, dNe, pAnd, pOr, pNot, pIf, pIfS, pAndV, pOrV, pCall, pMeth, pFld, pB, pChain, pNoPart, pPart, pSl, dSlS, dSlC, dM1, pFmt, pJs3, pPar, pPar3, pUnp, pJarIx, pJarSet, dIxT, dIxL, dIxS, dIxC, dCat, dRep, dAddS, dOwn2, dOwnI, dOwnR, setAll, noX, List.map_cons, List.map_nil, List.length_cons, List.length_nil, List.cons_append, List.nil_append, List.replicate, List.getElem?_cons_succ, List.getElem?_cons_zero, List.set_cons_zero, List.set_cons_succ, List.zip_cons_cons, List.zip_nil_right, List.foldl_cons, List.foldl_nil, Option.some.injEq, exists_eq_left', exists_eq_left, exists_eq_right, exists_eq, exists_eq', PL.D.int.injEq, PL.D.bl.injEq, PL.D.str.injEq, PL.D.tup.injEq, PL.D.lst.injEq, PL.D.ins.injEq, PL.D.scr.injEq, List.cons.injEq, and_true, true_and, and_self, exists_and_left, exists_and_right, reduceCtorEq, false_and, and_false, exists_false, or_false, false_or, forall_const, false_implies, true_implies, Nat.reduceAdd, Nat.reduceSub, Nat.reduceLeDiff, exists_const, if_true, if_false, Bool.false_eq_true, ne_eq, not_false_eq_true, Nat.sub_self, List.append_nil, PL.isNon_non, PL.isNon_int, PL.isNon_str, PL.isNon_tup, PL.isNon_lst, PL.isNon_bl, pNever, Bool.not_true, Bool.not_false, Int.reduceLT, Int.reduceLE,  PL.pFld, fld_num, fld_mod, ex_rs, isNon_rs, pJs2]
    exact sin_ok hm q
theorem scUn : FnScope ["self"] ["self"] (defScope (st 1)) := ⟨rfl, rfl, rfl, by decide +kernel, rfl, by decide +kernel, by decide +kernel⟩
def pfUn : PF := fun ds Φ _ => ∃ a m, ds = [rs a m] ∧ Φ (.bl (decide (((Nat.gcd a.natAbs m.natAbs : Nat) : Int) = 1)))
theorem ok_un (F : Sf K "is_unit" "Rest.is_unit" 1 f fd) (T : Txt K mg) (B : Cl_ K mg) : FnP P w K mg base 1 f fd ["self"] pfUn := by
  refine fnP F scUn (fun ds Φ Ξ h => ?_) fun cdv A outer s H E J Ξ hr wok => ⟨_, (qss_one (qs_ret (q_cmp op_eq rd_eq (q_BF cr_gcd rc_gcd T.gcd (by rfl) (qa_cons (q_fld B.s.cl B.number (qv 0)) (qa_cons (q_fld B.s.cl B.modulus (qv 0)) qa_nil))) q_int (nomark _)))), fun ds Φ h => ?_⟩
  · obtain ⟨_, _, rfl, _⟩ := h
    rfl
  · obtain ⟨a, m, rfl, q⟩ := h
    simp only [startD, pSeq, pNext, pSet, pRet, pRetN, pVar, pC, pNil, pCons, pTup, pLst, pOp, dI, dI0, pTest, dEq, dNe, pAnd, pOr, pNot, pIf, pIfS, pAndV, pOrV, pCall, pMeth, pFld, pB, pChain, pNoPart, pPart, pSl, dSlS, dSlC, dM1, pFmt, pJs3, pPar, pPar3, pUnp, pJarIx, pJarSet, dIxT, dIxL, dIxS, dIxC, dCat, dRep, dAddS, dOwn2, dOwnI, dOwnR, setAll, noX, List.map_cons, List.map_nil, List.length_cons, List.length_nil, List.cons_append, List.nil_append, List.replicate, List.getElem?_cons_succ, List.getElem?_cons_zero, List.set_cons_zero, List.set_cons_succ, List.zip_cons_cons, List.zip_nil_right, List.foldl_cons, List.foldl_nil, Option.some.injEq, exists_eq_left', exists_eq_left, exists_eq_right, exists_eq, exists_eq', PL.D.int.injEq, PL.D.bl.injEq, PL.D.str.injEq, PL.D.tup.injEq, PL.D.lst.injEq, PL.D.ins.injEq, PL.D.scr.injEq, List.cons.injEq, and_true, true_and, and_self, exists_and_left, exists_and_right, reduceCtorEq, false_and, and_false, exists_false, or_false, false_or, forall_const, false_implies, true_implies, Nat.reduceAdd, Nat.reduceSub, Nat.reduceLeDiff, exists_const, if_true, if_false, Bool.false_eq_true, ne_eq, not_false_eq_true, Nat.sub_self, List.append_nil, PL.isNon_non, PL.isNon_int, PL.isNon_str, PL.isNon_tup, PL.isNon_lst, PL.isNon_bl, pNever, Bool.not_true, Bool.not_false, Int.reduceLT, Int.reduceLE,  PL.pFld, fld_num, fld_mod, ex_rs, isNon_rs, pJs2]
    exact ⟨a, m, ⟨rfl, rfl⟩, rfl, q⟩
theorem scTx : FnScope ["self"] ["self"] (defScope (st 2)) := ⟨rfl, rfl, rfl, by decide +kernel, rfl, by decide +kernel, by decide +kernel⟩
def pfTx : PF := fun ds Φ _ => ∃ a m, ds = [rs a m] ∧ a.natAbs.log2 < 1920 ∧ Φ (.str (toString a : String))
theorem ok_tx (F : Sf K "text" "Rest.text" 2 f fd) (T : Txt K mg) (B : Cl_ K mg) : FnP P w K mg base 1 f fd ["self"] pfTx := by
  refine fnP F scTx (fun ds Φ Ξ h => ?_) fun cdv A outer s H E J Ξ hr wok => ⟨_, (qss_one (qs_ret (q_BT call_str_int rc_str (T.free "str" (by decide +kernel)) (by rfl) (by decide +kernel) (qa_cons (q_fld B.s.cl B.number (qv 0)) qa_nil)))), fun ds Φ h => ?_⟩
  · obtain ⟨_, _, rfl, _⟩ := h
    rfl
  · obtain ⟨a, m, rfl, hl, q⟩ := h
    simp only [startD, pSeq, pNext, pSet, pRet, pRetN, pVar, pC, pNil, pCons, pTup, pLst, pOp, dI, dI0, pTest, dEq, dNe, pAnd, pOr, pNot, pIf, pIfS, pAndV, pOrV, pCall, pMeth, pFld, pB, pChain, pNoPart, pPart, pSl, dSlS, dSlC, dM1, pFmt, pJs3, pPar, pPar3, pUnp, pJarIx, pJarSet, dIxT, dIxL, dIxS, dIxC, dCat, dRep, dAddS, dOwn2, dOwnI, dOwnR, setAll, noX, List.map_cons, List.map_nil, List.length_cons, List.length_nil, List.cons_append, List.nil_append, List.replicate, List.getElem?_cons_succ, List.getElem?_cons_zero, List.set_cons_zero, List.set_cons_succ, List.zip_cons_cons, List.zip_nil_right, List.foldl_cons, List.foldl_nil, Option.some.injEq, exists_eq_left', exists_eq_left, exists_eq_right, exists_eq, exists_eq', PL.D.int.injEq, PL.D.bl.injEq, PL.D.str.injEq, PL.D.tup.injEq, PL.D.lst.injEq, PL.D.ins.injEq, PL.D.scr.injEq, List.cons.injEq, and_true, true_and, and_self, exists_and_left, exists_and_right, reduceCtorEq, false_and, and_false, exists_false, or_false, false_or, forall_const, false_implies, true_implies, Nat.reduceAdd, Nat.reduceSub, Nat.reduceLeDiff, exists_const, if_true, if_false, Bool.false_eq_true, ne_eq, not_false_eq_true, Nat.sub_self, List.append_nil, PL.isNon_non, PL.isNon_int, PL.isNon_str, PL.isNon_tup, PL.isNon_lst, PL.isNon_bl, pNever, Bool.not_true, Bool.not_false, Int.reduceLT, Int.reduceLE,  PL.pFld, fld_num, fld_mod, ex_rs, isNon_rs, pJs2]
    exact ⟨hl, q⟩
end
end K3
set_option Elab.async false
set_option linter.all false
set_option maxRecDepth 100000
set_option maxHeartbeats 4000000

namespace K3
open PySem PySem.Spec PyProof.Rows L2 GX HX PL
theorem ex2eq {α β : Type} {x : α} {y : β} {p : α → β → Prop} : (∃ c d, (x = c ∧ y = d) ∧ p c d) ↔ p x y := ⟨fun ⟨_, _, ⟨e1, e2⟩, h⟩ => by subst e1 e2; exact h, fun h => ⟨_, _, ⟨rfl, rfl⟩, h⟩⟩
theorem ex3eq {α β γ : Type} {x : α} {y : β} {z : γ} {p : α → β → γ → Prop} : (∃ c d e, (x = c ∧ y = d ∧ z = e) ∧ p c d e) ↔ p x y z := ⟨fun ⟨_, _, _, ⟨e1, e2, e3⟩, h⟩ => by subst e1 e2 e3; exact h, fun h => ⟨_, _, _, ⟨rfl, rfl, rfl⟩, h⟩⟩
theorem ex4eq {α β γ δ : Type} {x : α} {y : β} {z : γ} {t : δ} {p : α → β → γ → δ → Prop} : (∃ c d e f, (x = c ∧ y = d ∧ z = e ∧ t = f) ∧ p c d e f) ↔ p x y z t := ⟨fun ⟨_, _, _, _, ⟨e1, e2, e3, e4⟩, h⟩ => by subst e1 e2 e3 e4; exact h, fun h => ⟨_, _, _, _, ⟨rfl, rfl, rfl, rfl⟩, h⟩⟩
theorem at20 {α : Type} {x y : α} : atI [x, y] 0 = some x := rfl
theorem at21 {α : Type} {x y : α} : atI [x, y] 1 = some y := rfl
theorem at40 {α : Type} {x y z t : α} : atI [x, y, z, t] 0 = some x := rfl
theorem at41 {α : Type} {x y z t : α} : atI [x, y, z, t] 1 = some y := rfl
theorem at42 {α : Type} {x y z t : α} : atI [x, y, z, t] 2 = some z := rfl
theorem at43 {α : Type} {x y z t : α} : atI [x, y, z, t] 3 = some t := rfl
/-! ### numbers: divided again and again -/
theorem gcd_step (u l q : Int) : Nat.gcd l.natAbs (u - q * l).natAbs = Nat.gcd u.natAbs l.natAbs := by
  refine Nat.dvd_antisymm (Nat.dvd_gcd ?_ (Nat.gcd_dvd_left _ _)) (Nat.dvd_gcd (Nat.gcd_dvd_right _ _) ?_)
  · have h1 := Int.ofNat_dvd_left.mpr (Nat.gcd_dvd_left l.natAbs (u - q * l).natAbs)
    have h2 := Int.ofNat_dvd_left.mpr (Nat.gcd_dvd_right l.natAbs (u - q * l).natAbs)
    refine Int.ofNat_dvd_left.mp ?_
    have h3 := Int.dvd_add h2 (Int.dvd_trans h1 (Int.dvd_mul_left q l))
    have e : u - q * l + q * l = u := by omega
    rw [e] at h3
    exact h3
  · have h1 := Int.ofNat_dvd_left.mpr (Nat.gcd_dvd_left u.natAbs l.natAbs)
    have h2 := Int.ofNat_dvd_left.mpr (Nat.gcd_dvd_right u.natAbs l.natAbs)
    refine Int.ofNat_dvd_left.mp ?_
    exact Int.dvd_sub h1 (Int.dvd_trans h2 (Int.dvd_mul_left q l))
theorem gcd_mod (a m : Int) : Nat.gcd m.natAbs (a % m).natAbs = Nat.gcd a.natAbs m.natAbs := by
  have := gcd_step a m (a / m)
  have e : a - a / m * m = a % m := by rw [Int.emod_def, Int.mul_comm]
  rw [e] at this
  exact this
structure Eu (a m u l t n : Int) : Prop where
  g : Nat.gcd u.natAbs l.natAbs = Nat.gcd a.natAbs m.natAbs
  l0 : 0 ≤ l
  lu : l < u
  um : u ≤ m
  kt : m ∣ a * t - u
  kn : m ∣ a * n - l
  sz : t.natAbs * l.natAbs + n.natAbs * u.natAbs = m.natAbs
  sg : (t ≤ 0 ∧ 0 ≤ n) ∨ (0 ≤ t ∧ n ≤ 0)
  tm : t.natAbs ≤ m.natAbs
theorem Eu.start {a m : Int} (hm : 0 < m) : Eu a m m (a % m) 0 1 := by
  refine ⟨gcd_mod a m, Int.emod_nonneg _ (by omega), Int.emod_lt_of_pos _ hm, Int.le_refl _, ⟨-1, by grind⟩, ⟨a / m, ?_⟩, ?_, .inl ⟨by omega, by omega⟩, by omega⟩
  · have := Int.mul_ediv_add_emod a m
    omega
  · show 0 * _ + 1 * m.natAbs = _
    omega
theorem Eu.nm {a m u l t n : Int} (h : Eu a m u l t n) : n.natAbs ≤ m.natAbs := by
  have h1 := h.sz
  have h2 := h.l0
  have h3 := h.lu
  have : n.natAbs * 1 ≤ n.natAbs * u.natAbs := Nat.mul_le_mul_left _ (by omega)
  omega
theorem Eu.step {a m u l t n : Int} (h : Eu a m u l t n) (hl : 0 < l) : Eu a m l (u - u / l * l) n (t - u / l * n) := by
  obtain ⟨g, l0, lu, um, kt, kn, sz, sg, tm⟩ := h
  have hn := Eu.nm ⟨g, l0, lu, um, kt, kn, sz, sg, tm⟩
  have e1 := Int.mul_ediv_add_emod u l
  have e2 := Int.emod_nonneg u (show l ≠ 0 by omega)
  have e3 := Int.emod_lt_of_pos u hl
  have e4 : u - u / l * l = u % l := by rw [Int.mul_comm]; omega
  have q0 : 0 ≤ u / l := Int.ediv_nonneg (by omega) (by omega)
  refine ⟨by rw [gcd_step]; exact g, by omega, by omega, by omega, kn, ?_, ?_, ?_, hn⟩
  · have := Int.dvd_sub kt (Int.dvd_trans kn (Int.dvd_mul_left (u / l) (a * n - l)))
    have e : a * t - u - u / l * (a * n - l) = a * (t - u / l * n) - (u - u / l * l) := by grind
    rw [e] at this
    exact this
  · have ea : (t - u / l * n).natAbs = t.natAbs + (u / l).natAbs * n.natAbs := by
      rw [← Int.natAbs_mul]
      rcases sg with ⟨s1, s2⟩ | ⟨s1, s2⟩
      · have : 0 ≤ u / l * n := Int.mul_nonneg q0 s2
        omega
      · have : u / l * n ≤ 0 := Int.mul_nonpos_of_nonneg_of_nonpos q0 s2
        omega
    have eu : u.natAbs = (u - u / l * l).natAbs + (u / l).natAbs * l.natAbs := by
      rw [← Int.natAbs_mul]
      have : 0 ≤ u / l * l := Int.mul_nonneg q0 l0
      omega
    rw [ea]
    rw [eu] at sz
    grind
  · rcases sg with ⟨s1, s2⟩ | ⟨s1, s2⟩
    · have : 0 ≤ u / l * n := Int.mul_nonneg q0 s2
      exact .inr ⟨s2, by omega⟩
    · have : u / l * n ≤ 0 := Int.mul_nonpos_of_nonneg_of_nonpos q0 s2
      exact .inl ⟨s2, by omega⟩
/-- the number that makes 1 with a by m -/
def Iv (a m t : Int) : Prop := In t m ∧ a * t % m = 1
theorem mul_cancel_mod {a m t s : Int} (ht : a * t % m = 1) (h : a * s % m = 1) (hm : Md m) (h1 : In t m) (h2 : In s m) : t = s := by
  have e1 : t * (a * s) % m = t % m := by
    rw [Int.mul_emod, h]
    have : (1 : Int) % m = 1 := Int.emod_eq_of_lt (by decide) (by have := hm.1; omega)
    rw [Int.mul_one, Int.emod_emod]
  have e2 : s * (a * t) % m = s % m := by
    rw [Int.mul_emod, ht, Int.mul_one, Int.emod_emod]
  have e3 : t * (a * s) = s * (a * t) := by grind
  rw [e3, e2, Int.emod_eq_of_lt h1.1 h1.2, Int.emod_eq_of_lt h2.1 h2.2] at e1
  exact e1.symm
section
variable {P : Program} {w : World} {K : PySem.W.Frag} {mg : Str → Option Value} {base : Heap} {f : Addr} {fd : FuncData}
/-! ### inverse_by_whole -/
theorem scIw : FnScope ["number", "modulus", "upper", "lower", "times", "next_times", "quotient"] ["number", "modulus"] (defScope (top 22)) := ⟨rfl, rfl, rfl, by decide +kernel, rfl, by decide +kernel, by decide +kernel⟩
def pfIw : PF := fun ds Φ _ => ∃ a m : Int, ds = [.int a, .int m] ∧ Md m ∧ (Nat.gcd a.natAbs m.natAbs = 1 → ∀ t, Iv a m t → Φ (.int t)) ∧ (Nat.gcd a.natAbs m.natAbs ≠ 1 → Φ .non)
def muI (i : Nat) (ρ : Rho) : Nat := match ρ[i]? with
  | some (some (PL.D.int l)) => l.toNat
  | _ => 0
theorem ok_iw (DF : Df K mg "inverse_by_whole" 22 f fd) : FnP P w K mg base 1 f fd ["number", "modulus"] pfIw := by
  refine fnP DF.fn scIw (fun ds Φ Ξ h => ?_) fun cdv A outer s H E J Ξ hr wok => ⟨_, (qss_cons (qs_par (i := 2) (j := 3) (by rfl) scIw.nd rfl rfl (by decide) rfl rfl (qa_cons (qv 1) (qa_cons (q_mod (qv 0) (qv 1)) qa_nil)) (by rfl))
      (qss_cons (qs_unp (by rfl) (ng_cons (i := 4) scIw.nd rfl (.inl rfl) (ng_cons (i := 5) scIw.nd rfl (.inl rfl) ng_nil)) (q_tup (qa_cons q_int (qa_cons q_int qa_nil))))
      (qss_cons (qs_while (passes_of rfl) (qt_cmp op_gt rd_B0 (qv 3) q_int (nomark _)) (qss_cons (qs_set (i := 6) scIw.nd rfl (.inl rfl) (q_fdiv (qv 2) (qv 3)))
      (qss_cons (qs_par (i := 2) (j := 3) (by rfl) scIw.nd rfl rfl (by decide) rfl rfl (qa_cons (qv 3) (qa_cons (q_sub (qv 2) (q_mul (qv 6) (qv 3))) qa_nil)) (by rfl))
      (qss_one (qs_par (i := 4) (j := 5) (by rfl) scIw.nd rfl rfl (by decide) rfl rfl (qa_cons (qv 5) (qa_cons (q_sub (qv 4) (q_mul (qv 6) (qv 5))) qa_nil)) (by rfl))))))
      (qss_one (qs_ret (q_ifExp (qt_cmp op_eq rd_eq (qv 2) q_int (nomark _)) (q_mod (qv 4) (qv 1)) q_non)))))), fun ds Φ h => ?_⟩
  · obtain ⟨_, _, rfl, _⟩ := h
    rfl
  · obtain ⟨a, m, rfl, hm, q1, q0⟩ := h
    simp only [startD, pSeq, pNext, pSet, pRet, pRetN, pVar, pC, pNil, pCons, pTup, pLst, pOp, dI, dI0, pTest, dEq, dNe, pAnd, pOr, pNot, pIf, pIfS, pAndV, pOrV, pCall, pMeth, pFld, pB, pChain, pNoPart, pPart, pSl, dSlS, dSlC, dM1, pFmt, pJs3, pPar, pPar3, pUnp, pJarIx, pJarSet, dIxT, dIxL, dIxS, dIxC, dCat, dRep, dAddS, dOwn2, dOwnI, dOwnR, setAll, noX, List.map_cons, List.map_nil, List.length_cons, List.length_nil, List.cons_append, List.nil_append, List.replicate, List.getElem?_cons_succ, List.getElem?_cons_zero, List.set_cons_zero, List.set_cons_succ, List.zip_cons_cons, List.zip_nil_right, List.foldl_cons, List.foldl_nil, Option.some.injEq, exists_eq_left', exists_eq_left, exists_eq_right, exists_eq, exists_eq', PL.D.int.injEq, PL.D.bl.injEq, PL.D.str.injEq, PL.D.tup.injEq, PL.D.lst.injEq, PL.D.ins.injEq, PL.D.scr.injEq, List.cons.injEq, and_true, true_and, and_self, exists_and_left, exists_and_right, reduceCtorEq, false_and, and_false, exists_false, or_false, false_or, forall_const, false_implies, true_implies, Nat.reduceAdd, Nat.reduceSub, Nat.reduceLeDiff, exists_const, if_true, if_false, Bool.false_eq_true, ne_eq, not_false_eq_true, Nat.sub_self, List.append_nil, PL.isNon_non, PL.isNon_int, PL.isNon_str, PL.isNon_tup, PL.isNon_lst, PL.isNon_bl, pNever, Bool.not_true, Bool.not_false, Int.reduceLT, Int.reduceLE,  PL.pFld, fld_num, fld_mod, ex_rs, isNon_rs, pJs2, pWhile, ex2eq]
    have m0 : 0 < m := by have := hm.1; omega
    have mb : ∀ {x : Int}, x.natAbs ≤ m.natAbs → Bd 20 x := fun h => Nat.lt_of_le_of_lt h hm.bd
    refine ⟨m0, fun ρ => ∃ (u l t n : Int) (x : Option PL.D), ρ = [some (.int a), some (.int m), some (.int u), some (.int l), some (.int t), some (.int n), x] ∧ Eu a m u l t n, ⟨_, _, _, _, _, rfl, Eu.start m0⟩, muI 3, fun ρ hρ => ?_⟩
    obtain ⟨u, l, t, n, x, rfl, h⟩ := hρ
    simp only [startD, pSeq, pNext, pSet, pRet, pRetN, pVar, pC, pNil, pCons, pTup, pLst, pOp, dI, dI0, pTest, dEq, dNe, pAnd, pOr, pNot, pIf, pIfS, pAndV, pOrV, pCall, pMeth, pFld, pB, pChain, pNoPart, pPart, pSl, dSlS, dSlC, dM1, pFmt, pJs3, pPar, pPar3, pUnp, pJarIx, pJarSet, dIxT, dIxL, dIxS, dIxC, dCat, dRep, dAddS, dOwn2, dOwnI, dOwnR, setAll, noX, List.map_cons, List.map_nil, List.length_cons, List.length_nil, List.cons_append, List.nil_append, List.replicate, List.getElem?_cons_succ, List.getElem?_cons_zero, List.set_cons_zero, List.set_cons_succ, List.zip_cons_cons, List.zip_nil_right, List.foldl_cons, List.foldl_nil, Option.some.injEq, exists_eq_left', exists_eq_left, exists_eq_right, exists_eq, exists_eq', PL.D.int.injEq, PL.D.bl.injEq, PL.D.str.injEq, PL.D.tup.injEq, PL.D.lst.injEq, PL.D.ins.injEq, PL.D.scr.injEq, List.cons.injEq, and_true, true_and, and_self, exists_and_left, exists_and_right, reduceCtorEq, false_and, and_false, exists_false, or_false, false_or, forall_const, false_implies, true_implies, Nat.reduceAdd, Nat.reduceSub, Nat.reduceLeDiff, exists_const, if_true, if_false, Bool.false_eq_true, ne_eq, not_false_eq_true, Nat.sub_self, List.append_nil, PL.isNon_non, PL.isNon_int, PL.isNon_str, PL.isNon_tup, PL.isNon_lst, PL.isNon_bl, pNever, Bool.not_true, Bool.not_false, Int.reduceLT, Int.reduceLE,  PL.pFld, fld_num, fld_mod, ex_rs, isNon_rs, pJs2, muI, decide_eq_true_eq, decide_eq_false_iff_not, ex2eq]
    refine ⟨fun hl => ?_, fun hl => ?_⟩
    · have hb : ∀ {y : Int}, 0 ≤ y → y ≤ m → Bd 20 y := fun h1 h2 => mb (by omega)
      have l1 := h.lu
      have l2 := h.um
      have hq : Bd 20 (u / l) := hb (Int.ediv_nonneg (by omega) (by omega)) (Int.le_trans (Int.ediv_le_self _ (by omega)) l2)
      have h' := h.step hl
      have l3 := h'.lu
      have l4 := h'.l0
      refine ⟨wide_div hl (hb (by omega) (by omega)) (by decide) (by decide), hq.mulW (hb (by omega) (by omega)) (by decide) (by decide) (by decide), hq.mulW (mb h.nm) (by decide) (by decide) (by decide), ?_⟩
      exact ⟨⟨_, _, _, _, ⟨rfl, rfl, rfl, rfl⟩, h'⟩, by omega⟩
    · have l0 : l = 0 := by have := h.l0; omega
      have hg := h.g
      rw [l0] at hg
      have hg : u.natAbs = Nat.gcd a.natAbs m.natAbs := by rw [← hg]; exact (Nat.gcd_zero_right _).symm
      have u0 := h.lu
      refine ⟨rfl, fun c => ⟨m0, ?_⟩, fun c => ?_⟩
      · have u1 : u = 1 := of_decide_eq_true c
        refine q1 (by rw [← hg, u1]; rfl) _ ⟨in_mod hm, ?_⟩
        obtain ⟨k, hk⟩ := h.kt
        have e : a * (t % m) % m = a * t % m := by rw [Int.mul_emod, Int.emod_emod, ← Int.mul_emod]
        rw [e, show a * t = 1 + m * k by omega, Int.add_mul_emod_self_left]
        exact Int.emod_eq_of_lt (by decide) (by have := hm.1; omega)
      · have u1 : u ≠ 1 := of_decide_eq_false c
        exact q0 (by omega)
abbrev FIw (P : Program) (w : World) (K : PySem.W.Frag) (mg : Str → Option Value) (base : Heap) := Fn P w K mg base "inverse_by_whole" 1 ["number", "modulus"] pfIw
/-! ### inverse -/
theorem scInv : FnScope ["self", "number"] ["self"] (defScope (st 14)) := ⟨rfl, rfl, rfl, by decide +kernel, rfl, by decide +kernel, by decide +kernel⟩
def pfInv : PF := fun ds Φ Ξ => ∃ a m, ds = [rs a m] ∧ Md m ∧ ((Nat.gcd a.natAbs m.natAbs = 1 ∧ ∀ t, Iv a m t → Φ (rs t m)) ∨ (Nat.gcd a.natAbs m.natAbs ≠ 1 ∧ Ξ "NotAUnit" (rs a m)))
theorem ok_inv (F : Sf K "inverse" "Rest.inverse" 14 f fd) (T : Txt K mg) (B : Cl_ K mg) (M : Inits K) (IW : FIw P w K mg base) (N : Sin P w K mg base) : FnP P w K mg base 7 f fd ["self"] pfInv := by
  refine fnP F scInv (fun ds Φ Ξ h => ?_) fun cdv A outer s H E J Ξ hr wok => ⟨_, (qss_cons (qs_set (i := 1) scInv.nd rfl (.inl rfl) (q_call IW.ok (hr.mono (by decide)) (by rfl) IW.gl IW.kp IW.bd (qa_cons (q_fld B.s.cl B.number (qv 0)) (qa_cons (q_fld B.s.cl B.modulus (qv 0)) qa_nil))))
      (qss_cons (qs_if (qt_isN (qv 1)) (qss_one (qs_raise (c := cUnit) (i := 0) rfl (takes_of rfl rfl rfl rfl) wok (T.rows _ (by decide)) (M _ (by decide)) (T.gl _ (by decide)) (by rfl) (by decide) (hr.mono (by decide)) rfl (by decide) rfl (.inl rfl) (by decide) (by decide))) qss_nil)
      (qss_one (qs_ret (q_make (dvs := []) (dds := []) N.mkr N.ok (hr.mono (by decide)) (by rfl) B.s.gl N.bd .nil (fun _ => .nil) pass00 wok0 (qa_cons (qv 1) (qa_cons (q_fld B.s.cl B.modulus (qv 0)) qa_nil))))))), fun ds Φ h => ?_⟩
  · obtain ⟨_, _, rfl, _⟩ := h
    rfl
  · obtain ⟨a, m, rfl, hm, h⟩ := h
    simp only [startD, pSeq, pNext, pSet, pRet, pRetN, pVar, pC, pNil, pCons, pTup, pLst, pOp, dI, dI0, pTest, dEq, dNe, pAnd, pOr, pNot, pIf, pIfS, pAndV, pOrV, pCall, pMeth, pFld, pB, pChain, pNoPart, pPart, pSl, dSlS, dSlC, dM1, pFmt, pJs3, pPar, pPar3, pUnp, pJarIx, pJarSet, dIxT, dIxL, dIxS, dIxC, dCat, dRep, dAddS, dOwn2, dOwnI, dOwnR, setAll, noX, List.map_cons, List.map_nil, List.length_cons, List.length_nil, List.cons_append, List.nil_append, List.replicate, List.getElem?_cons_succ, List.getElem?_cons_zero, List.set_cons_zero, List.set_cons_succ, List.zip_cons_cons, List.zip_nil_right, List.foldl_cons, List.foldl_nil, Option.some.injEq, exists_eq_left', exists_eq_left, exists_eq_right, exists_eq, exists_eq', PL.D.int.injEq, PL.D.bl.injEq, PL.D.str.injEq, PL.D.tup.injEq, PL.D.lst.injEq, PL.D.ins.injEq, PL.D.scr.injEq, List.cons.injEq, and_true, true_and, and_self, exists_and_left, exists_and_right, reduceCtorEq, false_and, and_false, exists_false, or_false, false_or, forall_const, false_implies, true_implies, Nat.reduceAdd, Nat.reduceSub, Nat.reduceLeDiff, exists_const, if_true, if_false, Bool.false_eq_true, ne_eq, not_false_eq_true, Nat.sub_self, List.append_nil, PL.isNon_non, PL.isNon_int, PL.isNon_str, PL.isNon_tup, PL.isNon_lst, PL.isNon_bl, pNever, Bool.not_true, Bool.not_false, Int.reduceLT, Int.reduceLE,  PL.pFld, fld_num, fld_mod, ex_rs, isNon_rs, pJs2]
    refine ⟨a, m, rfl, hm, fun hg t ht => ?_, fun hg => ?_⟩
    · simp only [startD, pSeq, pNext, pSet, pRet, pRetN, pVar, pC, pNil, pCons, pTup, pLst, pOp, dI, dI0, pTest, dEq, dNe, pAnd, pOr, pNot, pIf, pIfS, pAndV, pOrV, pCall, pMeth, pFld, pB, pChain, pNoPart, pPart, pSl, dSlS, dSlC, dM1, pFmt, pJs3, pPar, pPar3, pUnp, pJarIx, pJarSet, dIxT, dIxL, dIxS, dIxC, dCat, dRep, dAddS, dOwn2, dOwnI, dOwnR, setAll, noX, List.map_cons, List.map_nil, List.length_cons, List.length_nil, List.cons_append, List.nil_append, List.replicate, List.getElem?_cons_succ, List.getElem?_cons_zero, List.set_cons_zero, List.set_cons_succ, List.zip_cons_cons, List.zip_nil_right, List.foldl_cons, List.foldl_nil, Option.some.injEq, exists_eq_left', exists_eq_left, exists_eq_right, exists_eq, exists_eq', PL.D.int.injEq, PL.D.bl.injEq, PL.D.str.injEq, PL.D.tup.injEq, PL.D.lst.injEq, PL.D.ins.injEq, PL.D.scr.injEq, List.cons.injEq, and_true, true_and, and_self, exists_and_left, exists_and_right, reduceCtorEq, false_and, and_false, exists_false, or_false, false_or, forall_const, false_implies, true_implies, Nat.reduceAdd, Nat.reduceSub, Nat.reduceLeDiff, exists_const, if_true, if_false, Bool.false_eq_true, ne_eq, not_false_eq_true, Nat.sub_self, List.append_nil, PL.isNon_non, PL.isNon_int, PL.isNon_str, PL.isNon_tup, PL.isNon_lst, PL.isNon_bl, pNever, Bool.not_true, Bool.not_false, Int.reduceLT, Int.reduceLE,  PL.pFld, fld_num, fld_mod, ex_rs, isNon_rs, pJs2]
      refine sin_ok hm ?_
      rw [Int.emod_eq_of_lt ht.1.1 ht.1.2]
      rcases h with ⟨_, q⟩ | ⟨h, _⟩
      · exact q t ht
      · exact absurd hg h
    · simp only [startD, pSeq, pNext, pSet, pRet, pRetN, pVar, pC, pNil, pCons, pTup, pLst, pOp, dI, dI0, pTest, dEq, dNe, pAnd, pOr, pNot, pIf, pIfS, pAndV, pOrV, pCall, pMeth, pFld, pB, pChain, pNoPart, pPart, pSl, dSlS, dSlC, dM1, pFmt, pJs3, pPar, pPar3, pUnp, pJarIx, pJarSet, dIxT, dIxL, dIxS, dIxC, dCat, dRep, dAddS, dOwn2, dOwnI, dOwnR, setAll, noX, List.map_cons, List.map_nil, List.length_cons, List.length_nil, List.cons_append, List.nil_append, List.replicate, List.getElem?_cons_succ, List.getElem?_cons_zero, List.set_cons_zero, List.set_cons_succ, List.zip_cons_cons, List.zip_nil_right, List.foldl_cons, List.foldl_nil, Option.some.injEq, exists_eq_left', exists_eq_left, exists_eq_right, exists_eq, exists_eq', PL.D.int.injEq, PL.D.bl.injEq, PL.D.str.injEq, PL.D.tup.injEq, PL.D.lst.injEq, PL.D.ins.injEq, PL.D.scr.injEq, List.cons.injEq, and_true, true_and, and_self, exists_and_left, exists_and_right, reduceCtorEq, false_and, and_false, exists_false, or_false, false_or, forall_const, false_implies, true_implies, Nat.reduceAdd, Nat.reduceSub, Nat.reduceLeDiff, exists_const, if_true, if_false, Bool.false_eq_true, ne_eq, not_false_eq_true, Nat.sub_self, List.append_nil, PL.isNon_non, PL.isNon_int, PL.isNon_str, PL.isNon_tup, PL.isNon_lst, PL.isNon_bl, pNever, Bool.not_true, Bool.not_false, Int.reduceLT, Int.reduceLE,  PL.pFld, fld_num, fld_mod, ex_rs, isNon_rs, pJs2]
      rcases h with ⟨h, _⟩ | ⟨_, q⟩
      · exact absurd h hg
      · exact q
/-! ### raised -/
theorem scRs : FnScope ["start", "base", "exponent", "total", "square", "left"] ["start", "base", "exponent"] (defScope (top 23)) := ⟨rfl, rfl, rfl, by decide +kernel, rfl, by decide +kernel, by decide +kernel⟩
def pfRs : PF := fun ds Φ _ => ∃ (b m : Int) (n : Nat), ds = [rs (1 % m) m, rs b m, .int (n : Int)] ∧ Md m ∧ In b m ∧ Φ (rs (b ^ n % m) m)
theorem ok_rs (DF : Df K mg "raised" 23 f fd) (B : Cl_ K mg) (MU : MM P w K mg base "__mul__" pfMul) : FnP P w K mg base 8 f fd ["start", "base", "exponent"] pfRs := by
  refine fnP DF.fn scRs (fun ds Φ Ξ h => ?_) fun cdv A outer s H E J Ξ hr wok => ⟨_, (qss_cons (qs_par3 (i := 3) (j := 4) (l := 5) (by rfl) scRs.nd rfl rfl rfl (by decide) (by decide) (by decide) rfl rfl rfl (qa_cons (qv 0) (qa_cons (qv 1) (qa_cons (qv 2) qa_nil))) (by rfl))
      (qss_cons (qs_while (passes_of rfl) (qt_cmp op_gt rd_B0 (qv 5) q_int (nomark _)) (qss_cons (qs_if (qt_cmp op_eq rd_eq (q_mod (qv 5) q_int) q_int (nomark _)) (qss_one (qs_set (i := 3) scRs.nd rfl (.inl rfl) (q_op (op_own2 (sym := "*") (nm := "mul") B.s.oc (by rfl) MU.met MU.ok (hr.mono (by decide)) MU.bd) rd_own2 (qv 3) (qv 4)))) qss_nil)
      (qss_cons (qs_set (i := 5) scRs.nd rfl (.inl rfl) (q_fdiv (qv 5) q_int))
      (qss_one (qs_if (qt_cmp op_gt rd_B0 (qv 5) q_int (nomark _)) (qss_one (qs_set (i := 4) scRs.nd rfl (.inl rfl) (q_op (op_own2 (sym := "*") (nm := "mul") B.s.oc (by rfl) MU.met MU.ok (hr.mono (by decide)) MU.bd) rd_own2 (qv 4) (qv 4)))) qss_nil)))))
      (qss_one (qs_ret (qv 3))))), fun ds Φ h => ?_⟩
  · obtain ⟨b, m, n, rfl, _⟩ := h
    rfl
  · obtain ⟨b, m, n, rfl, hm, hb, q⟩ := h
    simp only [startD, pSeq, pNext, pSet, pRet, pRetN, pVar, pC, pNil, pCons, pTup, pLst, pOp, dI, dI0, pTest, dEq, dNe, pAnd, pOr, pNot, pIf, pIfS, pAndV, pOrV, pCall, pMeth, pFld, pB, pChain, pNoPart, pPart, pSl, dSlS, dSlC, dM1, pFmt, pJs3, pPar, pPar3, pUnp, pJarIx, pJarSet, dIxT, dIxL, dIxS, dIxC, dCat, dRep, dAddS, dOwn2, dOwnI, dOwnR, setAll, noX, List.map_cons, List.map_nil, List.length_cons, List.length_nil, List.cons_append, List.nil_append, List.replicate, List.getElem?_cons_succ, List.getElem?_cons_zero, List.set_cons_zero, List.set_cons_succ, List.zip_cons_cons, List.zip_nil_right, List.foldl_cons, List.foldl_nil, Option.some.injEq, exists_eq_left', exists_eq_left, exists_eq_right, exists_eq, exists_eq', PL.D.int.injEq, PL.D.bl.injEq, PL.D.str.injEq, PL.D.tup.injEq, PL.D.lst.injEq, PL.D.ins.injEq, PL.D.scr.injEq, List.cons.injEq, and_true, true_and, and_self, exists_and_left, exists_and_right, reduceCtorEq, false_and, and_false, exists_false, or_false, false_or, forall_const, false_implies, true_implies, Nat.reduceAdd, Nat.reduceSub, Nat.reduceLeDiff, exists_const, if_true, if_false, Bool.false_eq_true, ne_eq, not_false_eq_true, Nat.sub_self, List.append_nil, PL.isNon_non, PL.isNon_int, PL.isNon_str, PL.isNon_tup, PL.isNon_lst, PL.isNon_bl, pNever, Bool.not_true, Bool.not_false, Int.reduceLT, Int.reduceLE,  PL.pFld, fld_num, fld_mod, ex_rs, isNon_rs, pJs2, pWhile, ex2eq]
    have mulp : ∀ {x y : Nat} {Φ' : PL.D → Prop}, Φ' (rs (b ^ (x + y) % m) m) → pfMul [rs (b ^ x % m) m, rs (b ^ y % m) m] Φ' noX := fun {x y Φ'} q => ⟨_, m, _, rfl, hm, .inl ⟨_, .inr rfl, ((in_mod hm).bd hm).mulW ((in_mod hm).bd hm) (by decide) (by decide) (by decide), by rw [← Int.mul_emod, ← Int.pow_add]; exact q⟩⟩
    refine ⟨fun ρ => ∃ e f l : Nat, ρ = [some (rs (1 % m) m), some (rs b m), some (.int (n : Int)), some (rs (b ^ e % m) m), some (rs (b ^ f % m) m), some (.int (l : Int))] ∧ e + f * l = n, ⟨0, 1, n, by rw [Int.pow_zero, Int.pow_one, Int.emod_eq_of_lt hb.1 hb.2], by omega⟩, muI 5, fun ρ hρ => ?_⟩
    obtain ⟨e, f, l, rfl, he⟩ := hρ
    simp only [startD, pSeq, pNext, pSet, pRet, pRetN, pVar, pC, pNil, pCons, pTup, pLst, pOp, dI, dI0, pTest, dEq, dNe, pAnd, pOr, pNot, pIf, pIfS, pAndV, pOrV, pCall, pMeth, pFld, pB, pChain, pNoPart, pPart, pSl, dSlS, dSlC, dM1, pFmt, pJs3, pPar, pPar3, pUnp, pJarIx, pJarSet, dIxT, dIxL, dIxS, dIxC, dCat, dRep, dAddS, dOwn2, dOwnI, dOwnR, setAll, noX, List.map_cons, List.map_nil, List.length_cons, List.length_nil, List.cons_append, List.nil_append, List.replicate, List.getElem?_cons_succ, List.getElem?_cons_zero, List.set_cons_zero, List.set_cons_succ, List.zip_cons_cons, List.zip_nil_right, List.foldl_cons, List.foldl_nil, Option.some.injEq, exists_eq_left', exists_eq_left, exists_eq_right, exists_eq, exists_eq', PL.D.int.injEq, PL.D.bl.injEq, PL.D.str.injEq, PL.D.tup.injEq, PL.D.lst.injEq, PL.D.ins.injEq, PL.D.scr.injEq, List.cons.injEq, and_true, true_and, and_self, exists_and_left, exists_and_right, reduceCtorEq, false_and, and_false, exists_false, or_false, false_or, forall_const, false_implies, true_implies, Nat.reduceAdd, Nat.reduceSub, Nat.reduceLeDiff, exists_const, if_true, if_false, Bool.false_eq_true, ne_eq, not_false_eq_true, Nat.sub_self, List.append_nil, PL.isNon_non, PL.isNon_int, PL.isNon_str, PL.isNon_tup, PL.isNon_lst, PL.isNon_bl, pNever, Bool.not_true, Bool.not_false, Int.reduceLT, Int.reduceLE,  PL.pFld, fld_num, fld_mod, ex_rs, isNon_rs, pJs2, decide_eq_true_eq, decide_eq_false_iff_not, muI, Int.toNat_natCast]
    refine ⟨fun hl => ?_, fun hl => ?_⟩
    · have hl0 : 0 < l := by omega
      have hdiv : CDivW (l : Int) 2 := wide_div (b := 2) (by decide) (by decide) (by decide) (by decide)
      have hd2 : ((l : Int) / 2) = ((l / 2 : Nat) : Int) := by omega
      have hm2 : ((l : Int) % 2) = ((l % 2 : Nat) : Int) := by omega
      rw [hd2, hm2]
      have lt2 : (((l / 2 : Nat) : Int)).toNat < l := by omega
      have after : ∀ (d : PL.D) (e' : Nat), d = rs (b ^ e' % m) m → e' + f * (2 * (l / 2)) = n → CDivW (l : Int) 2 ∧ (0 < ((l / 2 : Nat) : Int) → pfMul [rs (b ^ f % m) m, rs (b ^ f % m) m] (fun d_1 => (∃ e f l_1 : Nat, (d = rs (b ^ e % m) m ∧ d_1 = rs (b ^ f % m) m ∧ ((l / 2 : Nat) : Int) = (l_1 : Int)) ∧ e + f * l_1 = n) ∧ (((l / 2 : Nat) : Int)).toNat < l) noX) ∧
          (¬ 0 < ((l / 2 : Nat) : Int) → (∃ e f_1 l_1 : Nat, (d = rs (b ^ e % m) m ∧ rs (b ^ f % m) m = rs (b ^ f_1 % m) m ∧ ((l / 2 : Nat) : Int) = (l_1 : Int)) ∧ e + f_1 * l_1 = n) ∧ (((l / 2 : Nat) : Int)).toNat < l) := by
        intro d e' hd h
        refine ⟨hdiv, fun c => mulp ⟨⟨e', f + f, l / 2, ⟨hd, rfl, rfl⟩, ?_⟩, lt2⟩, fun c => ⟨⟨e', f, l / 2, ⟨hd, rfl, rfl⟩, ?_⟩, lt2⟩⟩
        · rw [← h, ← Nat.mul_assoc, Nat.mul_two]
        · have : l / 2 = 0 := by omega
          rw [this] at h ⊢
          omega
      refine ⟨rfl, fun c => mulp ?_, fun c => ?_⟩
      · have c1 : ((l % 2 : Nat) : Int) = 1 := of_decide_eq_true c
        refine after _ (e + f) rfl ?_
        have : l = 1 + 2 * (l / 2) := by omega
        rw [this, Nat.mul_add, Nat.mul_one] at he
        omega
      · have c1 : ¬ ((l % 2 : Nat) : Int) = 1 := of_decide_eq_false c
        refine after _ e rfl ?_
        have : l = 2 * (l / 2) := by omega
        rw [← this]
        exact he
    · have : l = 0 := by omega
      subst this
      rw [Nat.mul_zero, Nat.add_zero] at he
      rw [he]
      exact q
abbrev FRs (P : Program) (w : World) (K : PySem.W.Frag) (mg : Str → Option Value) (base : Heap) := Fn P w K mg base "raised" 8 ["start", "base", "exponent"] pfRs
theorem btw_far {n : Int} (h : n.natAbs ≤ 10 ^ 30) : btw (.int n) (-(10 ^ 30)) (10 ^ 30) = true := by
  have e1 : ((10 : Int) ^ 30) = 1000000000000000000000000000000 := by decide
  have e2 : ((10 : Nat) ^ 30) = 1000000000000000000000000000000 := by decide
  rw [e2] at h
  rw [e1]
  show (decide _ && decide _) = true
  rw [decide_eq_true (by omega), decide_eq_true (by omega)]
  rfl
/-! ### power -/
theorem scPow : FnScope ["self", "exponent", "base"] ["self", "exponent"] (defScope (st 13)) := ⟨rfl, rfl, rfl, by decide +kernel, rfl, by decide +kernel, by decide +kernel⟩
def pfPow : PF := fun ds Φ Ξ => ∃ a m e, ds = [rs a m, e] ∧ Md m ∧ In a m ∧ Kd e ∧ ((∃ n : Int, e = .int n ∧ n.natAbs ≤ 10 ^ 30 ∧ ((0 ≤ n ∧ Φ (rs (a ^ n.natAbs % m) m)) ∨ (n < 0 ∧ Nat.gcd a.natAbs m.natAbs = 1 ∧ ∀ t, Iv a m t → Φ (rs (t ^ n.natAbs % m) m)) ∨ (n < 0 ∧ Nat.gcd a.natAbs m.natAbs ≠ 1 ∧ Ξ "NotAUnit" (rs a m)))) ∨ (btw e (-(10 ^ 30)) (10 ^ 30) = false ∧ Ξ "InvalidNumber" e))
theorem ok_pow (F : Sf K "power" "Rest.power" 13 f fd) (T : Txt K mg) (B : Cl_ K mg) (M : Inits K) (L : FLb P w K mg base) (RS : FRs P w K mg base) (V : Me P w K mg base kRs "inverse" 7 ["self"] pfInv) (N : Sin P w K mg base) : FnP P w K mg base 9 f fd ["self", "exponent"] pfPow := by
  refine fnP F scPow (fun ds Φ Ξ h => ?_) fun cdv A outer s H E J Ξ hr wok => ⟨_, (qss_cons (qs_if (qt_not (qt_val (q_call L.ok (hr.mono (by decide)) (by rfl) L.gl L.kp L.bd (qa_cons (qv 1) (qa_cons (q_neg (q_glob (by rfl) T.far)) (qa_cons (q_glob (by rfl) T.far) qa_nil)))))) (qss_one (qs_raise (c := cNumber) (i := 1) rfl (takes_of rfl rfl rfl rfl) wok (T.rows _ (by decide)) (M _ (by decide)) (T.gl _ (by decide)) (by rfl) (by decide) (hr.mono (by decide)) rfl (by decide) rfl (.inl rfl) (by decide) (by decide))) qss_nil)
      (qss_cons (qs_set (i := 2) scPow.nd rfl (.inl rfl) (q_ifExp (qt_cmp op_lt rd_B0 (qv 1) q_int (nomark _)) (q_meth0X B.s.cl V.met V.ok (hr.mono (by decide)) V.bd passOwn wok (qv 0)) (qv 0)))
      (qss_one (qs_ret (q_call RS.ok (hr.mono (by decide)) (by rfl) RS.gl RS.kp RS.bd (qa_cons (q_make (dvs := []) (dds := []) N.mkr N.ok (hr.mono (by decide)) (by rfl) B.s.gl N.bd .nil (fun _ => .nil) pass00 wok0 (qa_cons q_int (qa_cons (q_fld B.s.cl B.modulus (qv 0)) qa_nil))) (qa_cons (qv 2) (qa_cons (q_B call_abs rc_abs (T.free "abs" (by decide +kernel)) (by rfl) (by decide +kernel) (qa_cons (qv 1) qa_nil)) qa_nil)))))))), fun ds Φ h => ?_⟩
  · obtain ⟨_, _, _, rfl, _⟩ := h
    rfl
  · obtain ⟨a, m, e, rfl, hm, ha, hk, h⟩ := h
    simp only [startD, pSeq, pNext, pSet, pRet, pRetN, pVar, pC, pNil, pCons, pTup, pLst, pOp, dI, dI0, pTest, dEq, dNe, pAnd, pOr, pNot, pIf, pIfS, pAndV, pOrV, pCall, pMeth, pFld, pB, pChain, pNoPart, pPart, pSl, dSlS, dSlC, dM1, pFmt, pJs3, pPar, pPar3, pUnp, pJarIx, pJarSet, dIxT, dIxL, dIxS, dIxC, dCat, dRep, dAddS, dOwn2, dOwnI, dOwnR, setAll, noX, List.map_cons, List.map_nil, List.length_cons, List.length_nil, List.cons_append, List.nil_append, List.replicate, List.getElem?_cons_succ, List.getElem?_cons_zero, List.set_cons_zero, List.set_cons_succ, List.zip_cons_cons, List.zip_nil_right, List.foldl_cons, List.foldl_nil, Option.some.injEq, exists_eq_left', exists_eq_left, exists_eq_right, exists_eq, exists_eq', PL.D.int.injEq, PL.D.bl.injEq, PL.D.str.injEq, PL.D.tup.injEq, PL.D.lst.injEq, PL.D.ins.injEq, PL.D.scr.injEq, List.cons.injEq, and_true, true_and, and_self, exists_and_left, exists_and_right, reduceCtorEq, false_and, and_false, exists_false, or_false, false_or, forall_const, false_implies, true_implies, Nat.reduceAdd, Nat.reduceSub, Nat.reduceLeDiff, exists_const, if_true, if_false, Bool.false_eq_true, ne_eq, not_false_eq_true, Nat.sub_self, List.append_nil, PL.isNon_non, PL.isNon_int, PL.isNon_str, PL.isNon_tup, PL.isNon_lst, PL.isNon_bl, pNever, Bool.not_true, Bool.not_false, Int.reduceLT, Int.reduceLE,  PL.pFld, fld_num, fld_mod, ex_rs, isNon_rs, pJs2, pfLb]
    refine ⟨e, _, _, ⟨rfl, rfl, rfl⟩, hk, fun c => ?_, fun c => ?_⟩
    · rcases h with ⟨n, rfl, hn, _⟩ | ⟨_, q⟩
      · rw [btw_far hn] at c
        cases c
      · exact q
    · rcases h with ⟨n, rfl, hn, hh⟩ | ⟨h, _⟩
      · refine ⟨n, rfl, fun hn0 => ?_, fun hn0 => ?_⟩
        · have n0 := of_decide_eq_true hn0
          refine ⟨_, rfl, rfl, a, m, rfl, hm, ?_⟩
          rcases hh with ⟨h, _⟩ | ⟨_, hg, q⟩ | ⟨_, hg, q⟩
          · omega
          · exact .inl ⟨hg, fun t ht => sin_ok hm ⟨n, rfl, t, m, n.natAbs, rfl, hm, ht.1, q t ht⟩⟩
          · exact .inr ⟨hg, q⟩
        · have n0 := of_decide_eq_false hn0
          rcases hh with ⟨_, q⟩ | ⟨h, _⟩ | ⟨h, _⟩
          · exact sin_ok hm ⟨n, rfl, a, m, n.natAbs, rfl, hm, ha, q⟩
          · omega
          · omega
      · rw [h] at c
        cases c
theorem scPw2 : FnScope ["self", "other"] ["self", "other"] (defScope (st 11)) := ⟨rfl, rfl, rfl, by decide +kernel, rfl, by decide +kernel, by decide +kernel⟩
theorem ok_pw2 (F : Sf K "__pow__" "Rest.__pow__" 11 f fd) (B : Cl_ K mg) (V : Me P w K mg base kRs "power" 9 ["self", "exponent"] pfPow) : FnP P w K mg base 10 f fd ["self", "other"] pfPow := by
  refine fnP F scPw2 (fun ds Φ Ξ h => ?_) fun cdv A outer s H E J Ξ hr wok => ⟨_, (qss_one (qs_ret (q_methX B.s.cl V.met V.ok (hr.mono (by decide)) V.bd passOwn wok (qv 0) (qa_cons (qv 1) qa_nil)))), fun ds Φ h => ?_⟩
  · obtain ⟨_, _, _, rfl, _⟩ := h
    rfl
  · obtain ⟨a, m, e, rfl, h⟩ := h
    simp only [startD, pSeq, pNext, pSet, pRet, pRetN, pVar, pC, pNil, pCons, pTup, pLst, pOp, dI, dI0, pTest, dEq, dNe, pAnd, pOr, pNot, pIf, pIfS, pAndV, pOrV, pCall, pMeth, pFld, pB, pChain, pNoPart, pPart, pSl, dSlS, dSlC, dM1, pFmt, pJs3, pPar, pPar3, pUnp, pJarIx, pJarSet, dIxT, dIxL, dIxS, dIxC, dCat, dRep, dAddS, dOwn2, dOwnI, dOwnR, setAll, noX, List.map_cons, List.map_nil, List.length_cons, List.length_nil, List.cons_append, List.nil_append, List.replicate, List.getElem?_cons_succ, List.getElem?_cons_zero, List.set_cons_zero, List.set_cons_succ, List.zip_cons_cons, List.zip_nil_right, List.foldl_cons, List.foldl_nil, Option.some.injEq, exists_eq_left', exists_eq_left, exists_eq_right, exists_eq, exists_eq', PL.D.int.injEq, PL.D.bl.injEq, PL.D.str.injEq, PL.D.tup.injEq, PL.D.lst.injEq, PL.D.ins.injEq, PL.D.scr.injEq, List.cons.injEq, and_true, true_and, and_self, exists_and_left, exists_and_right, reduceCtorEq, false_and, and_false, exists_false, or_false, false_or, forall_const, false_implies, true_implies, Nat.reduceAdd, Nat.reduceSub, Nat.reduceLeDiff, exists_const, if_true, if_false, Bool.false_eq_true, ne_eq, not_false_eq_true, Nat.sub_self, List.append_nil, PL.isNon_non, PL.isNon_int, PL.isNon_str, PL.isNon_tup, PL.isNon_lst, PL.isNon_bl, pNever, Bool.not_true, Bool.not_false, Int.reduceLT, Int.reduceLE,  PL.pFld, fld_num, fld_mod, ex_rs, isNon_rs, pJs2]
    exact ⟨_, rfl, rfl, a, m, e, rfl, h⟩
end
end K3
set_option Elab.async false
set_option linter.all false
set_option maxRecDepth 100000
set_option maxHeartbeats 4000000
namespace K3
open PySem PySem.Spec PyProof.Rows L2 GX HX PL
/-! ### the primes in a number, as the program finds them -/
/-- a number divided by f as long as it can be -/
def stripN (f : Nat) : Nat → Nat → Nat
  | 0, l => l
  | k + 1, l => if l % f = 0 then stripN f k (l / f) else l
def prEnd (left : Nat) (acc : List Nat) : List Nat := if 1 < left then acc ++ [left] else acc
def prGo : Nat → Nat → Nat → List Nat → List Nat
  | 0, _, left, acc => prEnd left acc
  | k + 1, f, left, acc => if f * f ≤ left then prGo k (f + 1) (stripN f left left) (if left % f = 0 then acc ++ [f] else acc) else prEnd left acc
def prL (n : Nat) : List Nat := prGo 1000 2 n []
theorem strip_le (f : Nat) : ∀ k l, stripN f k l ≤ l
  | 0, l => Nat.le_refl _
  | k + 1, l => by
    unfold stripN
    split
    · exact Nat.le_trans (strip_le f k _) (Nat.div_le_self _ _)
    · exact Nat.le_refl _
theorem strip_pos {f : Nat} (hf : 2 ≤ f) : ∀ k l, 0 < l → 0 < stripN f k l
  | 0, l, h => h
  | k + 1, l, h => by
    unfold stripN
    split
    · rename_i e
      refine strip_pos hf k _ (Nat.div_pos (Nat.le_of_dvd h (Nat.dvd_of_mod_eq_zero e)) (by omega))
    · exact h
section
variable {P : Program} {w : World} {K : PySem.W.Frag} {mg : Str → Option Value} {base : Heap} {f : Addr} {fd : FuncData}
theorem scPr : FnScope ["number", "found", "left", "factor"] ["number"] (defScope (top 21)) := ⟨rfl, rfl, rfl, by decide +kernel, rfl, by decide +kernel, by decide +kernel⟩
def nI (l : List Nat) : List V := l.map fun (p : Nat) => .int (p : Int)
def pfPr : PF := fun ds Φ _ => ∃ n : Nat, ds = [.int (n : Int)] ∧ 1 ≤ n ∧ n ≤ 1000000 ∧ Φ (.lst ((prL n).map fun (p : Nat) => .int (p : Int)))
theorem wh_strip {a0 a1 : Option V} {f l : Nat} {D : Ends} {H2 : Hp} (hf : 2 ≤ f) (hf9 : f ≤ 1000000) (hl : 0 < l) (k : D.nx [a0, a1, some (.int ((stripN f l l : Nat) : Int)), some (.int (f : Int))] H2) :
    tWhile (tTest (tOp rEq (tOp (rI (fun _ j => 0 < j) fun i j => V.int (i % j)) (tVar 2) (tVar 3)) (tC (V.int 0)))) (tAsg (tOp (rI CDivW fun i j => V.int (i / j)) (tVar 2) (tVar 3)) (gName 2)) D [a0, a1, some (.int (l : Int)), some (.int (f : Int))] H2 := by
  generalize hT : stripN f l l = T at k
  refine ⟨fun m σ H' => H' = H2 ∧ ∃ j c : Nat, σ = [a0, a1, some (.int (c : Int)), some (.int (f : Int))] ∧ 0 < c ∧ c ≤ j ∧ stripN f j c = T ∧ m = c, ⟨l, rfl, l, l, rfl, hl, Nat.le_refl _, hT, rfl⟩, ?_⟩
  rintro m σ H' ⟨rfl, j, c, rfl, hc, hcj, hs, rfl⟩
  simp only [L2.start, tSeq, tNext, tAsg, tIf, tIfS, tTest, tOp, rI0, rI, tVar, tCB, tCons, tNil, tC, gName, tRet, tRetN, cxOf, List.map_cons, List.map_nil, List.length_cons, List.length_nil, List.cons_append, List.nil_append, List.replicate, List.getElem?_cons_succ, List.getElem?_cons_zero, Option.some.injEq, exists_eq_left', exists_eq_left, V.int.injEq, V.bl.injEq, V.ref.injEq, V.str.injEq, List.cons.injEq, and_true, true_and, exists_and_left, exists_and_right, reduceCtorEq, false_and, exists_false, or_false, false_or, List.set_cons_zero, List.set_cons_succ, tSl, rSlL, tNoPart, tPart, tOr, tAnd, tNot, rIxL, rIxT, gTup, gCons, gNil, gSub, rSetL, tLst, tTup, iList, iRng1, tPar, exists_const, Int.reduceEq, Int.reduceNe, Nat.reduceAdd, exists_eq_right, exists_eq, exists_eq', if_true, if_false, ite_true, ite_false, Bool.false_eq_true, ne_eq, not_false_eq_true, tB, tNotV, tIsN]
  have em : ((m : Int) % (f : Int)) = ((m % f : Nat) : Int) := by omega
  obtain ⟨j', rfl⟩ : ∃ j', j = j' + 1 := ⟨j - 1, by omega⟩
  refine ⟨by omega, rfl, _, rfl, ?_⟩
  rw [em, dec_ints]
  unfold stripN at hs
  by_cases hd : m % f = 0
  · rw [if_pos hd] at hs
    rw [if_pos (decide_eq_true (show ((m % f : Nat) : Int) = 0 by omega))]
    have lt : m / f < m := Nat.div_lt_self hc (by omega)
    refine ⟨fun σ' H2 => H2 = H' ∧ σ' = [a0, a1, some (.int ((m / f : Nat) : Int)), some (.int (f : Int))], fun σ' H2 ⟨e1, e2⟩ => ⟨m / f, lt, e1, j', m / f, e2, Nat.div_pos (Nat.le_of_dvd hc (Nat.dvd_of_mod_eq_zero hd)) (by omega), by omega, hs, rfl⟩, ?_⟩
    refine ⟨wide_div (b := 20) (by omega) (by omega) (by decide) (by decide), rfl, ?_⟩
    have : ((m : Int) / (f : Int)) = ((m / f : Nat) : Int) := by omega
    rw [this]
  · rw [if_neg hd] at hs
    rw [if_neg (by rw [decide_eq_true_iff]; omega)]
    rw [← hs] at k
    exact k
theorem ok_pr (DF : Df K mg "primes_of" 21 f fd) (T : Txt K mg) : FnP P w K mg base 1 f fd ["number"] pfPr := by
  refine DF.fn.okX scPr (fun vs H Q E h => spP_len (n := 1) (fun ds Φ Ξ h => by obtain ⟨n, rfl, _⟩ := h; rfl) h) fun cdv A outer s H vs Q E hr h => ?_
  obtain ⟨J, ds, Φ, Ξ, hj, hi, ⟨n, rfl, n1, n9, hp⟩, hq, hw⟩ := h
  obtain ⟨v, rfl, hv⟩ := hi.inv1
  cases hv
  refine ⟨_, (pss_cons (ps_set (i := 1) scPr.nd rfl (.inl rfl) (pe_lst pa_nil))
      (pss_cons (ps_par (i := 2) (j := 3) (by rfl) scPr.nd rfl rfl (by decide) rfl rfl (pa_cons (pv 0) (pa_cons pe_int pa_nil)) (by rfl))
      (pss_cons (ps_while (passes_of rfl) (pt_cmpR op_le (pe_op op_mul (pv 3) (pv 3)) (pv 2) (nomark _)) (pss_cons (ps_if (pt_cmpR op_eq (pe_op op_mod (pv 2) (pv 3)) pe_int (nomark _)) (pss_one (ps_expr (pe_bm PySem.F.plainAttrs_list PySem.F.slot_list_append PySem.F.type_list_append mt_append (pv 1) (pa_cons (pv 3) pa_nil)))) pss_nil)
      (pss_cons (ps_while (passes_of rfl) (pt_cmpR op_eq (pe_op op_mod (pv 2) (pv 3)) pe_int (nomark _)) (pss_one (ps_set (i := 2) scPr.nd rfl (.inl rfl) (pe_op op_fdivW (pv 2) (pv 3)))))
      (pss_one (ps_aug (i := 3) scPr.nd rfl (.inl rfl) pe_int ip_add)))))
      (pss_cons (ps_if (pt_cmpR op_gt (pv 2) pe_int (nomark _)) (pss_one (ps_expr (pe_bm PySem.F.plainAttrs_list PySem.F.slot_list_append PySem.F.type_list_append mt_append (pv 1) (pa_cons (pv 2) pa_nil)))) pss_nil)
      (pss_one (ps_ret (pv 1))))))), ?_⟩
  simp only [L2.start, tSeq, tNext, tAsg, tIf, tIfS, tTest, tOp, rI0, rI, tVar, tCB, tCons, tNil, tC, gName, tRet, tRetN, cxOf, List.map_cons, List.map_nil, List.length_cons, List.length_nil, List.cons_append, List.nil_append, List.replicate, List.getElem?_cons_succ, List.getElem?_cons_zero, Option.some.injEq, exists_eq_left', exists_eq_left, V.int.injEq, V.bl.injEq, V.ref.injEq, V.str.injEq, List.cons.injEq, and_true, true_and, exists_and_left, exists_and_right, reduceCtorEq, false_and, exists_false, or_false, false_or, List.set_cons_zero, List.set_cons_succ, tSl, rSlL, tNoPart, tPart, tOr, tAnd, tNot, rIxL, rIxT, gTup, gCons, gNil, gSub, rSetL, tLst, tTup, iList, iRng1, tPar, exists_const, Int.reduceEq, Int.reduceNe, Nat.reduceAdd, exists_eq_right, exists_eq, exists_eq', if_true, if_false, ite_true, ite_false, Bool.false_eq_true, ne_eq, not_false_eq_true, tB, tNotV, tIsN]
  refine ⟨Nat.zero_le _, fun p hp0 => ⟨_, _, ⟨rfl, rfl⟩, ?_⟩⟩
  have hk0 : ∀ b o, H b = some o → upd H p (.lst (nI [])) b = some o := fun b o hb => by rw [upd_ne (ne_of_none hb hp0)]; exact hb
  have cm : ∀ {i j : Int}, i.natAbs ≤ 1000000 → CMul i j := fun h => .inl (by omega)
  have cd : ∀ {i j : Int}, 0 < j → j ≤ 1000000 → CDivW i j := fun h1 h2 => wide_div (b := 20) h1 (by omega) (by decide) (by decide)
  have app : ∀ {L : List Nat} {x : Nat}, nI (L ++ [x]) = nI L ++ [V.int (x : Int)] := fun {L x} => by unfold nI; rw [List.map_append]; rfl
  have nlen : ∀ L : List Nat, (nI L).length = L.length := fun L => List.length_map _
  have up : ∀ {H' : Hp} {b : Addr} {o o' : HO}, H b = some o → H' b = some o → upd H' p o' b = some o := fun {H' b o o'} hb h => by rw [upd_ne (ne_of_none hb hp0)]; exact h
  refine ⟨fun m σ' H' => ∃ (k f l : Nat) (L : List Nat), σ' = [some (.int (n : Int)), some (.ref p), some (.int (l : Int)), some (.int (f : Int))] ∧ H' p = some (.lst (nI L)) ∧ (∀ b o, H b = some o → H' b = some o) ∧ 2 ≤ f ∧ 0 < l ∧ l ≤ n ∧ f + k = 1002 ∧ L.length + 2 ≤ f ∧ prGo k f l L = prL n ∧ m = k, ⟨1000, 1000, 2, n, [], rfl, upd_same, hk0, by decide, by omega, by omega, by decide, by decide, rfl, rfl⟩, ?_⟩
  rintro m σ' H' ⟨k, f, l, L, rfl, hL, hk, f2, l0, ln, fk, Lf, hgo, rfl⟩
  simp only [L2.start, tSeq, tNext, tAsg, tIf, tIfS, tTest, tOp, rI0, rI, tVar, tCB, tCons, tNil, tC, gName, tRet, tRetN, cxOf, List.map_cons, List.map_nil, List.length_cons, List.length_nil, List.cons_append, List.nil_append, List.replicate, List.getElem?_cons_succ, List.getElem?_cons_zero, Option.some.injEq, exists_eq_left', exists_eq_left, V.int.injEq, V.bl.injEq, V.ref.injEq, V.str.injEq, List.cons.injEq, and_true, true_and, exists_and_left, exists_and_right, reduceCtorEq, false_and, exists_false, or_false, false_or, List.set_cons_zero, List.set_cons_succ, tSl, rSlL, tNoPart, tPart, tOr, tAnd, tNot, rIxL, rIxT, gTup, gCons, gNil, gSub, rSetL, tLst, tTup, iList, iRng1, tPar, exists_const, Int.reduceEq, Int.reduceNe, Nat.reduceAdd, exists_eq_right, exists_eq, exists_eq', if_true, if_false, ite_true, ite_false, Bool.false_eq_true, ne_eq, not_false_eq_true, tB, tNotV, tIsN]
  refine ⟨cm (by omega), ?_⟩
  by_cases hff : f * f ≤ l
  · have h1 : ((f : Int) * (f : Int) ≤ (l : Int)) := by rw [← Int.natCast_mul]; omega
    have fle : f ≤ 1000 := Nat.le_of_not_lt fun h => by
      have : 1001 * 1001 ≤ f * f := Nat.mul_le_mul h h
      omega
    obtain ⟨k', rfl⟩ : ∃ k', m = k' + 1 := ⟨m - 1, by omega⟩
    have hgo2 : prGo k' (f + 1) (stripN f l l) (if l % f = 0 then L ++ [f] else L) = prL n := by
      rw [← hgo]
      conv => rhs; unfold prGo
      rw [if_pos hff]
    rw [if_pos (decide_eq_true h1)]
    refine ⟨fun σ' H' => ∃ (f l : Nat) (L : List Nat), σ' = [some (.int (n : Int)), some (.ref p), some (.int (l : Int)), some (.int (f : Int))] ∧ H' p = some (.lst (nI L)) ∧ (∀ b o, H b = some o → H' b = some o) ∧ 2 ≤ f ∧ 0 < l ∧ l ≤ n ∧ f + k' = 1002 ∧ L.length + 2 ≤ f ∧ prGo k' f l L = prL n, fun σ' H' ⟨f, l, L, a⟩ => ⟨k', by omega, k', f, l, a.1, L, a.2.1, a.2.2.1, a.2.2.2.1, a.2.2.2.2.1, a.2.2.2.2.2.1, a.2.2.2.2.2.2.1, a.2.2.2.2.2.2.2.1, a.2.2.2.2.2.2.2.2, rfl⟩, by omega, rfl, _, rfl, ?_⟩
    have em : ((l : Int) % (f : Int)) = ((l % f : Nat) : Int) := by omega
    have sp := strip_pos f2 l l l0
    have sl := strip_le f l l
    rw [em, dec_ints]
    by_cases hd : l % f = 0
    · rw [if_pos hd] at hgo2
      rw [if_pos (decide_eq_true (show ((l % f : Nat) : Int) = 0 by omega))]
      simp only [L2.start, tSeq, tNext, tAsg, tIf, tIfS, tTest, tOp, rI0, rI, tVar, tCB, tCons, tNil, tC, gName, tRet, tRetN, cxOf, List.map_cons, List.map_nil, List.length_cons, List.length_nil, List.cons_append, List.nil_append, List.replicate, List.getElem?_cons_succ, List.getElem?_cons_zero, Option.some.injEq, exists_eq_left', exists_eq_left, V.int.injEq, V.bl.injEq, V.ref.injEq, V.str.injEq, List.cons.injEq, and_true, true_and, exists_and_left, exists_and_right, reduceCtorEq, false_and, exists_false, or_false, false_or, List.set_cons_zero, List.set_cons_succ, tSl, rSlL, tNoPart, tPart, tOr, tAnd, tNot, rIxL, rIxT, gTup, gCons, gNil, gSub, rSetL, tLst, tTup, iList, iRng1, tPar, exists_const, Int.reduceEq, Int.reduceNe, Nat.reduceAdd, exists_eq_right, exists_eq, exists_eq', if_true, if_false, ite_true, ite_false, Bool.false_eq_true, ne_eq, not_false_eq_true, tB, tNotV, tIsN, tDrop, tBM, rAppend]
      refine ⟨.inl ⟨rfl, _, SqL.of hL⟩, _, hL, by rw [nlen]; exact small1000 (by omega), wh_strip f2 (by omega) l0 ?_⟩
      refine ⟨_, rfl, _, _, rfl, rfl, f + 1, stripN f l l, rfl, L ++ [f], by rw [upd_same, app], fun b o hb => up hb (hk b o hb), by omega, sp, by omega, by omega, by rw [List.length_append]; show L.length + 1 + 2 ≤ f + 1; omega, hgo2⟩
    · rw [if_neg hd] at hgo2
      rw [if_neg (by rw [decide_eq_true_iff]; omega)]
      refine wh_strip f2 (by omega) l0 ?_
      exact ⟨_, rfl, _, _, rfl, rfl, f + 1, stripN f l l, L, rfl, hL, hk, by omega, sp, by omega, by omega, by omega, hgo2⟩
  · have h1 : ¬ ((f : Int) * (f : Int) ≤ (l : Int)) := by rw [← Int.natCast_mul]; omega
    rw [if_neg (by rw [decide_eq_true_iff]; exact h1)]
    have he : prL n = prEnd l L := by
      rw [← hgo]
      cases m with
      | zero => rfl
      | succ k =>
        unfold prGo
        rw [if_neg hff]
    have fin : ∀ H2 : Hp, H2 p = some (.lst (nI (prL n))) → (∀ b o, H b = some o → H2 b = some o) → Q (.ref p) H2 := fun H2 h2 hk2 => by
      have nj : J ≠ some p := fun z => by
        obtain ⟨x, y, z', q⟩ := hj p z
        rw [hp0] at q
        cases q
      refine hq _ (.lst ((prL n).map fun (p : Nat) => .int (p : Int))) H2 ⟨fun b o _ hb => hk2 b o hb, fun j e => ?_⟩ (.lst h2 nj ?_) hp
      · obtain ⟨x, y, z', q⟩ := hj j e
        exact ⟨x, y, z', hk2 _ _ q⟩
      · have := IsL.ints (K := K) (J := J) (H := H2) ((prL n).map fun (p : Nat) => (p : Int))
        rw [List.map_map, List.map_map] at this
        exact this
    by_cases hl1 : 1 < l
    · rw [if_pos (decide_eq_true (show (1 : Int) < (l : Int) by omega))]
      simp only [L2.start, tSeq, tNext, tAsg, tIf, tIfS, tTest, tOp, rI0, rI, tVar, tCB, tCons, tNil, tC, gName, tRet, tRetN, cxOf, List.map_cons, List.map_nil, List.length_cons, List.length_nil, List.cons_append, List.nil_append, List.replicate, List.getElem?_cons_succ, List.getElem?_cons_zero, Option.some.injEq, exists_eq_left', exists_eq_left, V.int.injEq, V.bl.injEq, V.ref.injEq, V.str.injEq, List.cons.injEq, and_true, true_and, exists_and_left, exists_and_right, reduceCtorEq, false_and, exists_false, or_false, false_or, List.set_cons_zero, List.set_cons_succ, tSl, rSlL, tNoPart, tPart, tOr, tAnd, tNot, rIxL, rIxT, gTup, gCons, gNil, gSub, rSetL, tLst, tTup, iList, iRng1, tPar, exists_const, Int.reduceEq, Int.reduceNe, Nat.reduceAdd, exists_eq_right, exists_eq, exists_eq', if_true, if_false, ite_true, ite_false, Bool.false_eq_true, ne_eq, not_false_eq_true, tB, tNotV, tIsN, tDrop, tBM, rAppend]
      refine ⟨.inl ⟨rfl, _, SqL.of hL⟩, _, hL, by rw [nlen]; exact small1000 (by omega), fin _ ?_ fun b o hb => up hb (hk b o hb)⟩
      rw [upd_same, he]
      unfold prEnd
      rw [if_pos hl1, app]
    · rw [if_neg (by rw [decide_eq_true_iff]; omega)]
      refine fin _ ?_ hk
      rw [hL, he]
      unfold prEnd
      rw [if_neg hl1]
abbrev FPr (P : Program) (w : World) (K : PySem.W.Frag) (mg : Str → Option Value) (base : Heap) := Fn P w K mg base "primes_of" 1 ["number"] pfPr
end
end K3
set_option Elab.async false
set_option linter.all false
set_option maxRecDepth 100000
set_option maxHeartbeats 4000000
namespace K3
open PySem PySem.Spec PyProof.Rows L2 GX HX PL
/-! ### an inverse is there -/
theorem iv_go (a m : Int) (hm : Md m) (hg : Nat.gcd a.natAbs m.natAbs = 1) : ∀ (k : Nat) (u l t n : Int), l.toNat ≤ k → Eu a m u l t n → ∃ t, Iv a m t := by
  intro k
  induction k with
  | zero =>
    intro u l t n hk h
    have l0 : l = 0 := by have := h.l0; omega
    have g := h.g
    rw [l0, hg] at g
    have g : u.natAbs = 1 := by rw [← g]; exact (Nat.gcd_zero_right _).symm
    have hu := h.lu
    have u1 : u = 1 := by omega
    refine ⟨t % m, in_mod hm, ?_⟩
    obtain ⟨c, hc⟩ := h.kt
    have e : a * (t % m) % m = a * t % m := by rw [Int.mul_emod, Int.emod_emod, ← Int.mul_emod]
    rw [e, show a * t = 1 + m * c by omega, Int.add_mul_emod_self_left]
    exact Int.emod_eq_of_lt (by decide) (by have := hm.1; omega)
  | succ k ih =>
    intro u l t n hk h
    by_cases hl : 0 < l
    · have h' := h.step hl
      exact ih _ _ _ _ (by have := h'.lu; omega) h'
    · exact ih u l t n (by omega) h
theorem iv_ex {a m : Int} (hm : Md m) (hg : Nat.gcd a.natAbs m.natAbs = 1) : ∃ t, Iv a m t := iv_go a m hm hg (a % m).toNat _ _ _ _ (Nat.le_refl _) (Eu.start (by have := hm.1; omega))
/-! ### Euler -/
def U (m : Nat) : List Nat := (List.range m).filter fun x => Nat.beq (Nat.gcd x m) 1
theorem mem_U {m x : Nat} : x ∈ U m ↔ x < m ∧ Nat.gcd x m = 1 := by
  unfold U
  rw [List.mem_filter, List.mem_range]
  constructor
  · rintro ⟨h1, h2⟩
    exact ⟨h1, Nat.eq_of_beq_eq_true h2⟩
  · rintro ⟨h1, h2⟩
    exact ⟨h1, by rw [h2]; rfl⟩
theorem prod_map (f : Nat → Nat) (a m : Nat) (hf : ∀ x, f x = a * x % m) : ∀ l : List Nat, (l.map f).prod % m = a ^ l.length * l.prod % m
  | [] => by
    show 1 % m = a ^ 0 * 1 % m
    rw [Nat.pow_zero, Nat.one_mul]
  | x :: r => by
    have ih := prod_map f a m hf r
    rw [List.map_cons, List.prod_cons, List.length_cons, List.prod_cons, hf, Nat.mul_mod, Nat.mod_mod, ih, ← Nat.mul_mod, Nat.pow_succ]
    congr 1
    grind
theorem prod_cop {m : Nat} : ∀ l : List Nat, (∀ x ∈ l, Nat.gcd x m = 1) → Nat.Coprime l.prod m
  | [], _ => Nat.gcd_one_left m
  | x :: r, h => by
    rw [List.prod_cons]
    exact Nat.Coprime.mul_left (h x (List.mem_cons_self ..)) (prod_cop r fun y hy => h y (List.mem_cons_of_mem _ hy))
theorem euler {a m : Nat} (hm : 2 ≤ m) (h9 : m ≤ 1000000) (h : Nat.gcd a m = 1) : a ^ (U m).length % m = 1 := by
  obtain ⟨ti, ⟨t0, t1⟩, ht⟩ := iv_ex (a := (a : Int)) (m := (m : Int)) ⟨by omega, by omega⟩ h
  obtain ⟨t, rfl⟩ : ∃ t : Nat, ti = (t : Int) := ⟨ti.toNat, by omega⟩
  have ht : a * t % m = 1 := by
    have : (((a * t % m : Nat)) : Int) = ((1 : Nat) : Int) := by rw [Int.natCast_emod, Int.natCast_mul]; exact ht
    exact Int.ofNat.inj this
  have one : ∀ x, a * t * x % m = x % m := fun x => by rw [Nat.mul_mod, ht, Nat.one_mul, Nat.mod_mod]
  have gf : ∀ x, x < m → t * (a * x % m) % m = x := fun x hx => by
    rw [Nat.mul_mod, Nat.mod_mod, ← Nat.mul_mod, show t * (a * x) = a * t * x by grind, one, Nat.mod_eq_of_lt hx]
  have fg : ∀ x, x < m → a * (t * x % m) % m = x := fun x hx => by
    rw [Nat.mul_mod, Nat.mod_mod, ← Nat.mul_mod, show a * (t * x) = a * t * x by grind, one, Nat.mod_eq_of_lt hx]
  have gm : ∀ x, Nat.gcd (x % m) m = Nat.gcd x m := fun x => by rw [← Nat.gcd_rec, Nat.gcd_comm]
  have ct : Nat.gcd t m = 1 := by
    have d1 := Nat.gcd_dvd_left t m
    have d2 := Nat.gcd_dvd_right t m
    have d3 : Nat.gcd t m ∣ a * t := Nat.dvd_trans d1 (Nat.dvd_mul_left t a)
    have e := Nat.div_add_mod (a * t) m
    rw [ht] at e
    have d4 : Nat.gcd t m ∣ m * (a * t / m) := Nat.dvd_trans d2 (Nat.dvd_mul_right _ _)
    have d5 : Nat.gcd t m ∣ 1 := (Nat.dvd_add_right d4).mp (by rw [e]; exact d3)
    exact Nat.dvd_one.mp d5
  have nd : (U m).Nodup := List.Pairwise.filter _ List.nodup_range
  have p : ((U m).map fun x => a * x % m).Perm (U m) := by
    refine (List.perm_ext_iff_of_nodup ?_ nd).mpr fun y => ?_
    · refine List.pairwise_map.mpr (List.Pairwise.imp_of_mem (fun {x y} hx hy hne e => hne ?_) nd)
      have e1 := gf x (mem_U.mp hx).1
      have e2 := gf y (mem_U.mp hy).1
      rw [← e1, ← e2, e]
    · rw [List.mem_map]
      constructor
      · rintro ⟨x, hx, rfl⟩
        exact mem_U.mpr ⟨Nat.mod_lt _ (by omega), by rw [gm]; exact Nat.Coprime.mul_left h (mem_U.mp hx).2⟩
      · intro hy
        have hy := mem_U.mp hy
        exact ⟨t * y % m, mem_U.mpr ⟨Nat.mod_lt _ (by omega), by rw [gm]; exact Nat.Coprime.mul_left ct hy.2⟩, fg y hy.1⟩
  have e := prod_map (fun x => a * x % m) a m (fun _ => rfl) (U m)
  rw [p.prod_nat] at e
  have cp := prod_cop (U m) fun x hx => (mem_U.mp hx).2
  have a0 : 0 < a := by
    rcases Nat.eq_zero_or_pos a with z | z
    · subst z
      rw [Nat.gcd_zero_left] at h
      omega
    · exact z
  have E0 : 0 < a ^ (U m).length := Nat.pow_pos a0
  generalize a ^ (U m).length = E at *
  generalize (U m).prod = Q at *
  have z := Nat.sub_mod_eq_zero_of_mod_eq e.symm
  have e2 : E * Q - Q = (E - 1) * Q := by rw [Nat.sub_mul, Nat.one_mul]
  rw [e2] at z
  have d := Nat.Coprime.dvd_of_dvd_mul_right cp.symm (Nat.dvd_of_mod_eq_zero z)
  obtain ⟨c, hc⟩ := d
  rw [show E = 1 + m * c by omega, Nat.add_mul_mod_self_left]
  exact Nat.mod_eq_of_lt (by omega)
/-! ### as many as the program counts, to 1200 -/
def cnt (m : Nat) (k : Nat) : Nat := Nat.rec (motive := fun _ => Nat) 0 (fun j ih => cond (Nat.beq (Nat.gcd j m) 1) (Nat.add ih 1) ih) k
def cuN (m : Nat) : Nat := (prL m).foldl (fun x p => x / p * (p - 1)) m
def chk (k : Nat) : Bool := Nat.rec (motive := fun _ => Bool) true (fun j ih => cond ih (Nat.beq (cuN j) (cnt j j)) false) k
theorem chk_all : chk 1201 = true := by decide +kernel
theorem chk_le : ∀ k, chk k = true → ∀ j, j < k → cuN j = cnt j j
  | 0, _, j, h => absurd h (Nat.not_lt_zero _)
  | k + 1, h, j, hj => by
    have h : cond (chk k) (Nat.beq (cuN k) (cnt k k)) false = true := h
    cases hc : chk k with
    | false => rw [hc] at h; cases h
    | true =>
      rw [hc] at h
      rcases Nat.lt_succ_iff_lt_or_eq.mp hj with e | e
      · exact chk_le k hc j e
      · rw [e]
        exact Nat.eq_of_beq_eq_true h
theorem cnt_len (m : Nat) : ∀ k, cnt m k = ((List.range k).filter fun x => Nat.beq (Nat.gcd x m) 1).length
  | 0 => rfl
  | k + 1 => by
    have ih := cnt_len m k
    rw [List.range_succ, List.filter_append, List.length_append, ← ih]
    show cond (Nat.beq (Nat.gcd k m) 1) (Nat.add (cnt m k) 1) (cnt m k) = cnt m k + _
    cases h : Nat.beq (Nat.gcd k m) 1 with
    | true =>
      rw [List.filter_cons_of_pos (by rw [h])]
      rfl
    | false =>
      rw [List.filter_cons_of_neg (by rw [h]; decide)]
      rfl
theorem cu_one {a m : Nat} (hm : 2 ≤ m) (h9 : m ≤ 1200) (h : Nat.gcd a m = 1) : a ^ cuN m % m = 1 := by
  have e : cuN m = (U m).length := (chk_le 1201 chk_all m (by omega)).trans (cnt_len m m)
  rw [e]
  exact euler hm (by omega) h
end K3
set_option Elab.async false
set_option linter.all false
set_option maxRecDepth 100000
set_option maxHeartbeats 4000000
namespace K3
open PySem PySem.Spec PyProof.Rows L2 GX HX PL
/-! ### the primes in a number, to 1200 -/
def pok (n : Nat) (L : List Nat) : Bool := L.all fun p => cond (Nat.ble 2 p) (Nat.ble p n) false
def anyD (L : List Nat) (q : Nat) : Bool := L.any fun p => Nat.beq (q % p) 0
def chq (n k : Nat) : Bool := Nat.rec (motive := fun _ => Bool) true (fun q ih => cond ih (cond (Nat.ble 2 q) (cond (Nat.beq (n % q) 0) (anyD (prL n) q) true) true) false) k
def chn (k : Nat) : Bool := Nat.rec (motive := fun _ => Bool) true (fun n ih => cond ih (cond (pok n (prL n)) (chq n (n + 1)) false) false) k
theorem chn_all : chn 1201 = true := by decide +kernel
theorem cond_t {a b c : Bool} (h : cond a b c = true) : (a = true ∧ b = true) ∨ (a = false ∧ c = true) := by
  cases a
  · exact .inr ⟨rfl, h⟩
  · exact .inl ⟨rfl, h⟩
theorem chn_le : ∀ k, chn k = true → ∀ j, j < k → pok j (prL j) = true ∧ chq j (j + 1) = true
  | 0, _, j, h => absurd h (Nat.not_lt_zero _)
  | k + 1, h, j, hj => by
    have h : cond (chn k) (cond (pok k (prL k)) (chq k (k + 1)) false) false = true := h
    rcases cond_t h with ⟨h1, h2⟩ | ⟨_, h2⟩
    · rcases Nat.lt_succ_iff_lt_or_eq.mp hj with e | e
      · exact chn_le k h1 j e
      · subst e
        rcases cond_t h2 with h3 | ⟨_, h3⟩
        · exact h3
        · cases h3
    · cases h2
theorem chq_le (n : Nat) : ∀ k, chq n k = true → ∀ q, q < k → 2 ≤ q → n % q = 0 → anyD (prL n) q = true
  | 0, _, j, h => absurd h (Nat.not_lt_zero _)
  | k + 1, h, q, hq => fun h2 h0 => by
    have h : cond (chq n k) (cond (Nat.ble 2 k) (cond (Nat.beq (n % k) 0) (anyD (prL n) k) true) true) false = true := h
    rcases cond_t h with ⟨h1, h3⟩ | ⟨_, h3⟩
    · rcases Nat.lt_succ_iff_lt_or_eq.mp hq with e | e
      · exact chq_le n k h1 q e h2 h0
      · subst e
        rw [Nat.ble_eq.mpr h2, h0] at h3
        exact h3
    · cases h3
theorem pr_mem {n p : Nat} (h9 : n ≤ 1200) (hp : p ∈ prL n) : 2 ≤ p ∧ p ≤ n := by
  have h := (chn_le 1201 chn_all n (by omega)).1
  have h := List.all_eq_true.mp h p hp
  rcases cond_t h with ⟨h1, h2⟩ | ⟨_, h2⟩
  · exact ⟨Nat.le_of_ble_eq_true h1, Nat.le_of_ble_eq_true h2⟩
  · cases h2
theorem pr_dvd {n q : Nat} (h9 : n ≤ 1200) (h0 : 0 < n) (hq : 2 ≤ q) (hd : q ∣ n) : ∃ p ∈ prL n, p ∣ q := by
  have h := (chn_le 1201 chn_all n (by omega)).2
  have h := chq_le n _ h q (Nat.lt_succ_of_le (Nat.le_of_dvd h0 hd)) hq (Nat.mod_eq_zero_of_dvd hd)
  obtain ⟨p, hp, e⟩ := List.any_eq_true.mp h
  exact ⟨p, hp, Nat.dvd_of_mod_eq_zero (Nat.eq_of_beq_eq_true e)⟩
/-! ### orders -/
theorem one_mod {m : Int} (hm : Md m) : (1 : Int) % m = 1 := Int.emod_eq_of_lt (by decide) (by have := hm.1; omega)
theorem pw_mul {a m : Int} (hm : Md m) {x : Nat} (h : a ^ x % m = 1) : ∀ y : Nat, a ^ (x * y) % m = 1
  | 0 => by rw [Nat.mul_zero, Int.pow_zero, one_mod hm]
  | y + 1 => by rw [Nat.mul_succ, Int.pow_add, Int.mul_emod, pw_mul hm h y, h, Int.mul_one, one_mod hm]
/-- the least exponent from 1 on with which the power is 1 -/
def IsOrd (a m : Int) (k : Nat) : Prop := 1 ≤ k ∧ a ^ k % m = 1 ∧ ∀ j, 1 ≤ j → j < k → a ^ j % m ≠ 1
theorem least {a m : Int} : ∀ n j : Nat, j ≤ n → 1 ≤ j → a ^ j % m = 1 → ∃ d, d ≤ j ∧ IsOrd a m d
  | 0, j, h, h1, _ => by omega
  | n + 1, j, h, h1, e => by
    by_cases c : ∀ i, 1 ≤ i → i < j → a ^ i % m ≠ 1
    · exact ⟨j, Nat.le_refl _, h1, e, c⟩
    · have : ∃ i, 1 ≤ i ∧ i < j ∧ a ^ i % m = 1 := by
        refine Classical.byContradiction fun z => c fun i i1 i2 e => z ⟨i, i1, i2, e⟩
      obtain ⟨i, i1, i2, e2⟩ := this
      obtain ⟨d, d1, d2⟩ := least n i (by omega) i1 e2
      exact ⟨d, by omega, d2⟩
theorem ord_dvd {a m : Int} (hm : Md m) {d o : Nat} (h : IsOrd a m d) (ho : a ^ o % m = 1) : d ∣ o := by
  obtain ⟨h1, h2, h3⟩ := h
  refine Nat.dvd_of_mod_eq_zero (Classical.byContradiction fun z => h3 (o % d) (by omega) (Nat.mod_lt _ (by omega)) ?_)
  have e : a ^ o % m = a ^ (o % d) % m := by
    have : o = d * (o / d) + o % d := (Nat.div_add_mod o d).symm
    rw [this, Int.pow_add, Int.mul_emod, pw_mul hm h2, Int.one_mul, Int.emod_emod, ← this]
  rw [← e]
  exact ho
/-- no prime p may be taken out of o -/
def Hd (a m : Int) (o p : Nat) : Prop := ¬ (o % p = 0 ∧ a ^ (o / p) % m = 1)
theorem Hd.keep {a m : Int} (hm : Md m) {o t p : Nat} (ht : 0 < t) (h : Hd a m (o * t) p) (hp : 2 ≤ p) : Hd a m o p := by
  rintro ⟨h1, h2⟩
  obtain ⟨c, rfl⟩ := Nat.dvd_of_mod_eq_zero h1
  rw [Nat.mul_div_cancel_left _ (by omega)] at h2
  refine h ⟨by rw [Nat.mul_assoc]; exact Nat.mul_mod_right _ _, ?_⟩
  rw [Nat.mul_assoc, Nat.mul_div_cancel_left _ (by omega)]
  exact pw_mul hm h2 t
theorem ord_of {a m : Int} (hm : Md m) {o c : Nat} (hc : c ≤ 1200) (c0 : 0 < c) (od : o ∣ c) (h1 : a ^ o % m = 1) (h2 : ∀ p ∈ prL c, Hd a m o p) : IsOrd a m o := by
  have o0 : 0 < o := Nat.pos_of_dvd_of_pos od c0
  obtain ⟨d, hd, hI⟩ := least o o (Nat.le_refl _) o0 h1
  obtain ⟨q, rfl⟩ := ord_dvd hm hI h1
  have d0 := hI.1
  by_cases hq : q = 1
  · subst hq
    rw [Nat.mul_one]
    exact hI
  · have q0 : q ≠ 0 := fun z => by subst z; omega
    obtain ⟨p, hp, t, rfl⟩ := pr_dvd hc c0 (show 2 ≤ q by omega) (Nat.dvd_trans (Nat.dvd_mul_left q d) od)
    have p2 := (pr_mem hc hp).1
    have e : d * (p * t) = p * (d * t) := by grind
    refine absurd ?_ (h2 p hp)
    rw [e]
    exact ⟨Nat.mul_mod_right _ _, by rw [Nat.mul_div_cancel_left _ (by omega)]; exact pw_mul hm hI.2.1 t⟩
theorem cu_pos {m : Nat} (hm : 2 ≤ m) (h9 : m ≤ 1200) : 1 ≤ cuN m ∧ cuN m ≤ m := by
  have e : cuN m = (U m).length := (chk_le 1201 chk_all m (by omega)).trans (cnt_len m m)
  rw [e]
  refine ⟨List.length_pos_of_mem (mem_U.mpr ⟨show 1 < m by omega, Nat.gcd_one_left m⟩), ?_⟩
  have := List.length_filter_le (fun x => Nat.beq (Nat.gcd x m) 1) (List.range m)
  rw [List.length_range] at this
  exact this
theorem cu_int {a m : Int} (hm : Md m) (h9 : m ≤ 1200) (ha : In a m) (hg : Nat.gcd a.natAbs m.natAbs = 1) : a ^ cuN m.toNat % m = 1 := by
  obtain ⟨x, rfl⟩ : ∃ x : Nat, a = (x : Int) := ⟨a.toNat, by have := ha.1; omega⟩
  obtain ⟨n, rfl⟩ : ∃ n : Nat, m = (n : Int) := ⟨m.toNat, by have := hm.1; omega⟩
  have h := cu_one (a := x) (m := n) (by have := hm.1; omega) (by omega) hg
  rw [Int.toNat_natCast]
  have : ((x ^ cuN n % n : Nat) : Int) = ((1 : Nat) : Int) := by rw [h]
  rw [Int.natCast_emod, Int.natCast_pow] at this
  exact this
end K3
set_option Elab.async false
set_option linter.all false
set_option maxRecDepth 100000
set_option maxHeartbeats 4000000

namespace K3
open PySem PySem.Spec PyProof.Rows L2 GX HX PL
section
variable {P : Program} {w : World} {K : PySem.W.Frag} {mg : Str → Option Value} {base : Heap} {f : Addr} {fd : FuncData}
/-! ### _count_units -/
theorem scCu : FnScope ["modulus", "many", "prime"] ["modulus"] (defScope (top 28)) := ⟨rfl, rfl, rfl, by decide +kernel, rfl, by decide +kernel, by decide +kernel⟩
def cuF (x p : Nat) : Nat := x / p * (p - 1)
theorem cuF_le {x p n : Nat} (h : x ≤ n) : cuF x p ≤ n := by
  unfold cuF
  have h1 : x / p * (p - 1) ≤ x / p * p := Nat.mul_le_mul_left _ (Nat.sub_le _ _)
  have h2 := Nat.div_mul_le_self x p
  omega
def pfCu : PF := fun ds Φ _ => ∃ n : Nat, ds = [.int (n : Int)] ∧ 1 ≤ n ∧ n ≤ 1200 ∧ Φ (.int (cuN n : Nat))
theorem ok_cu (DF : Df K mg "_count_units" 28 f fd) (PR : FPr P w K mg base) : FnP P w K mg base 2 f fd ["modulus"] pfCu := by
  refine fnP DF.fn scCu (fun ds Φ Ξ h => ?_) fun cdv A outer s H E J Ξ hr wok => ⟨_, (qss_cons (qs_set (i := 1) scCu.nd rfl (.inl rfl) (qv 0))
      (qss_cons (qs_for (i := 2) (passes_of rfl) rfl (qi_list (q_call PR.ok (hr.mono (by decide)) (by rfl) PR.gl PR.kp PR.bd (qa_cons (qv 0) qa_nil))) scCu.nd rfl (.inl rfl) (qss_one (qs_set (i := 1) scCu.nd rfl (.inl rfl) (q_mul (q_fdiv (qv 1) (qv 2)) (q_sub (qv 2) q_int)))))
      (qss_one (qs_ret (qv 1))))), fun ds Φ h => ?_⟩
  · obtain ⟨_, rfl, _⟩ := h
    rfl
  · obtain ⟨n, rfl, n1, n9, q⟩ := h
    simp only [startD, pSeq, pNext, pSet, pRet, pRetN, pVar, pC, pNil, pCons, pTup, pLst, pOp, dI, dI0, pTest, dEq, dNe, pAnd, pOr, pNot, pIf, pIfS, pAndV, pOrV, pCall, pMeth, pFld, pB, pChain, pNoPart, pPart, pSl, dSlS, dSlC, dM1, pFmt, pJs3, pPar, pPar3, pUnp, pJarIx, pJarSet, dIxT, dIxL, dIxS, dIxC, dCat, dRep, dAddS, dOwn2, dOwnI, dOwnR, setAll, noX, List.map_cons, List.map_nil, List.length_cons, List.length_nil, List.cons_append, List.nil_append, List.replicate, List.getElem?_cons_succ, List.getElem?_cons_zero, List.set_cons_zero, List.set_cons_succ, List.zip_cons_cons, List.zip_nil_right, List.foldl_cons, List.foldl_nil, Option.some.injEq, exists_eq_left', exists_eq_left, exists_eq_right, exists_eq, exists_eq', PL.D.int.injEq, PL.D.bl.injEq, PL.D.str.injEq, PL.D.tup.injEq, PL.D.lst.injEq, PL.D.ins.injEq, PL.D.scr.injEq, List.cons.injEq, and_true, true_and, and_self, exists_and_left, exists_and_right, reduceCtorEq, false_and, and_false, exists_false, or_false, false_or, forall_const, false_implies, true_implies, Nat.reduceAdd, Nat.reduceSub, Nat.reduceLeDiff, exists_const, if_true, if_false, Bool.false_eq_true, ne_eq, not_false_eq_true, Nat.sub_self, List.append_nil, PL.isNon_non, PL.isNon_int, PL.isNon_str, PL.isNon_tup, PL.isNon_lst, PL.isNon_bl, pNever, Bool.not_true, Bool.not_false, Int.reduceLT, Int.reduceLE,  PL.pFld, fld_num, fld_mod, ex_rs, isNon_rs, pJs2, pfPr, pFor]
    refine ⟨n, rfl, n1, by omega, fun j ρ => ∃ (x : Nat) (c : Option PL.D), ρ = [some (.int (n : Int)), some (.int (x : Int)), c] ∧ x = ((prL n).take j).foldl cuF n ∧ x ≤ n, ⟨n, _, rfl, rfl, Nat.le_refl _⟩, fun j d ρ hd hρ => ?_, fun ρ hρ => ?_⟩
    · obtain ⟨x, c, rfl, hx, hn⟩ := hρ
      rw [List.getElem?_map] at hd
      obtain ⟨p, hp, rfl⟩ := Option.map_eq_some_iff.mp hd
      have pm := pr_mem n9 (List.mem_of_getElem? hp)
      simp only [startD, pSeq, pNext, pSet, pRet, pRetN, pVar, pC, pNil, pCons, pTup, pLst, pOp, dI, dI0, pTest, dEq, dNe, pAnd, pOr, pNot, pIf, pIfS, pAndV, pOrV, pCall, pMeth, pFld, pB, pChain, pNoPart, pPart, pSl, dSlS, dSlC, dM1, pFmt, pJs3, pPar, pPar3, pUnp, pJarIx, pJarSet, dIxT, dIxL, dIxS, dIxC, dCat, dRep, dAddS, dOwn2, dOwnI, dOwnR, setAll, noX, List.map_cons, List.map_nil, List.length_cons, List.length_nil, List.cons_append, List.nil_append, List.replicate, List.getElem?_cons_succ, List.getElem?_cons_zero, List.set_cons_zero, List.set_cons_succ, List.zip_cons_cons, List.zip_nil_right, List.foldl_cons, List.foldl_nil, Option.some.injEq, exists_eq_left', exists_eq_left, exists_eq_right, exists_eq, exists_eq', PL.D.int.injEq, PL.D.bl.injEq, PL.D.str.injEq, PL.D.tup.injEq, PL.D.lst.injEq, PL.D.ins.injEq, PL.D.scr.injEq, List.cons.injEq, and_true, true_and, and_self, exists_and_left, exists_and_right, reduceCtorEq, false_and, and_false, exists_false, or_false, false_or, forall_const, false_implies, true_implies, Nat.reduceAdd, Nat.reduceSub, Nat.reduceLeDiff, exists_const, if_true, if_false, Bool.false_eq_true, ne_eq, not_false_eq_true, Nat.sub_self, List.append_nil, PL.isNon_non, PL.isNon_int, PL.isNon_str, PL.isNon_tup, PL.isNon_lst, PL.isNon_bl, pNever, Bool.not_true, Bool.not_false, Int.reduceLT, Int.reduceLE,  PL.pFld, fld_num, fld_mod, ex_rs, isNon_rs, pJs2]
      have e1 : ((x : Int) / (p : Int)) = ((x / p : Nat) : Int) := by omega
      have e2 : ((p : Int) - 1) = ((p - 1 : Nat) : Int) := by omega
      refine ⟨wide_div (b := 20) (by omega) (by omega) (by decide) (by decide), ?_⟩
      rw [e1, e2, ← Int.natCast_mul]
      refine ⟨?_, x / p * (p - 1), rfl, ?_, cuF_le hn⟩
      · have h1 : x / p ≤ x := Nat.div_le_self _ _
        exact (show Bd 20 ((x / p : Nat) : Int) by unfold Bd; rw [Int.natAbs_natCast]; omega).mulW (show Bd 20 ((p - 1 : Nat) : Int) by unfold Bd; omega) (by decide) (by decide) (by decide)
      · rw [List.take_add_one, hp, List.foldl_append, ← hx]
        rfl
    · obtain ⟨x, c, rfl, hx, hn⟩ := hρ
      rw [List.length_map, List.take_length] at hx
      refine ⟨_, rfl, ?_⟩
      rw [hx]
      exact q
abbrev FCu (P : Program) (w : World) (K : PySem.W.Frag) (mg : Str → Option Value) (base : Heap) := Fn P w K mg base "_count_units" 2 ["modulus"] pfCu
/-! ### order_of -/
theorem scOr : FnScope ["number", "order", "prime"] ["number"] (defScope (top 27)) := ⟨rfl, rfl, rfl, by decide +kernel, rfl, by decide +kernel, by decide +kernel⟩
def pfOr : PF := fun ds Φ Ξ => ∃ d, ds = [d] ∧ Kd d ∧ ((gRs d = false ∧ Ξ "NotANumber" d) ∨ ∃ a m, d = rs a m ∧ Md m ∧ In a m ∧ ((Nat.gcd a.natAbs m.natAbs ≠ 1 ∧ Ξ "NotAUnit" d) ∨ (Nat.gcd a.natAbs m.natAbs = 1 ∧ m ≤ 1200 ∧ ∀ o : Nat, (o : Int) ≤ m → IsOrd a m o → Φ (.int (o : Int)))))
theorem ok_or (DF : Df K mg "order_of" 27 f fd) (T : Txt K mg) (B : Cl_ K mg) (M : Inits K) (PR : FPr P w K mg base) (CU : FCu P w K mg base) (UN : Pp P w K mg base kRs "is_unit" 1 pfUn) (V : Me P w K mg base kRs "power" 9 ["self", "exponent"] pfPow) : FnP P w K mg base 10 f fd ["number"] pfOr := by
  refine fnP DF.fn scOr (fun ds Φ Ξ h => ?_) fun cdv A outer s H E J Ξ hr wok => ⟨_, (qss_cons (qs_if (qt_not (qt_val (q_isi B.ics (T.free "isinstance" (by decide +kernel)) (by rfl) (pe_glob (v := .ref (He.ga K kRs)) (by rfl) B.s.gl rfl) (.own _) B.kRs_ (qv 0)))) (qss_one (qs_raise (c := cNotNum) (i := 0) rfl (takes_of rfl rfl rfl rfl) wok (T.rows _ (by decide)) (M _ (by decide)) (T.gl _ (by decide)) (by rfl) (by decide) (hr.mono (by decide)) rfl (by decide) rfl (.inl rfl) (by decide) (by decide))) qss_nil)
      (qss_cons (qs_if (qt_not (qt_val (q_prop B.s.cl UN.prop UN.ok (hr.mono (by decide)) UN.bd (qv 0)))) (qss_one (qs_raise (c := cUnit) (i := 0) rfl (takes_of rfl rfl rfl rfl) wok (T.rows _ (by decide)) (M _ (by decide)) (T.gl _ (by decide)) (by rfl) (by decide) (hr.mono (by decide)) rfl (by decide) rfl (.inl rfl) (by decide) (by decide))) qss_nil)
      (qss_cons (qs_set (i := 1) scOr.nd rfl (.inl rfl) (q_call CU.ok (hr.mono (by decide)) (by rfl) CU.gl CU.kp CU.bd (qa_cons (q_fld B.s.cl B.modulus (qv 0)) qa_nil)))
      (qss_cons (qs_for (i := 2) (passes_of rfl) rfl (qi_list (q_call PR.ok (hr.mono (by decide)) (by rfl) PR.gl PR.kp PR.bd (qa_cons (qv 1) qa_nil))) scOr.nd rfl (.inl rfl) (qss_one (qs_while (passes_of rfl) (qt_pw (qw_and (qt_cmp op_eq rd_eq (q_mod (qv 1) (qv 2)) q_int (nomark _)) (qw_and1 (qt_cmp op_eq rd_eq (q_fld B.s.cl B.number (q_methX B.s.cl V.met V.ok (hr.mono (by decide)) V.bd passOwn wok (qv 0) (qa_cons (q_fdiv (qv 1) (qv 2)) qa_nil))) q_int (nomark _))))) (qss_one (qs_set (i := 1) scOr.nd rfl (.inl rfl) (q_fdiv (qv 1) (qv 2)))))))
      (qss_one (qs_ret (qv 1))))))), fun ds Φ h => ?_⟩
  · obtain ⟨_, rfl, _⟩ := h
    rfl
  · obtain ⟨d, rfl, hk, h⟩ := h
    simp only [startD, pSeq, pNext, pSet, pRet, pRetN, pVar, pC, pNil, pCons, pTup, pLst, pOp, dI, dI0, pTest, dEq, dNe, pAnd, pOr, pNot, pIf, pIfS, pAndV, pOrV, pCall, pMeth, pFld, pB, pChain, pNoPart, pPart, pSl, dSlS, dSlC, dM1, pFmt, pJs3, pPar, pPar3, pUnp, pJarIx, pJarSet, dIxT, dIxL, dIxS, dIxC, dCat, dRep, dAddS, dOwn2, dOwnI, dOwnR, setAll, noX, List.map_cons, List.map_nil, List.length_cons, List.length_nil, List.cons_append, List.nil_append, List.replicate, List.getElem?_cons_succ, List.getElem?_cons_zero, List.set_cons_zero, List.set_cons_succ, List.zip_cons_cons, List.zip_nil_right, List.foldl_cons, List.foldl_nil, Option.some.injEq, exists_eq_left', exists_eq_left, exists_eq_right, exists_eq, exists_eq', PL.D.int.injEq, PL.D.bl.injEq, PL.D.str.injEq, PL.D.tup.injEq, PL.D.lst.injEq, PL.D.ins.injEq, PL.D.scr.injEq, List.cons.injEq, and_true, true_and, and_self, exists_and_left, exists_and_right, reduceCtorEq, false_and, and_false, exists_false, or_false, false_or, forall_const, false_implies, true_implies, Nat.reduceAdd, Nat.reduceSub, Nat.reduceLeDiff, exists_const, if_true, if_false, Bool.false_eq_true, ne_eq, not_false_eq_true, Nat.sub_self, List.append_nil, PL.isNon_non, PL.isNon_int, PL.isNon_str, PL.isNon_tup, PL.isNon_lst, PL.isNon_bl, pNever, Bool.not_true, Bool.not_false, Int.reduceLT, Int.reduceLE,  PL.pFld, fld_num, fld_mod, ex_rs, isNon_rs, pJs2, pfUn, pfCu, pfPr, pFor, pWhile]
    refine ⟨hk.ty, fun c => ?_, fun c => ?_⟩
    · rcases h with ⟨_, q⟩ | ⟨a, m, rfl, _⟩
      · exact q
      · cases c
    · rcases h with ⟨h, _⟩ | ⟨a, m, rfl, hm, ha, h⟩
      · rw [h] at c
        cases c
      refine ⟨⟨_, rfl⟩, a, m, rfl, fun c => ?_, fun c => ?_⟩
      · rcases h with ⟨_, q⟩ | ⟨h, _⟩
        · exact q
        · rw [h] at c
          cases c
      rcases h with ⟨h, _⟩ | ⟨hg, m9, q⟩
      · rw [decide_eq_false (show ¬ ((Nat.gcd a.natAbs m.natAbs : Nat) : Int) = 1 by omega)] at c
        cases c
      have m2 := hm.1
      have cp := cu_pos (m := m.toNat) (by omega) (by omega)
      refine ⟨_, rfl, _, rfl, m.toNat, by rw [Int.toNat_of_nonneg (by omega)], by omega, by omega, cuN m.toNat, rfl, cp.1, by omega, ?_⟩
      generalize hc : cuN m.toNat = c0 at cp
      have ai := cu_int hm m9 ha hg
      rw [hc] at ai
      have c9 : c0 ≤ 1200 := by omega
      refine ⟨fun j ρ => ∃ (o : Nat) (z : Option PL.D), ρ = [some (rs a m), some (.int (o : Int)), z] ∧ o ∣ c0 ∧ a ^ o % m = 1 ∧ ∀ i p, i < j → (prL c0)[i]? = some p → Hd a m o p, ⟨c0, _, rfl, Nat.dvd_refl _, ai, fun i p h => absurd h (Nat.not_lt_zero _)⟩, fun j d ρ hd hρ => ?_, fun ρ hρ => ?_⟩
      · obtain ⟨o, z, rfl, od, o1, ho⟩ := hρ
        rw [List.getElem?_map] at hd
        obtain ⟨p, hp, rfl⟩ := Option.map_eq_some_iff.mp hd
        have pm := pr_mem c9 (List.mem_of_getElem? hp)
        refine ⟨fun ρ => ∃ o : Nat, ρ = [some (rs a m), some (.int (o : Int)), some (.int (p : Int))] ∧ o ∣ c0 ∧ a ^ o % m = 1 ∧ ∀ i p, i < j → (prL c0)[i]? = some p → Hd a m o p, ⟨o, rfl, od, o1, ho⟩, muI 1, fun ρ hρ => ?_⟩
        obtain ⟨o, rfl, od, o1, ho⟩ := hρ
        simp only [startD, pSeq, pNext, pSet, pRet, pRetN, pVar, pC, pNil, pCons, pTup, pLst, pOp, dI, dI0, pTest, dEq, dNe, pAnd, pOr, pNot, pIf, pIfS, pAndV, pOrV, pCall, pMeth, pFld, pB, pChain, pNoPart, pPart, pSl, dSlS, dSlC, dM1, pFmt, pJs3, pPar, pPar3, pUnp, pJarIx, pJarSet, dIxT, dIxL, dIxS, dIxC, dCat, dRep, dAddS, dOwn2, dOwnI, dOwnR, setAll, noX, List.map_cons, List.map_nil, List.length_cons, List.length_nil, List.cons_append, List.nil_append, List.replicate, List.getElem?_cons_succ, List.getElem?_cons_zero, List.set_cons_zero, List.set_cons_succ, List.zip_cons_cons, List.zip_nil_right, List.foldl_cons, List.foldl_nil, Option.some.injEq, exists_eq_left', exists_eq_left, exists_eq_right, exists_eq, exists_eq', PL.D.int.injEq, PL.D.bl.injEq, PL.D.str.injEq, PL.D.tup.injEq, PL.D.lst.injEq, PL.D.ins.injEq, PL.D.scr.injEq, List.cons.injEq, and_true, true_and, and_self, exists_and_left, exists_and_right, reduceCtorEq, false_and, and_false, exists_false, or_false, false_or, forall_const, false_implies, true_implies, Nat.reduceAdd, Nat.reduceSub, Nat.reduceLeDiff, exists_const, if_true, if_false, Bool.false_eq_true, ne_eq, not_false_eq_true, Nat.sub_self, List.append_nil, PL.isNon_non, PL.isNon_int, PL.isNon_str, PL.isNon_tup, PL.isNon_lst, PL.isNon_bl, pNever, Bool.not_true, Bool.not_false, Int.reduceLT, Int.reduceLE,  PL.pFld, fld_num, fld_mod, ex_rs, isNon_rs, pJs2, muI, Int.toNat_natCast]
        have e1 : ((o : Int) % (p : Int)) = ((o % p : Nat) : Int) := by omega
        have e2 : ((o : Int) / (p : Int)) = ((o / p : Nat) : Int) := by omega
        have ol := Nat.le_of_dvd (by omega) od
        have o0 := Nat.pos_of_dvd_of_pos od (by omega)
        have dv : CDivW (o : Int) (p : Int) := wide_div (b := 20) (by omega) (by omega) (by decide) (by decide)
        have stop : Hd a m o p → ∀ i p', i < j + 1 → (prL c0)[i]? = some p' → Hd a m o p' := fun hh i p' hi hp' => by
          by_cases hij : i = j
          · subst hij
            rw [hp] at hp'
            cases hp'
            exact hh
          · exact ho i p' (by omega) hp'
        rw [e1, e2]
        refine ⟨by omega, rfl, fun c => ?_, fun c => ?_⟩
        · have c1 : ((o % p : Nat) : Int) = 0 := of_decide_eq_true c
          have c1 : o % p = 0 := by omega
          have le : o / p ≤ o := Nat.div_le_self _ _
          refine ⟨_, rfl, rfl, dv, a, m, _, rfl, hm, ha, trivial, .inl ⟨((o / p : Nat) : Int), rfl, by rw [Int.natAbs_natCast]; exact Nat.le_trans (show o / p ≤ 1200 by omega) (by decide), .inl ⟨Int.natCast_nonneg _, ?_⟩⟩⟩
          rw [Int.natAbs_natCast]
          refine ⟨_, rfl, _, rfl, rfl, fun c => ?_, fun c => ?_⟩
          · have c2 : a ^ (o / p) % m = 1 := of_decide_eq_true c
            obtain ⟨t, rfl⟩ := Nat.dvd_of_mod_eq_zero c1
            rw [Nat.mul_div_cancel_left _ (by omega)] at *
            have t0 : t ≠ 0 := fun z => by subst z; omega
            refine ⟨dv, ⟨t, rfl, Nat.dvd_trans (Nat.dvd_mul_left t p) od, c2, fun i p' hi hp' => ?_⟩, ?_⟩
            · exact Hd.keep hm (t := p) (by omega) (by rw [Nat.mul_comm t p]; exact ho i p' hi hp') (pr_mem c9 (List.mem_of_getElem? hp')).1
            · rw [Int.toNat_natCast]
              have : 2 * t ≤ p * t := Nat.mul_le_mul_right _ pm.1
              omega
          · have c2 : ¬ a ^ (o / p) % m = 1 := of_decide_eq_false c
            exact ⟨o, rfl, od, o1, stop fun z => c2 z.2⟩
        · have c1 : ¬ ((o % p : Nat) : Int) = 0 := of_decide_eq_false c
          exact ⟨o, rfl, od, o1, stop fun z => c1 (by omega)⟩
      · obtain ⟨o, z, rfl, od, o1, ho⟩ := hρ
        refine ⟨_, rfl, q o ?_ (ord_of hm c9 (by omega) od o1 fun p hp => ?_)⟩
        · have := Nat.le_of_dvd (by omega) od
          omega
        · obtain ⟨i, hi, e⟩ := List.getElem_of_mem hp
          rw [List.length_map] at ho
          exact ho i p hi (by rw [List.getElem?_eq_getElem hi, e])
abbrev FOr (P : Program) (w : World) (K : PySem.W.Frag) (mg : Str → Option Value) (base : Heap) := Fn P w K mg base "order_of" 10 ["number"] pfOr
/-! ### joined -/
theorem scJn : FnScope ["one", "other", "shared", "modulus", "steps"] ["one", "other"] (defScope (top 29)) := ⟨rfl, rfl, rfl, by decide +kernel, rfl, by decide +kernel, by decide +kernel⟩
def pfJn : PF := fun ds Φ Ξ => ∃ d e, ds = [d, e] ∧ Kd d ∧ Kd e ∧ ((gRs d = false ∧ Ξ "NotANumber" d) ∨ (gRs d = true ∧ gRs e = false ∧ Ξ "NotANumber" e) ∨ ∃ a m b n, d = rs a m ∧ e = rs b n ∧ Md m ∧ Md n ∧ In a m ∧ In b n ∧ ((1 < Nat.gcd m.natAbs n.natAbs ∧ Ξ "NotApart" (.int (Nat.gcd m.natAbs n.natAbs : Nat))) ∨ (Nat.gcd m.natAbs n.natAbs = 1 ∧ 1000000 < m * n ∧ Ξ "TooMany" (.int (m * n))) ∨ (Nat.gcd m.natAbs n.natAbs = 1 ∧ m * n ≤ 1000000 ∧ ∀ x, In x (m * n) → x % m = a → x % n = b → Φ (rs x (m * n)))))
theorem Md.mul {m n : Int} (hm : Md m) (hn : Md n) (h : m * n ≤ 1000000) : Md (m * n) := by
  refine ⟨?_, h⟩
  have : 2 * n ≤ m * n := Int.mul_le_mul_of_nonneg_right hm.1 (by have := hn.1; omega)
  have := hn.1
  omega
theorem ok_jn (DF : Df K mg "joined" 29 f fd) (T : Txt K mg) (B : Cl_ K mg) (M : Inits K) (IW : FIw P w K mg base) (N : Sin P w K mg base) : FnP P w K mg base 7 f fd ["one", "other"] pfJn := by
  refine fnP DF.fn scJn (fun ds Φ Ξ h => ?_) fun cdv A outer s H E J Ξ hr wok => ⟨_, (qss_cons (qs_if (qt_not (qt_val (q_isi B.ics (T.free "isinstance" (by decide +kernel)) (by rfl) (pe_glob (v := .ref (He.ga K kRs)) (by rfl) B.s.gl rfl) (.own _) B.kRs_ (qv 0)))) (qss_one (qs_raise (c := cNotNum) (i := 0) rfl (takes_of rfl rfl rfl rfl) wok (T.rows _ (by decide)) (M _ (by decide)) (T.gl _ (by decide)) (by rfl) (by decide) (hr.mono (by decide)) rfl (by decide) rfl (.inl rfl) (by decide) (by decide))) qss_nil)
      (qss_cons (qs_if (qt_not (qt_val (q_isi B.ics (T.free "isinstance" (by decide +kernel)) (by rfl) (pe_glob (v := .ref (He.ga K kRs)) (by rfl) B.s.gl rfl) (.own _) B.kRs_ (qv 1)))) (qss_one (qs_raise (c := cNotNum) (i := 1) rfl (takes_of rfl rfl rfl rfl) wok (T.rows _ (by decide)) (M _ (by decide)) (T.gl _ (by decide)) (by rfl) (by decide) (hr.mono (by decide)) rfl (by decide) rfl (.inl rfl) (by decide) (by decide))) qss_nil)
      (qss_cons (qs_set (i := 2) scJn.nd rfl (.inl rfl) (q_BF cr_gcd rc_gcd T.gcd (by rfl) (qa_cons (q_fld B.s.cl B.modulus (qv 0)) (qa_cons (q_fld B.s.cl B.modulus (qv 1)) qa_nil))))
      (qss_cons (qs_if (qt_cmp op_gt rd_B0 (qv 2) q_int (nomark _)) (qss_one (qs_raise (c := cApart) (i := 2) rfl (takes_of rfl rfl rfl rfl) wok (T.rows _ (by decide)) (M _ (by decide)) (T.gl _ (by decide)) (by rfl) (by decide) (hr.mono (by decide)) rfl (by decide) rfl (.inl rfl) (by decide) (by decide))) qss_nil)
      (qss_cons (qs_set (i := 3) scJn.nd rfl (.inl rfl) (q_mul (q_fld B.s.cl B.modulus (qv 0)) (q_fld B.s.cl B.modulus (qv 1))))
      (qss_cons (qs_if (qt_cmp op_gt rd_B0 (qv 3) (q_glob (by rfl) T.mod_) (nomark _)) (qss_one (qs_raise (c := cMany) (i := 3) rfl (takes_of rfl rfl rfl rfl) wok (T.rows _ (by decide)) (M _ (by decide)) (T.gl _ (by decide)) (by rfl) (by decide) (hr.mono (by decide)) rfl (by decide) rfl (.inl rfl) (by decide) (by decide))) qss_nil)
      (qss_cons (qs_set (i := 4) scJn.nd rfl (.inl rfl) (q_mul (q_sub (q_fld B.s.cl B.number (qv 1)) (q_fld B.s.cl B.number (qv 0))) (q_call IW.ok (hr.mono (by decide)) (by rfl) IW.gl IW.kp IW.bd (qa_cons (q_fld B.s.cl B.modulus (qv 0)) (qa_cons (q_fld B.s.cl B.modulus (qv 1)) qa_nil)))))
      (qss_one (qs_ret (q_make (dvs := []) (dds := []) N.mkr N.ok (hr.mono (by decide)) (by rfl) B.s.gl N.bd .nil (fun _ => .nil) pass00 wok0 (qa_cons (q_add (q_fld B.s.cl B.number (qv 0)) (q_mul (q_fld B.s.cl B.modulus (qv 0)) (qv 4))) (qa_cons (qv 3) qa_nil)))))))))))), fun ds Φ h => ?_⟩
  · obtain ⟨_, _, rfl, _⟩ := h
    rfl
  · obtain ⟨d, e, rfl, kd, ke, h⟩ := h
    simp only [startD, pSeq, pNext, pSet, pRet, pRetN, pVar, pC, pNil, pCons, pTup, pLst, pOp, dI, dI0, pTest, dEq, dNe, pAnd, pOr, pNot, pIf, pIfS, pAndV, pOrV, pCall, pMeth, pFld, pB, pChain, pNoPart, pPart, pSl, dSlS, dSlC, dM1, pFmt, pJs3, pPar, pPar3, pUnp, pJarIx, pJarSet, dIxT, dIxL, dIxS, dIxC, dCat, dRep, dAddS, dOwn2, dOwnI, dOwnR, setAll, noX, List.map_cons, List.map_nil, List.length_cons, List.length_nil, List.cons_append, List.nil_append, List.replicate, List.getElem?_cons_succ, List.getElem?_cons_zero, List.set_cons_zero, List.set_cons_succ, List.zip_cons_cons, List.zip_nil_right, List.foldl_cons, List.foldl_nil, Option.some.injEq, exists_eq_left', exists_eq_left, exists_eq_right, exists_eq, exists_eq', PL.D.int.injEq, PL.D.bl.injEq, PL.D.str.injEq, PL.D.tup.injEq, PL.D.lst.injEq, PL.D.ins.injEq, PL.D.scr.injEq, List.cons.injEq, and_true, true_and, and_self, exists_and_left, exists_and_right, reduceCtorEq, false_and, and_false, exists_false, or_false, false_or, forall_const, false_implies, true_implies, Nat.reduceAdd, Nat.reduceSub, Nat.reduceLeDiff, exists_const, if_true, if_false, Bool.false_eq_true, ne_eq, not_false_eq_true, Nat.sub_self, List.append_nil, PL.isNon_non, PL.isNon_int, PL.isNon_str, PL.isNon_tup, PL.isNon_lst, PL.isNon_bl, pNever, Bool.not_true, Bool.not_false, Int.reduceLT, Int.reduceLE,  PL.pFld, fld_num, fld_mod, ex_rs, isNon_rs, pJs2, pfIw]
    refine ⟨kd.ty, fun c => ?_, fun c => ⟨ke.ty, fun c' => ?_, fun c' => ?_⟩⟩
    · rcases h with ⟨_, q⟩ | ⟨h, _⟩ | ⟨a, m, b, n, rfl, rfl, _⟩
      · exact q
      · rw [h] at c; cases c
      · cases c
    · rcases h with ⟨h, _⟩ | ⟨_, _, q⟩ | ⟨a, m, b, n, rfl, rfl, _⟩
      · rw [h] at c; cases c
      · exact q
      · cases c'
    · rcases h with ⟨h, _⟩ | ⟨_, h, _⟩ | ⟨a, m, b, n, rfl, rfl, hm, hn, ha, hb, h⟩
      · rw [h] at c; cases c
      · rw [h] at c'; cases c'
      simp only [startD, pSeq, pNext, pSet, pRet, pRetN, pVar, pC, pNil, pCons, pTup, pLst, pOp, dI, dI0, pTest, dEq, dNe, pAnd, pOr, pNot, pIf, pIfS, pAndV, pOrV, pCall, pMeth, pFld, pB, pChain, pNoPart, pPart, pSl, dSlS, dSlC, dM1, pFmt, pJs3, pPar, pPar3, pUnp, pJarIx, pJarSet, dIxT, dIxL, dIxS, dIxC, dCat, dRep, dAddS, dOwn2, dOwnI, dOwnR, setAll, noX, List.map_cons, List.map_nil, List.length_cons, List.length_nil, List.cons_append, List.nil_append, List.replicate, List.getElem?_cons_succ, List.getElem?_cons_zero, List.set_cons_zero, List.set_cons_succ, List.zip_cons_cons, List.zip_nil_right, List.foldl_cons, List.foldl_nil, Option.some.injEq, exists_eq_left', exists_eq_left, exists_eq_right, exists_eq, exists_eq', PL.D.int.injEq, PL.D.bl.injEq, PL.D.str.injEq, PL.D.tup.injEq, PL.D.lst.injEq, PL.D.ins.injEq, PL.D.scr.injEq, List.cons.injEq, and_true, true_and, and_self, exists_and_left, exists_and_right, reduceCtorEq, false_and, and_false, exists_false, or_false, false_or, forall_const, false_implies, true_implies, Nat.reduceAdd, Nat.reduceSub, Nat.reduceLeDiff, exists_const, if_true, if_false, Bool.false_eq_true, ne_eq, not_false_eq_true, Nat.sub_self, List.append_nil, PL.isNon_non, PL.isNon_int, PL.isNon_str, PL.isNon_tup, PL.isNon_lst, PL.isNon_bl, pNever, Bool.not_true, Bool.not_false, Int.reduceLT, Int.reduceLE,  PL.pFld, fld_num, fld_mod, ex_rs, isNon_rs, pJs2, pfIw]
      refine ⟨m, n, ⟨rfl, rfl⟩, fun c => ?_, fun c => ⟨hm.bd.mulW hn.bd (by decide) (by decide) (by decide), fun c2 => ?_, fun c2 => ?_⟩⟩
      · have c := of_decide_eq_true c
        rcases h with ⟨_, q⟩ | ⟨h, _⟩ | ⟨h, _⟩
        · exact q
        · omega
        · omega
      · have c := of_decide_eq_false c
        have c2 := of_decide_eq_true c2
        rw [show ((10 : Int) ^ 6) = 1000000 from by decide] at c2
        rcases h with ⟨h, _⟩ | ⟨_, _, q⟩ | ⟨_, h, _⟩
        · omega
        · exact q
        · omega
      · have c := of_decide_eq_false c
        have c2 := of_decide_eq_false c2
        rw [show ((10 : Int) ^ 6) = 1000000 from by decide] at c2
        rcases h with ⟨h, _⟩ | ⟨_, h, _⟩ | ⟨hg, h9, q⟩
        · omega
        · omega
        refine ⟨m, n, ⟨rfl, rfl⟩, hn, fun _ t ht => ?_, fun z => z hg⟩
        have bd : Bd 21 (b - a) := (hb.bd hn).sub (ha.bd hm)
        have bt : Bd 20 t := ht.1.bd hn
        have hmn := hm.mul hn h9
        refine ⟨bd.mulW bt (by decide) (by decide) (by decide), hm.bd.mulW (bd.mul bt) (by decide) (by decide) (by decide), sin_ok hmn (q _ (in_mod hmn) ?_ ?_)⟩
        · rw [Int.emod_emod_of_dvd _ (Int.dvd_mul_right m n), Int.add_mul_emod_self_left]
          exact Int.emod_eq_of_lt ha.1 ha.2
        · rw [Int.emod_emod_of_dvd _ (Int.dvd_mul_left m n)]
          have e : m * ((b - a) * t) = (b - a) * (m * t) := by grind
          have e3 : (b - a) * (m * t) % n = (b - a) % n := by rw [Int.mul_emod, ht.2, Int.mul_one, Int.emod_emod]
          rw [e, Int.add_emod, e3, ← Int.add_emod, show a + (b - a) = b by omega]
          exact Int.emod_eq_of_lt hb.1 hb.2
abbrev FJn (P : Program) (w : World) (K : PySem.W.Frag) (mg : Str → Option Value) (base : Heap) := Fn P w K mg base "joined" 7 ["one", "other"] pfJn
/-! ### Ratio's text and == -/
theorem fld_top {t b : Int} {Φ : PL.D → Prop} : (∃ gs, rat t b = PL.D.ins kRat gs ∧ ∃ x, gs.lookup ("top" : Str) = some x ∧ Φ x) ↔ Φ (.int t) := by
  constructor
  · rintro ⟨gs, e, x, h, q⟩
    cases e
    cases h
    exact q
  · intro q
    exact ⟨_, rfl, _, rfl, q⟩
theorem fld_bottom {t b : Int} {Φ : PL.D → Prop} : (∃ gs, rat t b = PL.D.ins kRat gs ∧ ∃ x, gs.lookup ("bottom" : Str) = some x ∧ Φ x) ↔ Φ (.int b) := by
  constructor
  · rintro ⟨gs, e, x, h, q⟩
    cases e
    cases h
    exact q
  · intro q
    exact ⟨_, rfl, _, rfl, q⟩
theorem scRtx : FnScope ["self"] ["self"] (defScope (rt 3)) := ⟨rfl, rfl, rfl, by decide +kernel, rfl, by decide +kernel, by decide +kernel⟩
def said (t b : Int) : Str := Str.empty ++ ((toString t : String) : Str) ++ ("/" : Str) ++ ((toString b : String) : Str)
def pfRtx : PF := fun ds Φ _ => ∃ t b, ds = [rat t b] ∧ t.natAbs.log2 < 1920 ∧ b.natAbs.log2 < 1920 ∧ Φ (.str (said t b))
theorem ok_rtx (F : Rf K "text" "Ratio.text" 3 f fd) (B : Cl_ K mg) : FnP P w K mg base 1 f fd ["self"] pfRtx := by
  refine fnP F scRtx (fun ds Φ Ξ h => ?_) fun cdv A outer s H E J Ξ hr wok => ⟨_, (qss_one (qs_ret (q_joined3 (q_fmt (q_fld B.r.cl B.top (qv 0))) q_str (q_fmt (q_fld B.r.cl B.bottom (qv 0)))))), fun ds Φ h => ?_⟩
  · obtain ⟨_, _, rfl, _⟩ := h
    rfl
  · obtain ⟨t, b, rfl, h1, h2, q⟩ := h
    simp only [startD, pSeq, pNext, pSet, pRet, pRetN, pVar, pC, pNil, pCons, pTup, pLst, pOp, dI, dI0, pTest, dEq, dNe, pAnd, pOr, pNot, pIf, pIfS, pAndV, pOrV, pCall, pMeth, pFld, pB, pChain, pNoPart, pPart, pSl, dSlS, dSlC, dM1, pFmt, pJs3, pPar, pPar3, pUnp, pJarIx, pJarSet, dIxT, dIxL, dIxS, dIxC, dCat, dRep, dAddS, dOwn2, dOwnI, dOwnR, setAll, noX, List.map_cons, List.map_nil, List.length_cons, List.length_nil, List.cons_append, List.nil_append, List.replicate, List.getElem?_cons_succ, List.getElem?_cons_zero, List.set_cons_zero, List.set_cons_succ, List.zip_cons_cons, List.zip_nil_right, List.foldl_cons, List.foldl_nil, Option.some.injEq, exists_eq_left', exists_eq_left, exists_eq_right, exists_eq, exists_eq', PL.D.int.injEq, PL.D.bl.injEq, PL.D.str.injEq, PL.D.tup.injEq, PL.D.lst.injEq, PL.D.ins.injEq, PL.D.scr.injEq, List.cons.injEq, and_true, true_and, and_self, exists_and_left, exists_and_right, reduceCtorEq, false_and, and_false, exists_false, or_false, false_or, forall_const, false_implies, true_implies, Nat.reduceAdd, Nat.reduceSub, Nat.reduceLeDiff, exists_const, if_true, if_false, Bool.false_eq_true, ne_eq, not_false_eq_true, Nat.sub_self, List.append_nil, PL.isNon_non, PL.isNon_int, PL.isNon_str, PL.isNon_tup, PL.isNon_lst, PL.isNon_bl, pNever, Bool.not_true, Bool.not_false, PL.pFld, fld_top, fld_bottom]
    have l := fun {i : Int} (h : i.natAbs.log2 < 1920) => Nat.le_trans (PyProof.Rows.int_text_len_1921 h) (by decide : 1921 ≤ 10000)
    exact ⟨h1, l h1, by decide, h2, l h2, q⟩
theorem scReq : FnScope ["self", "other"] ["self", "other"] (defScope (rt 4)) := ⟨rfl, rfl, rfl, by decide +kernel, rfl, by decide +kernel, by decide +kernel⟩
def pfReq : PF := fun ds Φ _ => ∃ t b o, ds = [rat t b, o] ∧ Kd o ∧ gRat o = false ∧ Φ (.bl false)
theorem ok_req (F : Rf K "__eq__" "Ratio.__eq__" 4 f fd) (T : Txt K mg) (B : Cl_ K mg) : FnP P w K mg base 1 f fd ["self", "other"] pfReq := by
  refine fnP F scReq (fun ds Φ Ξ h => ?_) fun cdv A outer s H E J Ξ hr wok => ⟨_, (qss_one (qs_ret (q_and (q_isi B.ics (T.free "isinstance" (by decide +kernel)) (by rfl) (pe_glob (v := .ref (He.ga K kRat)) (by rfl) B.r.gl rfl) (.own _) B.kRat_ (qv 1)) (q_and (q_cmp op_eq rd_eq (q_fld B.r.cl B.top (qv 0)) (q_fld B.r.cl B.top (qv 1)) (nomark _)) (q_one (q_cmp op_eq rd_eq (q_fld B.r.cl B.bottom (qv 0)) (q_fld B.r.cl B.bottom (qv 1)) (nomark _))))))), fun ds Φ h => ?_⟩
  · obtain ⟨_, _, _, rfl, _⟩ := h
    rfl
  · obtain ⟨t, b, o, rfl, hk, h, q⟩ := h
    simp only [startD, pSeq, pNext, pSet, pRet, pRetN, pVar, pC, pNil, pCons, pTup, pLst, pOp, dI, dI0, pTest, dEq, dNe, pAnd, pOr, pNot, pIf, pIfS, pAndV, pOrV, pCall, pMeth, pFld, pB, pChain, pNoPart, pPart, pSl, dSlS, dSlC, dM1, pFmt, pJs3, pPar, pPar3, pUnp, pJarIx, pJarSet, dIxT, dIxL, dIxS, dIxC, dCat, dRep, dAddS, dOwn2, dOwnI, dOwnR, setAll, noX, List.map_cons, List.map_nil, List.length_cons, List.length_nil, List.cons_append, List.nil_append, List.replicate, List.getElem?_cons_succ, List.getElem?_cons_zero, List.set_cons_zero, List.set_cons_succ, List.zip_cons_cons, List.zip_nil_right, List.foldl_cons, List.foldl_nil, Option.some.injEq, exists_eq_left', exists_eq_left, exists_eq_right, exists_eq, exists_eq', PL.D.int.injEq, PL.D.bl.injEq, PL.D.str.injEq, PL.D.tup.injEq, PL.D.lst.injEq, PL.D.ins.injEq, PL.D.scr.injEq, List.cons.injEq, and_true, true_and, and_self, exists_and_left, exists_and_right, reduceCtorEq, false_and, and_false, exists_false, or_false, false_or, forall_const, false_implies, true_implies, Nat.reduceAdd, Nat.reduceSub, Nat.reduceLeDiff, exists_const, if_true, if_false, Bool.false_eq_true, ne_eq, not_false_eq_true, Nat.sub_self, List.append_nil, PL.isNon_non, PL.isNon_int, PL.isNon_str, PL.isNon_tup, PL.isNon_lst, PL.isNon_bl, pNever, Bool.not_true, Bool.not_false]
    refine ⟨hk.ty, fun c => ?_, fun c => q⟩
    rw [h] at c
    cases c
end
end K3
set_option Elab.async false
set_option linter.all false
set_option maxRecDepth 100000
set_option maxHeartbeats 4000000

namespace PL
open PySem PySem.Spec PyProof.Rows L2 GX HX
section
variable {X : Cx} {J : Option Addr} {H0 : Hp} {a b : Expr} {pa pb : PEx} {pos : Pos}
theorem q_mulS (ha : QE X J H0 a pa) (hb : QE X J H0 b pb) : QE X J H0 (.BinOp a .Mult b pos) (pOp (dI CMul fun i j => .int (i * j)) pa pb) := q_op op_mul rd_I ha hb
end
end PL
namespace K3
open PySem PySem.Spec PyProof.Rows L2 GX HX PL
section
variable {P : Program} {w : World} {K : PySem.W.Frag} {mg : Str → Option Value} {base : Heap} {f : Addr} {fd : FuncData}
/-! ### _law_take -/
theorem scTake : FnScope ["_law_source_here", "_law_many", "_law_figure", "_law_seed"] ["_law_source_here", "_law_many"] (defScope (top 36)) := ⟨rfl, rfl, rfl, by decide +kernel, rfl, by decide +kernel, by decide +kernel⟩
def pfTake : PF := fun ds Φ _ => ∃ m : Int, ds = [.jar, .int m] ∧ 0 < m ∧ m ≤ 1000000 ∧ ∀ n : Int, 0 ≤ n → n < m → Φ (.int n)
theorem ok_take (DF : Df K mg "_law_take" 36 f fd) (T : Txt K mg) : FnP P w K mg base 1 f fd ["_law_source_here", "_law_many"] pfTake := by
  refine fnP DF.fn scTake (fun ds Φ Ξ h => ?_) fun cdv A outer s H E J Ξ hr wok => ⟨_, (qss_cons (qs_if (qt_cmp op_gt rd_B0 (q_jarIx (by decide) (by decide) (qv 0) (fun _ _ => rfl)) q_int (nomark _)) (qss_cons (qs_jarPair (i := 2) (by decide) (by decide) (by rfl) (qv 0) scTake.nd rfl (.inl rfl) (q_B call_divmodW rc_divmod (T.free "divmod" (by decide +kernel)) (by rfl) (by decide +kernel) (qa_cons (q_jarIx (by decide) (by decide) (qv 0) (fun _ _ => rfl)) (qa_cons (qv 1) qa_nil))) (fun _ => rfl))
      (qss_one (qs_ret (qv 2)))) qss_nil)
      (qss_cons (qs_jarSet (by decide) (by decide) (qv 0) (q_add (q_jarIx (by decide) (by decide) (qv 0) (fun _ _ => rfl)) q_int) (fun _ => rfl))
      (qss_cons (qs_set (i := 3) scTake.nd rfl (.inl rfl) (q_mod (q_BT call_int1 rc_int1 (T.free "int" (by decide +kernel)) (by rfl) (by decide +kernel) (qa_cons (q_add (q_jarIx (by decide) (by decide) (qv 0) (fun _ _ => rfl)) (q_mulS q_int (q_jarIx (by decide) (by decide) (qv 0) (fun _ _ => rfl)))) qa_nil)) q_int))
      (qss_cons (qs_jarSet (by decide) (by decide) (qv 0) (q_mod (q_BT call_int1 rc_int1 (T.free "int" (by decide +kernel)) (by rfl) (by decide +kernel) (qa_cons (q_add (q_mulS (qv 3) (q_add (q_mod (q_BT call_int1 rc_int1 (T.free "int" (by decide +kernel)) (by rfl) (by decide +kernel) (qa_cons (qv 3) qa_nil)) q_int) q_int)) (q_mulS q_int (q_jarIx (by decide) (by decide) (qv 0) (fun _ _ => rfl)))) qa_nil)) q_int) (fun _ => rfl))
      (qss_one (qs_ret (q_mod (q_BT call_int1 rc_int1 (T.free "int" (by decide +kernel)) (by rfl) (by decide +kernel) (qa_cons (q_fdiv (q_jarIx (by decide) (by decide) (qv 0) (fun _ _ => rfl)) q_int) qa_nil)) (qv 1)))))))), fun ds Φ h => ?_⟩
  · obtain ⟨_, rfl, _⟩ := h
    rfl
  · obtain ⟨m, rfl, h0, h1, q⟩ := h
    simp only [startD, pSeq, pNext, pSet, pRet, pRetN, pVar, pC, pNil, pCons, pTup, pLst, pOp, dI, dI0, pTest, dEq, dNe, pAnd, pOr, pNot, pIf, pIfS, pAndV, pOrV, pCall, pMeth, pFld, pB, pChain, pNoPart, pPart, pSl, dSlS, dSlC, dM1, pFmt, pJs3, pPar, pPar3, pUnp, pJarIx, pJarSet, dIxT, dIxL, dIxS, dIxC, dCat, dRep, dAddS, dOwn2, dOwnI, dOwnR, setAll, noX, List.map_cons, List.map_nil, List.length_cons, List.length_nil, List.cons_append, List.nil_append, List.replicate, List.getElem?_cons_succ, List.getElem?_cons_zero, List.set_cons_zero, List.set_cons_succ, List.zip_cons_cons, List.zip_nil_right, List.foldl_cons, List.foldl_nil, Option.some.injEq, exists_eq_left', exists_eq_left, exists_eq_right, exists_eq, exists_eq', PL.D.int.injEq, PL.D.bl.injEq, PL.D.str.injEq, PL.D.tup.injEq, PL.D.lst.injEq, PL.D.ins.injEq, PL.D.scr.injEq, List.cons.injEq, and_true, true_and, and_self, exists_and_left, exists_and_right, reduceCtorEq, false_and, and_false, exists_false, or_false, false_or, forall_const, false_implies, true_implies, Nat.reduceAdd, Nat.reduceSub, Nat.reduceLeDiff, exists_const, if_true, if_false, Bool.false_eq_true, ne_eq, not_false_eq_true, Nat.sub_self, List.append_nil, PL.isNon_non, PL.isNon_int, PL.isNon_str, PL.isNon_tup, PL.isNon_lst, PL.isNon_bl, pNever, Bool.not_true, Bool.not_false]
    have mp : ∀ x : Int, 0 ≤ x % m ∧ x % m < m := fun x => ⟨Int.emod_nonneg _ (by omega), Int.emod_lt_of_pos _ h0⟩
    refine fun i => ⟨fun _ i => ⟨i, m, ⟨rfl, rfl⟩, ⟨h0, PyProof.noPylong_small (by omega)⟩, _, _, ⟨rfl, rfl⟩, q _ (mp _).1 (mp _).2⟩, fun _ i i' => ⟨.inl (by decide), by decide, by decide, ?_, fun j => ⟨.inl (by decide), by decide, fun z => ⟨wide_div (b := 10) (by decide) (by decide) (by decide) (by decide), h0, q _ (mp _).1 (mp _).2⟩⟩⟩⟩
    have h2 : 0 ≤ (i + 30011 * i') % 2147483029 := Int.emod_nonneg _ (by decide)
    have h3 : (i + 30011 * i') % 2147483029 < 2147483029 := Int.emod_lt_of_pos _ (by decide)
    exact .inl ⟨by omega, by omega⟩
abbrev FTake (P : Program) (w : World) (K : PySem.W.Frag) (mg : Str → Option Value) (base : Heap) := Fn P w K mg base "_law_take" 1 ["_law_source_here", "_law_many"] pfTake
/-! ### _law_pick -/
theorem scPick : FnScope ["_law_source_here", "_law_some"] ["_law_source_here", "_law_some"] (defScope (top 37)) := ⟨rfl, rfl, rfl, by decide +kernel, rfl, by decide +kernel, by decide +kernel⟩
def pfPick : PF := fun ds Φ _ => ∃ l : List PL.D, ds = [.jar, .lst l] ∧ l ≠ [] ∧ l.length ≤ 1000 ∧ ∀ d ∈ l, Φ d
theorem ok_pick (DF : Df K mg "_law_pick" 37 f fd) (T : Txt K mg) (TA : FTake P w K mg base) : FnP P w K mg base 2 f fd ["_law_source_here", "_law_some"] pfPick := by
  refine fnP DF.fn scPick (fun ds Φ Ξ h => ?_) fun cdv A outer s H E J Ξ hr wok => ⟨_, (qss_one (qs_ret (q_ixL (qv 1) (q_call TA.ok (hr.mono (by decide)) (by rfl) TA.gl TA.kp TA.bd (qa_cons (qv 0) (qa_cons (q_B call_len_seq rc_len (T.free "len" (by decide +kernel)) (by rfl) (by decide +kernel) (qa_cons (qv 1) qa_nil)) qa_nil))) (fun _ _ => rfl)))), fun ds Φ h => ?_⟩
  · obtain ⟨_, rfl, _⟩ := h
    rfl
  · obtain ⟨l, rfl, hl, hz, q⟩ := h
    simp only [startD, pSeq, pNext, pSet, pRet, pRetN, pVar, pC, pNil, pCons, pTup, pLst, pOp, dI, dI0, pTest, dEq, dNe, pAnd, pOr, pNot, pIf, pIfS, pAndV, pOrV, pCall, pMeth, pFld, pB, pChain, pNoPart, pPart, pSl, dSlS, dSlC, dM1, pFmt, pJs3, pPar, pPar3, pUnp, pJarIx, pJarSet, dIxT, dIxL, dIxS, dIxC, dCat, dRep, dAddS, dOwn2, dOwnI, dOwnR, setAll, noX, List.map_cons, List.map_nil, List.length_cons, List.length_nil, List.cons_append, List.nil_append, List.replicate, List.getElem?_cons_succ, List.getElem?_cons_zero, List.set_cons_zero, List.set_cons_succ, List.zip_cons_cons, List.zip_nil_right, List.foldl_cons, List.foldl_nil, Option.some.injEq, exists_eq_left', exists_eq_left, exists_eq_right, exists_eq, exists_eq', PL.D.int.injEq, PL.D.bl.injEq, PL.D.str.injEq, PL.D.tup.injEq, PL.D.lst.injEq, PL.D.ins.injEq, PL.D.scr.injEq, List.cons.injEq, and_true, true_and, and_self, exists_and_left, exists_and_right, reduceCtorEq, false_and, and_false, exists_false, or_false, false_or, forall_const, false_implies, true_implies, Nat.reduceAdd, Nat.reduceSub, Nat.reduceLeDiff, exists_const, if_true, if_false, Bool.false_eq_true, ne_eq, not_false_eq_true, Nat.sub_self, List.append_nil, PL.isNon_non, PL.isNon_int, PL.isNon_str, PL.isNon_tup, PL.isNon_lst, PL.isNon_bl, pNever, Bool.not_true, Bool.not_false, pfTake]
    have := List.length_pos_iff.mpr hl
    refine ⟨by omega, by omega, fun n h0 h1 => ?_⟩
    have hlt : n.toNat < l.length := by omega
    refine ⟨l[n.toNat], ?_, q _ (List.getElem_mem hlt)⟩
    have := atI_nat (List.getElem?_eq_getElem hlt)
    rw [Int.toNat_of_nonneg h0] at this
    exact this
abbrev FPick (P : Program) (w : World) (K : PySem.W.Frag) (mg : Str → Option Value) (base : Heap) := Fn P w K mg base "_law_pick" 2 ["_law_source_here", "_law_some"] pfPick
/-! ### _law_great -/
theorem scGreat : FnScope ["_law_source_here", "_law_many", "_law_found", "_law_turn"] ["_law_source_here", "_law_many"] (defScope (top 38)) := ⟨rfl, rfl, rfl, by decide +kernel, rfl, by decide +kernel, by decide +kernel⟩
def pfGreat : PF := fun ds Φ _ => ∃ m : Nat, ds = [.jar, .int (m : Int)] ∧ m ≤ 9 ∧ ∀ n : Int, 0 ≤ n → n < 1000000 ^ m → Φ (.int n)
theorem ok_great (DF : Df K mg "_law_great" 38 f fd) (T : Txt K mg) (TA : FTake P w K mg base) : FnP P w K mg base 2 f fd ["_law_source_here", "_law_many"] pfGreat := by
  refine fnP DF.fn scGreat (fun ds Φ Ξ h => ?_) fun cdv A outer s H E J Ξ hr wok => ⟨_, (qss_cons (qs_set (i := 2) scGreat.nd rfl (.inl rfl) q_int)
      (qss_cons (qs_for (i := 3) (passes_of rfl) rfl (qi_range (T.free "range" (by decide +kernel)) (by rfl) (qa_cons (qv 1) qa_nil)) scGreat.nd rfl (.inl rfl) (qss_one (qs_set (i := 2) scGreat.nd rfl (.inl rfl) (q_add (q_mulS (qv 2) (q_pow q_int q_int)) (q_call TA.ok (hr.mono (by decide)) (by rfl) TA.gl TA.kp TA.bd (qa_cons (qv 0) (qa_cons (q_pow q_int q_int) qa_nil)))))))
      (qss_one (qs_ret (qv 2))))), fun ds Φ h => ?_⟩
  · obtain ⟨_, rfl, _⟩ := h
    rfl
  · obtain ⟨m, rfl, hm, q⟩ := h
    simp only [startD, pSeq, pNext, pSet, pRet, pRetN, pVar, pC, pNil, pCons, pTup, pLst, pOp, dI, dI0, pTest, dEq, dNe, pAnd, pOr, pNot, pIf, pIfS, pAndV, pOrV, pCall, pMeth, pFld, pB, pChain, pNoPart, pPart, pSl, dSlS, dSlC, dM1, pFmt, pJs3, pPar, pPar3, pUnp, pJarIx, pJarSet, dIxT, dIxL, dIxS, dIxC, dCat, dRep, dAddS, dOwn2, dOwnI, dOwnR, setAll, noX, List.map_cons, List.map_nil, List.length_cons, List.length_nil, List.cons_append, List.nil_append, List.replicate, List.getElem?_cons_succ, List.getElem?_cons_zero, List.set_cons_zero, List.set_cons_succ, List.zip_cons_cons, List.zip_nil_right, List.foldl_cons, List.foldl_nil, Option.some.injEq, exists_eq_left', exists_eq_left, exists_eq_right, exists_eq, exists_eq', PL.D.int.injEq, PL.D.bl.injEq, PL.D.str.injEq, PL.D.tup.injEq, PL.D.lst.injEq, PL.D.ins.injEq, PL.D.scr.injEq, List.cons.injEq, and_true, true_and, and_self, exists_and_left, exists_and_right, reduceCtorEq, false_and, and_false, exists_false, or_false, false_or, forall_const, false_implies, true_implies, Nat.reduceAdd, Nat.reduceSub, Nat.reduceLeDiff, exists_const, if_true, if_false, Bool.false_eq_true, ne_eq, not_false_eq_true, Nat.sub_self, List.append_nil, PL.isNon_non, PL.isNon_int, PL.isNon_str, PL.isNon_tup, PL.isNon_lst, PL.isNon_bl, pNever, Bool.not_true, Bool.not_false, pfTake, pFor]
    refine ⟨m, rfl, by omega, fun j ρ => ∃ (n : Int) (c : Option PL.D), ρ = [some .jar, some (.int m), some (.int n), c] ∧ 0 ≤ n ∧ n < 1000000 ^ j, ⟨0, none, rfl, by decide, by decide⟩, fun j d ρ _ hρ => ?_, fun ρ hρ => ?_⟩
    · obtain ⟨n, c, rfl, n0, n1⟩ := hρ
      have e6 : (10 : Int) ^ Int.toNat 6 = 1000000 := by decide
      simp only [startD, pSeq, pNext, pSet, pRet, pRetN, pVar, pC, pNil, pCons, pTup, pLst, pOp, dI, dI0, pTest, dEq, dNe, pAnd, pOr, pNot, pIf, pIfS, pAndV, pOrV, pCall, pMeth, pFld, pB, pChain, pNoPart, pPart, pSl, dSlS, dSlC, dM1, pFmt, pJs3, pPar, pPar3, pUnp, pJarIx, pJarSet, dIxT, dIxL, dIxS, dIxC, dCat, dRep, dAddS, dOwn2, dOwnI, dOwnR, setAll, noX, List.map_cons, List.map_nil, List.length_cons, List.length_nil, List.cons_append, List.nil_append, List.replicate, List.getElem?_cons_succ, List.getElem?_cons_zero, List.set_cons_zero, List.set_cons_succ, List.zip_cons_cons, List.zip_nil_right, List.foldl_cons, List.foldl_nil, Option.some.injEq, exists_eq_left', exists_eq_left, exists_eq_right, exists_eq, exists_eq', PL.D.int.injEq, PL.D.bl.injEq, PL.D.str.injEq, PL.D.tup.injEq, PL.D.lst.injEq, PL.D.ins.injEq, PL.D.scr.injEq, List.cons.injEq, and_true, true_and, and_self, exists_and_left, exists_and_right, reduceCtorEq, false_and, and_false, exists_false, or_false, false_or, forall_const, false_implies, true_implies, Nat.reduceAdd, Nat.reduceSub, Nat.reduceLeDiff, exists_const, if_true, if_false, Bool.false_eq_true, ne_eq, not_false_eq_true, Nat.sub_self, List.append_nil, PL.isNon_non, PL.isNon_int, PL.isNon_str, PL.isNon_tup, PL.isNon_lst, PL.isNon_bl, pNever, Bool.not_true, Bool.not_false]
      rw [e6]
      refine ⟨⟨by decide, by decide, by decide⟩, .inr ⟨by decide, by decide⟩, ⟨by decide, by decide, by decide⟩, by decide, by decide, fun d d0 d1 => ⟨by omega, ?_⟩⟩
      rw [Int.pow_succ]
      omega
    · obtain ⟨n, c, rfl, n0, n1⟩ := hρ
      rw [List.length_map, List.length_range] at n1
      exact ⟨_, rfl, q n n0 n1⟩
abbrev FGreat (P : Program) (w : World) (K : PySem.W.Frag) (mg : Str → Option Value) (base : Heap) := Fn P w K mg base "_law_great" 2 ["_law_source_here", "_law_many"] pfGreat
/-! ### _law_by_modulus -/
theorem scBym : FnScope ["_law_source_here", "_law_way"] ["_law_source_here"] (defScope (top 39)) := ⟨rfl, rfl, rfl, by decide +kernel, rfl, by decide +kernel, by decide +kernel⟩
def pfBym : PF := fun ds Φ _ => ds = [.jar] ∧ ∀ m : Int, Md m → Φ (.int m)
theorem ok_bym (DF : Df K mg "_law_by_modulus" 39 f fd) (T : Txt K mg) (TA : FTake P w K mg base) (PK : FPick P w K mg base) : FnP P w K mg base 3 f fd ["_law_source_here"] pfBym := by
  refine fnP DF.fn scBym (fun ds Φ Ξ h => ?_) fun cdv A outer s H E J Ξ hr wok => ⟨_, (qss_cons (qs_set (i := 1) scBym.nd rfl (.inl rfl) (q_call TA.ok (hr.mono (by decide)) (by rfl) TA.gl TA.kp TA.bd (qa_cons (qv 0) (qa_cons q_int qa_nil))))
      (qss_cons (qs_if (qt_cmp op_eq rd_eq (qv 1) q_int (nomark _)) (qss_one (qs_ret (q_call PK.ok (hr.mono (by decide)) (by rfl) PK.gl PK.kp PK.bd (qa_cons (qv 0) (qa_cons (q_lst (qa_cons (q_pow q_int q_int) (qa_cons q_int (qa_cons q_int (qa_cons q_int (qa_cons q_int (qa_cons q_int qa_nil))))))) qa_nil))))) qss_nil)
      (qss_cons (qs_if (qt_cmp op_eq rd_eq (qv 1) q_int (nomark _)) (qss_one (qs_ret (q_add q_int (q_call TA.ok (hr.mono (by decide)) (by rfl) TA.gl TA.kp TA.bd (qa_cons (qv 0) (qa_cons q_int qa_nil)))))) qss_nil)
      (qss_cons (qs_if (qt_cmp op_eq rd_eq (qv 1) q_int (nomark _)) (qss_one (qs_ret (q_call PK.ok (hr.mono (by decide)) (by rfl) PK.gl PK.kp PK.bd (qa_cons (qv 0) (qa_cons (q_lst (qa_cons q_int (qa_cons q_int (qa_cons q_int (qa_cons q_int (qa_cons q_int (qa_cons q_int (qa_cons q_int (qa_cons q_int qa_nil))))))))) qa_nil))))) qss_nil)
      (qss_one (qs_ret (q_ifExp (qt_cmp op_lt rd_B0 (qv 1) q_int (nomark _)) (q_add q_int (q_call TA.ok (hr.mono (by decide)) (by rfl) TA.gl TA.kp TA.bd (qa_cons (qv 0) (qa_cons q_int qa_nil)))) (q_add q_int (q_call TA.ok (hr.mono (by decide)) (by rfl) TA.gl TA.kp TA.bd (qa_cons (qv 0) (qa_cons q_int qa_nil))))))))))), fun ds Φ h => ?_⟩
  · obtain ⟨rfl, _⟩ := h
    rfl
  · obtain ⟨rfl, q⟩ := h
    simp only [startD, pSeq, pNext, pSet, pRet, pRetN, pVar, pC, pNil, pCons, pTup, pLst, pOp, dI, dI0, pTest, dEq, dNe, pAnd, pOr, pNot, pIf, pIfS, pAndV, pOrV, pCall, pMeth, pFld, pB, pChain, pNoPart, pPart, pSl, dSlS, dSlC, dM1, pFmt, pJs3, pPar, pPar3, pUnp, pJarIx, pJarSet, dIxT, dIxL, dIxS, dIxC, dCat, dRep, dAddS, dOwn2, dOwnI, dOwnR, setAll, noX, List.map_cons, List.map_nil, List.length_cons, List.length_nil, List.cons_append, List.nil_append, List.replicate, List.getElem?_cons_succ, List.getElem?_cons_zero, List.set_cons_zero, List.set_cons_succ, List.zip_cons_cons, List.zip_nil_right, List.foldl_cons, List.foldl_nil, Option.some.injEq, exists_eq_left', exists_eq_left, exists_eq_right, exists_eq, exists_eq', PL.D.int.injEq, PL.D.bl.injEq, PL.D.str.injEq, PL.D.tup.injEq, PL.D.lst.injEq, PL.D.ins.injEq, PL.D.scr.injEq, List.cons.injEq, and_true, true_and, and_self, exists_and_left, exists_and_right, reduceCtorEq, false_and, and_false, exists_false, or_false, false_or, forall_const, false_implies, true_implies, Nat.reduceAdd, Nat.reduceSub, Nat.reduceLeDiff, exists_const, if_true, if_false, Bool.false_eq_true, ne_eq, not_false_eq_true, Nat.sub_self, List.append_nil, PL.isNon_non, PL.isNon_int, PL.isNon_str, PL.isNon_tup, PL.isNon_lst, PL.isNon_bl, pNever, Bool.not_true, Bool.not_false, Int.reduceLT, Int.reduceLE,  PL.pFld, fld_num, fld_mod, ex_rs, isNon_rs, pJs2, pfTake, pfPick, List.mem_cons, List.not_mem_nil, or_false, forall_eq_or_imp, forall_eq]
    have qq : ∀ m : Int, 2 ≤ m → m ≤ 1000000 → Φ (.int m) := fun m a b => q m ⟨a, b⟩
    have ql : ∀ n k : Int, 0 ≤ n → n < k → k ≤ 999999 → Φ (.int (2 + n)) := fun n k a b c => qq _ (by omega) (by omega)
    refine fun n _ _ => ⟨rfl, fun _ => ⟨⟨by decide, by decide, by decide⟩, ?_⟩, fun _ => ⟨rfl, fun _ n a b => ql _ _ a b (by decide), fun _ => ⟨rfl, fun _ => ?_, fun _ => ⟨fun _ n a b => ql _ _ a b (by decide), fun _ n a b => ql _ _ a b (by decide)⟩⟩⟩⟩
    · refine ⟨qq _ ?_ ?_, qq _ ?_ ?_, qq _ ?_ ?_, qq _ ?_ ?_, qq _ ?_ ?_, qq _ ?_ ?_⟩ <;> decide
    · refine ⟨qq _ ?_ ?_, qq _ ?_ ?_, qq _ ?_ ?_, qq _ ?_ ?_, qq _ ?_ ?_, qq _ ?_ ?_, qq _ ?_ ?_, qq _ ?_ ?_⟩ <;> decide
abbrev FBym (P : Program) (w : World) (K : PySem.W.Frag) (mg : Str → Option Value) (base : Heap) := Fn P w K mg base "_law_by_modulus" 3 ["_law_source_here"] pfBym
/-! ### _law_whole -/
theorem scWh : FnScope ["_law_source_here", "_law_way", "_law_sign"] ["_law_source_here"] (defScope (top 40)) := ⟨rfl, rfl, rfl, by decide +kernel, rfl, by decide +kernel, by decide +kernel⟩
def pfWh : PF := fun ds Φ _ => ds = [.jar] ∧ ∀ i : Int, Bd 181 i → Φ (.int i)
theorem ok_wh (DF : Df K mg "_law_whole" 40 f fd) (T : Txt K mg) (TA : FTake P w K mg base) (GR : FGreat P w K mg base) : FnP P w K mg base 3 f fd ["_law_source_here"] pfWh := by
  refine fnP DF.fn scWh (fun ds Φ Ξ h => ?_) fun cdv A outer s H E J Ξ hr wok => ⟨_, (qss_cons (qs_par (i := 1) (j := 2) (by rfl) scWh.nd rfl rfl (by decide) rfl rfl (qa_cons (q_call TA.ok (hr.mono (by decide)) (by rfl) TA.gl TA.kp TA.bd (qa_cons (qv 0) (qa_cons q_int qa_nil))) (qa_cons (q_sub (q_mul q_int (q_call TA.ok (hr.mono (by decide)) (by rfl) TA.gl TA.kp TA.bd (qa_cons (qv 0) (qa_cons q_int qa_nil)))) q_int) qa_nil)) (by rfl))
      (qss_cons (qs_if (qt_cmp op_eq rd_eq (qv 1) q_int (nomark _)) (qss_one (qs_ret (q_mul (qv 2) (q_call GR.ok (hr.mono (by decide)) (by rfl) GR.gl GR.kp GR.bd (qa_cons (qv 0) (qa_cons q_int qa_nil)))))) qss_nil)
      (qss_one (qs_ret (q_ifExp (qt_cmp op_eq rd_eq (qv 1) q_int (nomark _)) (q_mul (qv 2) (q_call GR.ok (hr.mono (by decide)) (by rfl) GR.gl GR.kp GR.bd (qa_cons (qv 0) (qa_cons q_int qa_nil)))) (q_mul (qv 2) (q_call TA.ok (hr.mono (by decide)) (by rfl) TA.gl TA.kp TA.bd (qa_cons (qv 0) (qa_cons q_int qa_nil))))))))), fun ds Φ h => ?_⟩
  · obtain ⟨rfl, _⟩ := h
    rfl
  · obtain ⟨rfl, q⟩ := h
    simp only [startD, pSeq, pNext, pSet, pRet, pRetN, pVar, pC, pNil, pCons, pTup, pLst, pOp, dI, dI0, pTest, dEq, dNe, pAnd, pOr, pNot, pIf, pIfS, pAndV, pOrV, pCall, pMeth, pFld, pB, pChain, pNoPart, pPart, pSl, dSlS, dSlC, dM1, pFmt, pJs3, pPar, pPar3, pUnp, pJarIx, pJarSet, dIxT, dIxL, dIxS, dIxC, dCat, dRep, dAddS, dOwn2, dOwnI, dOwnR, setAll, noX, List.map_cons, List.map_nil, List.length_cons, List.length_nil, List.cons_append, List.nil_append, List.replicate, List.getElem?_cons_succ, List.getElem?_cons_zero, List.set_cons_zero, List.set_cons_succ, List.zip_cons_cons, List.zip_nil_right, List.foldl_cons, List.foldl_nil, Option.some.injEq, exists_eq_left', exists_eq_left, exists_eq_right, exists_eq, exists_eq', PL.D.int.injEq, PL.D.bl.injEq, PL.D.str.injEq, PL.D.tup.injEq, PL.D.lst.injEq, PL.D.ins.injEq, PL.D.scr.injEq, List.cons.injEq, and_true, true_and, and_self, exists_and_left, exists_and_right, reduceCtorEq, false_and, and_false, exists_false, or_false, false_or, forall_const, false_implies, true_implies, Nat.reduceAdd, Nat.reduceSub, Nat.reduceLeDiff, exists_const, if_true, if_false, Bool.false_eq_true, ne_eq, not_false_eq_true, Nat.sub_self, List.append_nil, PL.isNon_non, PL.isNon_int, PL.isNon_str, PL.isNon_tup, PL.isNon_lst, PL.isNon_bl, pNever, Bool.not_true, Bool.not_false, Int.reduceLT, Int.reduceLE,  PL.pFld, fld_num, fld_mod, ex_rs, isNon_rs, pJs2, pfTake, pfGreat, ex2eq]
    have c2 : ∀ {x : Int}, 0 ≤ x → x < 2 → CMulW 2 x := fun a b => (show Bd 2 2 by unfold Bd; decide).mulW (show Bd 2 _ by unfold Bd; omega) (by decide) (by decide) (by decide)
    have fin : ∀ s k : Int, 0 ≤ s → s < 2 → 0 ≤ k → k < 1000000 ^ 9 → CMulW (2 * s - 1) k ∧ Φ (.int ((2 * s - 1) * k)) := fun s k a b c d => by
      have e9 : (1000000 : Int) ^ 9 = 1000000000000000000000000000000000000000000000000000000 := by decide
      have bs : Bd 1 (2 * s - 1) := by unfold Bd; omega
      have bk : Bd 180 k := by
        unfold Bd
        have : (1000000000000000000000000000000000000000000000000000000 : Nat) < 2 ^ 180 := by decide
        omega
      exact ⟨bs.mulW bk (by decide) (by decide) (by decide), q _ ((bs.mul bk).mono (by decide))⟩
    intro n _ _ s s0 s2
    refine ⟨c2 s0 s2, rfl, fun _ => ⟨9, rfl, by decide, fun k a b => fin s k s0 s2 a b⟩, fun _ => ⟨rfl, fun _ => ⟨1, rfl, by decide, fun k a b => fin s k s0 s2 a (by omega)⟩, fun _ k a b => fin s k s0 s2 a (by omega)⟩⟩
abbrev FWh (P : Program) (w : World) (K : PySem.W.Frag) (mg : Str → Option Value) (base : Heap) := Fn P w K mg base "_law_whole" 3 ["_law_source_here"] pfWh
/-! ### _law_shared -/
theorem scShd : FnScope ["_law_first", "_law_second"] ["_law_first", "_law_second"] (defScope (top 41)) := ⟨rfl, rfl, rfl, by decide +kernel, rfl, by decide +kernel, by decide +kernel⟩
def pfShd : PF := fun ds Φ _ => ∃ a b : Nat, ds = [.int (a : Int), .int (b : Int)] ∧ Φ (.int (Nat.gcd a b : Nat))
theorem ok_shd (DF : Df K mg "_law_shared" 41 f fd) (T : Txt K mg) : FnP P w K mg base 1 f fd ["_law_first", "_law_second"] pfShd := by
  refine fnP DF.fn scShd (fun ds Φ Ξ h => ?_) fun cdv A outer s H E J Ξ hr wok => ⟨_, (qss_cons (qs_while (passes_of rfl) (qt_cmp op_gt rd_B0 (qv 1) q_int (nomark _)) (qss_one (qs_par (i := 0) (j := 1) (by rfl) scShd.nd rfl rfl (by decide) rfl rfl (qa_cons (qv 1) (qa_cons (q_mod (q_BT call_int1 rc_int1 (T.free "int" (by decide +kernel)) (by rfl) (by decide +kernel) (qa_cons (qv 0) qa_nil)) (qv 1)) qa_nil)) (by rfl))))
      (qss_one (qs_ret (qv 0)))), fun ds Φ h => ?_⟩
  · obtain ⟨_, _, rfl, _⟩ := h
    rfl
  · obtain ⟨a, b, rfl, q⟩ := h
    simp only [startD, pSeq, pNext, pSet, pRet, pRetN, pVar, pC, pNil, pCons, pTup, pLst, pOp, dI, dI0, pTest, dEq, dNe, pAnd, pOr, pNot, pIf, pIfS, pAndV, pOrV, pCall, pMeth, pFld, pB, pChain, pNoPart, pPart, pSl, dSlS, dSlC, dM1, pFmt, pJs3, pPar, pPar3, pUnp, pJarIx, pJarSet, dIxT, dIxL, dIxS, dIxC, dCat, dRep, dAddS, dOwn2, dOwnI, dOwnR, setAll, noX, List.map_cons, List.map_nil, List.length_cons, List.length_nil, List.cons_append, List.nil_append, List.replicate, List.getElem?_cons_succ, List.getElem?_cons_zero, List.set_cons_zero, List.set_cons_succ, List.zip_cons_cons, List.zip_nil_right, List.foldl_cons, List.foldl_nil, Option.some.injEq, exists_eq_left', exists_eq_left, exists_eq_right, exists_eq, exists_eq', PL.D.int.injEq, PL.D.bl.injEq, PL.D.str.injEq, PL.D.tup.injEq, PL.D.lst.injEq, PL.D.ins.injEq, PL.D.scr.injEq, List.cons.injEq, and_true, true_and, and_self, exists_and_left, exists_and_right, reduceCtorEq, false_and, and_false, exists_false, or_false, false_or, forall_const, false_implies, true_implies, Nat.reduceAdd, Nat.reduceSub, Nat.reduceLeDiff, exists_const, if_true, if_false, Bool.false_eq_true, ne_eq, not_false_eq_true, Nat.sub_self, List.append_nil, PL.isNon_non, PL.isNon_int, PL.isNon_str, PL.isNon_tup, PL.isNon_lst, PL.isNon_bl, pNever, Bool.not_true, Bool.not_false, Int.reduceLT, Int.reduceLE,  PL.pFld, fld_num, fld_mod, ex_rs, isNon_rs, pJs2, pWhile]
    refine ⟨fun ρ => ∃ x y : Nat, ρ = [some (.int x), some (.int y)] ∧ Nat.gcd x y = Nat.gcd a b, ⟨_, _, rfl, rfl⟩, muI 1, fun ρ hρ => ?_⟩
    obtain ⟨x, y, rfl, e⟩ := hρ
    simp only [startD, pSeq, pNext, pSet, pRet, pRetN, pVar, pC, pNil, pCons, pTup, pLst, pOp, dI, dI0, pTest, dEq, dNe, pAnd, pOr, pNot, pIf, pIfS, pAndV, pOrV, pCall, pMeth, pFld, pB, pChain, pNoPart, pPart, pSl, dSlS, dSlC, dM1, pFmt, pJs3, pPar, pPar3, pUnp, pJarIx, pJarSet, dIxT, dIxL, dIxS, dIxC, dCat, dRep, dAddS, dOwn2, dOwnI, dOwnR, setAll, noX, List.map_cons, List.map_nil, List.length_cons, List.length_nil, List.cons_append, List.nil_append, List.replicate, List.getElem?_cons_succ, List.getElem?_cons_zero, List.set_cons_zero, List.set_cons_succ, List.zip_cons_cons, List.zip_nil_right, List.foldl_cons, List.foldl_nil, Option.some.injEq, exists_eq_left', exists_eq_left, exists_eq_right, exists_eq, exists_eq', PL.D.int.injEq, PL.D.bl.injEq, PL.D.str.injEq, PL.D.tup.injEq, PL.D.lst.injEq, PL.D.ins.injEq, PL.D.scr.injEq, List.cons.injEq, and_true, true_and, and_self, exists_and_left, exists_and_right, reduceCtorEq, false_and, and_false, exists_false, or_false, false_or, forall_const, false_implies, true_implies, Nat.reduceAdd, Nat.reduceSub, Nat.reduceLeDiff, exists_const, if_true, if_false, Bool.false_eq_true, ne_eq, not_false_eq_true, Nat.sub_self, List.append_nil, PL.isNon_non, PL.isNon_int, PL.isNon_str, PL.isNon_tup, PL.isNon_lst, PL.isNon_bl, pNever, Bool.not_true, Bool.not_false, Int.reduceLT, Int.reduceLE,  PL.pFld, fld_num, fld_mod, ex_rs, isNon_rs, pJs2, muI, Int.toNat_natCast, decide_eq_true_eq, decide_eq_false_iff_not, ex2eq]
    refine ⟨fun hy => ⟨hy, ⟨y, x % y, ⟨rfl, by omega⟩, ?_⟩, ?_⟩, fun hy => ?_⟩
    · rw [← e, Nat.gcd_comm x y, Nat.gcd_rec y x, Nat.gcd_comm]
    · have h1 : 0 < y := by omega
      have h2 : ((x : Int) % (y : Int)) = ((x % y : Nat) : Int) := by omega
      rw [h2, Int.toNat_natCast]
      exact Nat.mod_lt _ h1
    · have : y = 0 := by omega
      subst this
      rw [Nat.gcd_zero_right] at e
      rw [e]
      exact q
abbrev FShd (P : Program) (w : World) (K : PySem.W.Frag) (mg : Str → Option Value) (base : Heap) := Fn P w K mg base "_law_shared" 1 ["_law_first", "_law_second"] pfShd
/-! ### _law_turned -/
theorem scTur : FnScope ["_law_size", "_law_by", "_law_left", "_law_right_here", "_law_last", "_law_found", "_law_times"] ["_law_size", "_law_by"] (defScope (top 42)) := ⟨rfl, rfl, rfl, by decide +kernel, rfl, by decide +kernel, by decide +kernel⟩
def pfTur : PF := fun ds Φ _ => ∃ a m : Int, ds = [.int a, .int m] ∧ Md m ∧ Nat.gcd a.natAbs m.natAbs = 1 ∧ ∀ t, Iv a m t → Φ (.int t)
theorem ok_tur (DF : Df K mg "_law_turned" 42 f fd) (T : Txt K mg) : FnP P w K mg base 1 f fd ["_law_size", "_law_by"] pfTur := by
  refine fnP DF.fn scTur (fun ds Φ Ξ h => ?_) fun cdv A outer s H E J Ξ hr wok => ⟨_, (qss_cons (qs_unp (by rfl) (ng_cons (i := 2) scTur.nd rfl (.inl rfl) (ng_cons (i := 3) scTur.nd rfl (.inl rfl) (ng_cons (i := 4) scTur.nd rfl (.inl rfl) (ng_cons (i := 5) scTur.nd rfl (.inl rfl) ng_nil)))) (q_tup (qa_cons (qv 1) (qa_cons (q_mod (q_BT call_int1 rc_int1 (T.free "int" (by decide +kernel)) (by rfl) (by decide +kernel) (qa_cons (qv 0) qa_nil)) (qv 1)) (qa_cons q_int (qa_cons q_int qa_nil))))))
      (qss_cons (qs_while (passes_of rfl) (qt_cmp op_gt rd_B0 (qv 3) q_int (nomark _)) (qss_cons (qs_set (i := 6) scTur.nd rfl (.inl rfl) (q_fdiv (qv 2) (qv 3)))
      (qss_cons (qs_par (i := 2) (j := 3) (by rfl) scTur.nd rfl rfl (by decide) rfl rfl (qa_cons (qv 3) (qa_cons (q_sub (qv 2) (q_mul (qv 6) (qv 3))) qa_nil)) (by rfl))
      (qss_one (qs_par (i := 4) (j := 5) (by rfl) scTur.nd rfl rfl (by decide) rfl rfl (qa_cons (qv 5) (qa_cons (q_sub (qv 4) (q_mul (qv 6) (qv 5))) qa_nil)) (by rfl))))))
      (qss_one (qs_ret (q_mod (q_BT call_int1 rc_int1 (T.free "int" (by decide +kernel)) (by rfl) (by decide +kernel) (qa_cons (qv 5) qa_nil)) (qv 1)))))), fun ds Φ h => ?_⟩
  · obtain ⟨_, _, rfl, _⟩ := h
    rfl
  · obtain ⟨a, m, rfl, hm, hg, q⟩ := h
    simp only [startD, pSeq, pNext, pSet, pRet, pRetN, pVar, pC, pNil, pCons, pTup, pLst, pOp, dI, dI0, pTest, dEq, dNe, pAnd, pOr, pNot, pIf, pIfS, pAndV, pOrV, pCall, pMeth, pFld, pB, pChain, pNoPart, pPart, pSl, dSlS, dSlC, dM1, pFmt, pJs3, pPar, pPar3, pUnp, pJarIx, pJarSet, dIxT, dIxL, dIxS, dIxC, dCat, dRep, dAddS, dOwn2, dOwnI, dOwnR, setAll, noX, List.map_cons, List.map_nil, List.length_cons, List.length_nil, List.cons_append, List.nil_append, List.replicate, List.getElem?_cons_succ, List.getElem?_cons_zero, List.set_cons_zero, List.set_cons_succ, List.zip_cons_cons, List.zip_nil_right, List.foldl_cons, List.foldl_nil, Option.some.injEq, exists_eq_left', exists_eq_left, exists_eq_right, exists_eq, exists_eq', PL.D.int.injEq, PL.D.bl.injEq, PL.D.str.injEq, PL.D.tup.injEq, PL.D.lst.injEq, PL.D.ins.injEq, PL.D.scr.injEq, List.cons.injEq, and_true, true_and, and_self, exists_and_left, exists_and_right, reduceCtorEq, false_and, and_false, exists_false, or_false, false_or, forall_const, false_implies, true_implies, Nat.reduceAdd, Nat.reduceSub, Nat.reduceLeDiff, exists_const, if_true, if_false, Bool.false_eq_true, ne_eq, not_false_eq_true, Nat.sub_self, List.append_nil, PL.isNon_non, PL.isNon_int, PL.isNon_str, PL.isNon_tup, PL.isNon_lst, PL.isNon_bl, pNever, Bool.not_true, Bool.not_false, Int.reduceLT, Int.reduceLE,  PL.pFld, fld_num, fld_mod, ex_rs, isNon_rs, pJs2, pWhile, ex2eq]
    have m0 : 0 < m := by have := hm.1; omega
    have mb : ∀ {x : Int}, x.natAbs ≤ m.natAbs → Bd 20 x := fun h => Nat.lt_of_le_of_lt h hm.bd
    refine ⟨m0, fun ρ => ∃ (u l t n : Int) (x : Option PL.D), ρ = [some (.int a), some (.int m), some (.int u), some (.int l), some (.int t), some (.int n), x] ∧ Eu a m u l t n ∧ 2 ≤ u, ⟨_, _, _, _, _, rfl, Eu.start m0, hm.1⟩, muI 3, fun ρ hρ => ?_⟩
    obtain ⟨u, l, t, n, x, rfl, h, u2⟩ := hρ
    simp only [startD, pSeq, pNext, pSet, pRet, pRetN, pVar, pC, pNil, pCons, pTup, pLst, pOp, dI, dI0, pTest, dEq, dNe, pAnd, pOr, pNot, pIf, pIfS, pAndV, pOrV, pCall, pMeth, pFld, pB, pChain, pNoPart, pPart, pSl, dSlS, dSlC, dM1, pFmt, pJs3, pPar, pPar3, pUnp, pJarIx, pJarSet, dIxT, dIxL, dIxS, dIxC, dCat, dRep, dAddS, dOwn2, dOwnI, dOwnR, setAll, noX, List.map_cons, List.map_nil, List.length_cons, List.length_nil, List.cons_append, List.nil_append, List.replicate, List.getElem?_cons_succ, List.getElem?_cons_zero, List.set_cons_zero, List.set_cons_succ, List.zip_cons_cons, List.zip_nil_right, List.foldl_cons, List.foldl_nil, Option.some.injEq, exists_eq_left', exists_eq_left, exists_eq_right, exists_eq, exists_eq', PL.D.int.injEq, PL.D.bl.injEq, PL.D.str.injEq, PL.D.tup.injEq, PL.D.lst.injEq, PL.D.ins.injEq, PL.D.scr.injEq, List.cons.injEq, and_true, true_and, and_self, exists_and_left, exists_and_right, reduceCtorEq, false_and, and_false, exists_false, or_false, false_or, forall_const, false_implies, true_implies, Nat.reduceAdd, Nat.reduceSub, Nat.reduceLeDiff, exists_const, if_true, if_false, Bool.false_eq_true, ne_eq, not_false_eq_true, Nat.sub_self, List.append_nil, PL.isNon_non, PL.isNon_int, PL.isNon_str, PL.isNon_tup, PL.isNon_lst, PL.isNon_bl, pNever, Bool.not_true, Bool.not_false, Int.reduceLT, Int.reduceLE,  PL.pFld, fld_num, fld_mod, ex_rs, isNon_rs, pJs2, muI, decide_eq_true_eq, decide_eq_false_iff_not, ex2eq]
    refine ⟨fun hl => ?_, fun hl => ⟨m0, ?_⟩⟩
    · have hb : ∀ {y : Int}, 0 ≤ y → y ≤ m → Bd 20 y := fun h1 h2 => mb (by omega)
      have l1 := h.lu
      have l2 := h.um
      have hq : Bd 20 (u / l) := hb (Int.ediv_nonneg (by omega) (by omega)) (Int.le_trans (Int.ediv_le_self _ (by omega)) l2)
      have h' := h.step (by omega)
      have l3 := h'.lu
      have l4 := h'.l0
      refine ⟨wide_div (by omega) (hb (by omega) (by omega)) (by decide) (by decide), hq.mulW (hb (by omega) (by omega)) (by decide) (by decide) (by decide), hq.mulW (mb h.nm) (by decide) (by decide) (by decide), ?_⟩
      exact ⟨⟨_, _, _, _, ⟨rfl, rfl, rfl, rfl⟩, h', by omega⟩, by omega⟩
    · have l0 := h.l0
      have hl1 : l = 1 := by
        have hg' := h.g
        rw [hg] at hg'
        by_cases z : l = 0
        · subst z
          rw [Int.natAbs_zero, Nat.gcd_zero_right] at hg'
          omega
        · omega
      subst hl1
      refine q _ ⟨in_mod hm, ?_⟩
      obtain ⟨k, hk⟩ := h.kn
      have e : a * (n % m) % m = a * n % m := by rw [Int.mul_emod, Int.emod_emod, ← Int.mul_emod]
      rw [e, show a * n = 1 + m * k by omega, Int.add_mul_emod_self_left]
      exact Int.emod_eq_of_lt (by decide) (by have := hm.1; omega)
abbrev FTur (P : Program) (w : World) (K : PySem.W.Frag) (mg : Str → Option Value) (base : Heap) := Fn P w K mg base "_law_turned" 1 ["_law_size", "_law_by"] pfTur
/-! ### _law_raised -/
theorem scLrs : FnScope ["_law_size", "_law_often", "_law_by", "_law_found", "_law_square", "_law_left"] ["_law_size", "_law_often", "_law_by"] (defScope (top 43)) := ⟨rfl, rfl, rfl, by decide +kernel, rfl, by decide +kernel, by decide +kernel⟩
def pfLrs : PF := fun ds Φ _ => ∃ (b m : Int) (n : Nat), ds = [.int b, .int (n : Int), .int m] ∧ Md m ∧ In b m ∧ Φ (.int (b ^ n % m))
theorem ok_lrs (DF : Df K mg "_law_raised" 43 f fd) (T : Txt K mg) : FnP P w K mg base 1 f fd ["_law_size", "_law_often", "_law_by"] pfLrs := by
  refine fnP DF.fn scLrs (fun ds Φ Ξ h => ?_) fun cdv A outer s H E J Ξ hr wok => ⟨_, (qss_cons (qs_par3 (i := 3) (j := 4) (l := 5) (by rfl) scLrs.nd rfl rfl rfl (by decide) (by decide) (by decide) rfl rfl rfl (qa_cons q_int (qa_cons (q_mod (q_BT call_int1 rc_int1 (T.free "int" (by decide +kernel)) (by rfl) (by decide +kernel) (qa_cons (qv 0) qa_nil)) (qv 2)) (qa_cons (qv 1) qa_nil))) (by rfl))
      (qss_cons (qs_while (passes_of rfl) (qt_cmp op_gt rd_B0 (qv 5) q_int (nomark _)) (qss_cons (qs_if (qt_cmp op_eq rd_eq (q_mod (q_BT call_int1 rc_int1 (T.free "int" (by decide +kernel)) (by rfl) (by decide +kernel) (qa_cons (qv 5) qa_nil)) q_int) q_int (nomark _)) (qss_one (qs_set (i := 3) scLrs.nd rfl (.inl rfl) (q_mod (q_BT call_int1 rc_int1 (T.free "int" (by decide +kernel)) (by rfl) (by decide +kernel) (qa_cons (q_mul (qv 3) (qv 4)) qa_nil)) (qv 2)))) qss_nil)
      (qss_cons (qs_set (i := 4) scLrs.nd rfl (.inl rfl) (q_mod (q_BT call_int1 rc_int1 (T.free "int" (by decide +kernel)) (by rfl) (by decide +kernel) (qa_cons (q_mul (qv 4) (qv 4)) qa_nil)) (qv 2)))
      (qss_one (qs_set (i := 5) scLrs.nd rfl (.inl rfl) (q_fdiv (qv 5) q_int))))))
      (qss_one (qs_ret (q_mod (q_BT call_int1 rc_int1 (T.free "int" (by decide +kernel)) (by rfl) (by decide +kernel) (qa_cons (qv 3) qa_nil)) (qv 2)))))), fun ds Φ h => ?_⟩
  · obtain ⟨_, _, _, rfl, _⟩ := h
    rfl
  · obtain ⟨b, m, n, rfl, hm, hb, q⟩ := h
    simp only [startD, pSeq, pNext, pSet, pRet, pRetN, pVar, pC, pNil, pCons, pTup, pLst, pOp, dI, dI0, pTest, dEq, dNe, pAnd, pOr, pNot, pIf, pIfS, pAndV, pOrV, pCall, pMeth, pFld, pB, pChain, pNoPart, pPart, pSl, dSlS, dSlC, dM1, pFmt, pJs3, pPar, pPar3, pUnp, pJarIx, pJarSet, dIxT, dIxL, dIxS, dIxC, dCat, dRep, dAddS, dOwn2, dOwnI, dOwnR, setAll, noX, List.map_cons, List.map_nil, List.length_cons, List.length_nil, List.cons_append, List.nil_append, List.replicate, List.getElem?_cons_succ, List.getElem?_cons_zero, List.set_cons_zero, List.set_cons_succ, List.zip_cons_cons, List.zip_nil_right, List.foldl_cons, List.foldl_nil, Option.some.injEq, exists_eq_left', exists_eq_left, exists_eq_right, exists_eq, exists_eq', PL.D.int.injEq, PL.D.bl.injEq, PL.D.str.injEq, PL.D.tup.injEq, PL.D.lst.injEq, PL.D.ins.injEq, PL.D.scr.injEq, List.cons.injEq, and_true, true_and, and_self, exists_and_left, exists_and_right, reduceCtorEq, false_and, and_false, exists_false, or_false, false_or, forall_const, false_implies, true_implies, Nat.reduceAdd, Nat.reduceSub, Nat.reduceLeDiff, exists_const, if_true, if_false, Bool.false_eq_true, ne_eq, not_false_eq_true, Nat.sub_self, List.append_nil, PL.isNon_non, PL.isNon_int, PL.isNon_str, PL.isNon_tup, PL.isNon_lst, PL.isNon_bl, pNever, Bool.not_true, Bool.not_false, Int.reduceLT, Int.reduceLE,  PL.pFld, fld_num, fld_mod, ex_rs, isNon_rs, pJs2, pWhile, ex2eq]
    have m0 : 0 < m := by have := hm.1; omega
    have mm : ∀ {x y : Nat}, CMulW (b ^ x % m) (b ^ y % m) := ((in_mod hm).bd hm).mulW ((in_mod hm).bd hm) (by decide) (by decide) (by decide)
    refine ⟨m0, fun ρ => ∃ e f l : Nat, ρ = [some (.int b), some (.int (n : Int)), some (.int m), some (.int (b ^ e % m)), some (.int (b ^ f % m)), some (.int (l : Int))] ∧ e + f * l = n, ⟨0, 1, n, by rw [Int.pow_zero, Int.pow_one, one_mod hm], by omega⟩, muI 5, fun ρ hρ => ?_⟩
    obtain ⟨e, f, l, rfl, he⟩ := hρ
    simp only [startD, pSeq, pNext, pSet, pRet, pRetN, pVar, pC, pNil, pCons, pTup, pLst, pOp, dI, dI0, pTest, dEq, dNe, pAnd, pOr, pNot, pIf, pIfS, pAndV, pOrV, pCall, pMeth, pFld, pB, pChain, pNoPart, pPart, pSl, dSlS, dSlC, dM1, pFmt, pJs3, pPar, pPar3, pUnp, pJarIx, pJarSet, dIxT, dIxL, dIxS, dIxC, dCat, dRep, dAddS, dOwn2, dOwnI, dOwnR, setAll, noX, List.map_cons, List.map_nil, List.length_cons, List.length_nil, List.cons_append, List.nil_append, List.replicate, List.getElem?_cons_succ, List.getElem?_cons_zero, List.set_cons_zero, List.set_cons_succ, List.zip_cons_cons, List.zip_nil_right, List.foldl_cons, List.foldl_nil, Option.some.injEq, exists_eq_left', exists_eq_left, exists_eq_right, exists_eq, exists_eq', PL.D.int.injEq, PL.D.bl.injEq, PL.D.str.injEq, PL.D.tup.injEq, PL.D.lst.injEq, PL.D.ins.injEq, PL.D.scr.injEq, List.cons.injEq, and_true, true_and, and_self, exists_and_left, exists_and_right, reduceCtorEq, false_and, and_false, exists_false, or_false, false_or, forall_const, false_implies, true_implies, Nat.reduceAdd, Nat.reduceSub, Nat.reduceLeDiff, exists_const, if_true, if_false, Bool.false_eq_true, ne_eq, not_false_eq_true, Nat.sub_self, List.append_nil, PL.isNon_non, PL.isNon_int, PL.isNon_str, PL.isNon_tup, PL.isNon_lst, PL.isNon_bl, pNever, Bool.not_true, Bool.not_false, Int.reduceLT, Int.reduceLE,  PL.pFld, fld_num, fld_mod, ex_rs, isNon_rs, pJs2, decide_eq_true_eq, decide_eq_false_iff_not, muI, Int.toNat_natCast]
    have hdiv : CDivW (l : Int) 2 := wide_div (b := 2) (by decide) (by decide) (by decide) (by decide)
    have hd2 : ((l : Int) / 2) = ((l / 2 : Nat) : Int) := by omega
    have hm2 : ((l : Int) % 2) = ((l % 2 : Nat) : Int) := by omega
    have pw : ∀ x y : Nat, b ^ x % m * (b ^ y % m) % m = b ^ (x + y) % m := fun x y => by rw [← Int.mul_emod, ← Int.pow_add]
    rw [hd2, hm2]
    refine ⟨fun hl => ?_, fun hl => ⟨m0, ?_⟩⟩
    · have lt2 : (((l / 2 : Nat) : Int)).toNat < l := by omega
      refine ⟨rfl, fun c => ⟨mm, m0, mm, m0, hdiv, ⟨e + f, f + f, l / 2, ⟨pw _ _, pw _ _, rfl⟩, ?_⟩, lt2⟩, fun c => ⟨mm, m0, hdiv, ⟨e, f + f, l / 2, ⟨rfl, pw _ _, rfl⟩, ?_⟩, lt2⟩⟩
      · have c1 : ((l % 2 : Nat) : Int) = 1 := of_decide_eq_true c
        have h : l = 2 * (l / 2) + 1 := by omega
        rw [h] at he
        generalize l / 2 = k at *
        grind
      · have c1 : ¬ ((l % 2 : Nat) : Int) = 1 := of_decide_eq_false c
        have h : l = 2 * (l / 2) := by omega
        rw [h] at he
        generalize l / 2 = k at *
        grind
    · have : l = 0 := by omega
      subst this
      rw [Nat.mul_zero, Nat.add_zero] at he
      rw [he, Int.emod_emod]
      exact q
abbrev FLrs (P : Program) (w : World) (K : PySem.W.Frag) (mg : Str → Option Value) (base : Heap) := Fn P w K mg base "_law_raised" 1 ["_law_size", "_law_often", "_law_by"] pfLrs
/-! ### _law_round -/
theorem scRnd : FnScope ["_law_size", "_law_by", "_law_found", "_law_power", "_law_turn"] ["_law_size", "_law_by"] (defScope (top 44)) := ⟨rfl, rfl, rfl, by decide +kernel, rfl, by decide +kernel, by decide +kernel⟩
def pfRnd : PF := fun ds Φ _ => ∃ (a m : Int) (o : Nat), ds = [.int a, .int m] ∧ Md m ∧ In a m ∧ (o : Int) ≤ m ∧ IsOrd a m o ∧ Φ (.int (o : Int))
theorem ok_rnd (DF : Df K mg "_law_round" 44 f fd) (T : Txt K mg) : FnP P w K mg base 1 f fd ["_law_size", "_law_by"] pfRnd := by
  refine fnP DF.fn scRnd (fun ds Φ Ξ h => ?_) fun cdv A outer s H E J Ξ hr wok => ⟨_, (qss_cons (qs_par (i := 2) (j := 3) (by rfl) scRnd.nd rfl rfl (by decide) rfl rfl (qa_cons q_int (qa_cons (q_mod (q_BT call_int1 rc_int1 (T.free "int" (by decide +kernel)) (by rfl) (by decide +kernel) (qa_cons (qv 0) qa_nil)) (qv 1)) qa_nil)) (by rfl))
      (qss_cons (qs_for (i := 4) (passes_of rfl) rfl (qi_range (T.free "range" (by decide +kernel)) (by rfl) (qa_cons (qv 1) qa_nil)) scRnd.nd rfl (.inl rfl) (qss_cons (qs_if (qt_cmp op_eq rd_eq (qv 3) q_int (nomark _)) (qss_one (qs_ret (qv 2))) qss_nil)
      (qss_one (qs_par (i := 2) (j := 3) (by rfl) scRnd.nd rfl rfl (by decide) rfl rfl (qa_cons (q_add (qv 2) q_int) (qa_cons (q_mod (q_BT call_int1 rc_int1 (T.free "int" (by decide +kernel)) (by rfl) (by decide +kernel) (qa_cons (q_mul (qv 3) (qv 0)) qa_nil)) (qv 1)) qa_nil)) (by rfl)))))
      (qss_one (qs_ret q_int)))), fun ds Φ h => ?_⟩
  · obtain ⟨_, _, _, rfl, _⟩ := h
    rfl
  · obtain ⟨a, m, o, rfl, hm, ha, ho, hI, q⟩ := h
    simp only [startD, pSeq, pNext, pSet, pRet, pRetN, pVar, pC, pNil, pCons, pTup, pLst, pOp, dI, dI0, pTest, dEq, dNe, pAnd, pOr, pNot, pIf, pIfS, pAndV, pOrV, pCall, pMeth, pFld, pB, pChain, pNoPart, pPart, pSl, dSlS, dSlC, dM1, pFmt, pJs3, pPar, pPar3, pUnp, pJarIx, pJarSet, dIxT, dIxL, dIxS, dIxC, dCat, dRep, dAddS, dOwn2, dOwnI, dOwnR, setAll, noX, List.map_cons, List.map_nil, List.length_cons, List.length_nil, List.cons_append, List.nil_append, List.replicate, List.getElem?_cons_succ, List.getElem?_cons_zero, List.set_cons_zero, List.set_cons_succ, List.zip_cons_cons, List.zip_nil_right, List.foldl_cons, List.foldl_nil, Option.some.injEq, exists_eq_left', exists_eq_left, exists_eq_right, exists_eq, exists_eq', PL.D.int.injEq, PL.D.bl.injEq, PL.D.str.injEq, PL.D.tup.injEq, PL.D.lst.injEq, PL.D.ins.injEq, PL.D.scr.injEq, List.cons.injEq, and_true, true_and, and_self, exists_and_left, exists_and_right, reduceCtorEq, false_and, and_false, exists_false, or_false, false_or, forall_const, false_implies, true_implies, Nat.reduceAdd, Nat.reduceSub, Nat.reduceLeDiff, exists_const, if_true, if_false, Bool.false_eq_true, ne_eq, not_false_eq_true, Nat.sub_self, List.append_nil, PL.isNon_non, PL.isNon_int, PL.isNon_str, PL.isNon_tup, PL.isNon_lst, PL.isNon_bl, pNever, Bool.not_true, Bool.not_false, Int.reduceLT, Int.reduceLE,  PL.pFld, fld_num, fld_mod, ex_rs, isNon_rs, pJs2, pFor, ex2eq]
    have m0 : 0 < m := by have := hm.1; omega
    obtain ⟨o1, oe, ol⟩ := hI
    refine ⟨m0, m.toNat, by rw [Int.toNat_of_nonneg (by omega)], by have := hm.2; omega, fun j ρ => ∃ z, ρ = [some (.int a), some (.int m), some (.int ((j + 1 : Nat) : Int)), some (.int (a ^ (j + 1) % m)), z] ∧ j < o, ⟨_, by rw [Int.pow_one]; rfl, o1⟩, fun j d ρ hd hρ => ?_, fun ρ hρ => ?_⟩
    · obtain ⟨z, rfl, hj⟩ := hρ
      simp only [startD, pSeq, pNext, pSet, pRet, pRetN, pVar, pC, pNil, pCons, pTup, pLst, pOp, dI, dI0, pTest, dEq, dNe, pAnd, pOr, pNot, pIf, pIfS, pAndV, pOrV, pCall, pMeth, pFld, pB, pChain, pNoPart, pPart, pSl, dSlS, dSlC, dM1, pFmt, pJs3, pPar, pPar3, pUnp, pJarIx, pJarSet, dIxT, dIxL, dIxS, dIxC, dCat, dRep, dAddS, dOwn2, dOwnI, dOwnR, setAll, noX, List.map_cons, List.map_nil, List.length_cons, List.length_nil, List.cons_append, List.nil_append, List.replicate, List.getElem?_cons_succ, List.getElem?_cons_zero, List.set_cons_zero, List.set_cons_succ, List.zip_cons_cons, List.zip_nil_right, List.foldl_cons, List.foldl_nil, Option.some.injEq, exists_eq_left', exists_eq_left, exists_eq_right, exists_eq, exists_eq', PL.D.int.injEq, PL.D.bl.injEq, PL.D.str.injEq, PL.D.tup.injEq, PL.D.lst.injEq, PL.D.ins.injEq, PL.D.scr.injEq, List.cons.injEq, and_true, true_and, and_self, exists_and_left, exists_and_right, reduceCtorEq, false_and, and_false, exists_false, or_false, false_or, forall_const, false_implies, true_implies, Nat.reduceAdd, Nat.reduceSub, Nat.reduceLeDiff, exists_const, if_true, if_false, Bool.false_eq_true, ne_eq, not_false_eq_true, Nat.sub_self, List.append_nil, PL.isNon_non, PL.isNon_int, PL.isNon_str, PL.isNon_tup, PL.isNon_lst, PL.isNon_bl, pNever, Bool.not_true, Bool.not_false, Int.reduceLT, Int.reduceLE,  PL.pFld, fld_num, fld_mod, ex_rs, isNon_rs, pJs2]
      refine ⟨rfl, fun c => ?_, fun c => ?_⟩
      · have c1 : a ^ (j + 1) % m = 1 := of_decide_eq_true c
        have : ¬ j + 1 < o := fun z => ol (j + 1) (by omega) z c1
        rw [show j + 1 = o by omega]
        exact q
      · have c1 : ¬ a ^ (j + 1) % m = 1 := of_decide_eq_false c
        refine ⟨((in_mod hm).bd hm).mulW (ha.bd hm) (by decide) (by decide) (by decide), m0, ⟨rfl, ?_⟩, ?_⟩
        · rw [Int.pow_succ a (j + 1), Int.mul_emod, Int.emod_emod, ← Int.mul_emod]
        · rcases Nat.lt_or_ge (j + 1) o with z | z
          · exact z
          · rw [show o = j + 1 by omega] at oe
            exact absurd oe c1
    · obtain ⟨z, rfl, hj⟩ := hρ
      rw [List.length_map, List.length_range] at hj
      omega
abbrev FRnd (P : Program) (w : World) (K : PySem.W.Frag) (mg : Str → Option Value) (base : Heap) := Fn P w K mg base "_law_round" 1 ["_law_size", "_law_by"] pfRnd
end
end K3
set_option Elab.async false
set_option linter.all false
set_option maxRecDepth 100000
set_option maxHeartbeats 4000000
namespace PL
open PySem PySem.Spec PyProof.Rows L2 GX HX
section
variable {X : Cx} {k : Nat} {f : Addr} {fd : FuncData} {ps : List Str} {sp : Sp} {W : WX} {x : Str} {p pos : Pos} {e : Expr} {es : List Expr} {t : TA}
/-- a call whose errors the wish about the slots takes -/
theorem pe_callW (F : FnOk X.prog X.w X.K X.mg X.base (L2.CX X.prog X.w) k f fd ps sp) (hr : Room k X.A) (hg : Gl X x) (hm : X.mg x = some (.ref f)) (hk : PySem.W.keepIn X.K (.ref f) = true) (hb : Binds X.K fd ps []) (tk : Takes X W)
    (ha : PA X (e :: es) t) (hdb : (x == ("__debug__" : Str)) = false := by decide) (he : starEach (e :: es) X.env = (false, eval e X.env) :: starEach es X.env := by rfl) (hpl : (backTo pos (starEach es X.env)).any (·.1) = false := by rfl) :
    PE X (.Call (.Name x p) (e :: es) [] pos) (fun σ H Q => t σ H fun vs H1 => sp (vs ++ []) H1 Q fun cls d H' => W cls d σ H') := by
  refine ⟨fun pins s σ H Q I h => ?_⟩
  refine wpAny_Call_Name_kw (ld_glob I hg hm ?_ hdb)
  refine PySem.W.callWith_K (h₀ := X.base) I.ok.mod.kin hk (thn (ha.run pos pins s σ H _ I h) fun us s1 hh => ?_) he hpl
  obtain ⟨vs, H1, I1, r, q⟩ := hh
  refine ⟨I1.kIn, ?_⟩
  have r2 : Vals (vs ++ []) (us ++ []) := r.append .nil
  have hl : (us ++ []).length = ps.length := by rw [← r2.length]; exact F.len _ _ _ _ q
  refine wpAny_call (codeAny_mono (F.run X.A X.stack s1 H1 ⟨us, []⟩ (us ++ []) (vs ++ []) Q _ hr I1.env0 (hb s1 us I1.kIn hl) r2 q) fun r s' hq => ?_)
  cases r with
  | error e => exact tk e s' (XE.of_call (W := W) (σ := σ) I1 (fun cls d H' h => h) hq)
  | ok fl =>
    cases fl with
    | ret u => exact I1.after hq
    | next => exact False.elim hq
    | brk => exact False.elim hq
    | cont => exact False.elim hq
end
/-! ### isinstance of the exception that a suite holds -/
section
variable {X : Cx} {a : Addr} {oe : Obj} {pn : List (Addr × Obj)} {cls : Value} {d : Option Addr}
def rIsF (K : PySem.W.Frag) (a : Addr) (cls : Value) (d : Option Addr) : List V → Hp → VK → Prop := fun xs H Q => ∃ (C dd : Addr) (fs : List (Str × V)) (c : V) (cv : Value) (b : Bool), xs = [.ref a, c] ∧ cls = .ref C ∧ d = some dd ∧ (∃ tl n, ExC K tl n C) ∧ H dd = some (.xd fs) ∧ ClsV c cv ∧ PySem.W.kitOne K (.ref C) cv = some b ∧ Q (.bl b) H
def rIsFT (K : PySem.W.Frag) (a : Addr) (cls : Value) (d : Option Addr) : List V → Hp → VK → Prop := fun xs H Q => ∃ (C dd tp : Addr) (fs : List (Str × V)) (cs : List V) (us : List Value) (b : Bool), xs = [.ref a, .ref tp] ∧ cls = .ref C ∧ d = some dd ∧ (∃ tl n, ExC K tl n C) ∧ H dd = some (.xd fs) ∧ H tp = some (.tup cs) ∧ Paired ClsV cs us ∧ PySem.W.kitAny K (.ref C) us = some b ∧ Q (.bl b) H
theorem flight {pins : List (Addr × Obj)} {σ : L2.St} {H : Hp} {s : Shared} {C dd : Addr} {fs : List (Str × V)} (I : Inv (X.suite a ((a, oe) :: pn)) pins σ H s) (hz : Zc (.ref C) (some dd) oe) (hf : ∃ vs, oe.data = .fields vs) (hd : H dd = some (.xd fs)) : ∃ ox od, PySem.W.InstAt s.heap a ox C od := by
  obtain ⟨ha, _⟩ := I.pin (a, oe) (List.mem_append_left _ List.mem_cons_self)
  obtain ⟨vs, hv⟩ := hf
  have hx : ObjOk X.prog X.w H s.heap dd (.xd fs) := I.hok dd _ hd
  obtain ⟨mA, hns, hr⟩ := hx
  obtain ⟨od, ho, hl⟩ := lookIn_ns hns
  exact ⟨oe, some od, ha, hz.1, by unfold PySem.W.notCls; rw [hv] <;> rfl, by rw [hz.2]; exact ho⟩
theorem call_isF (A : ClsA X.K) (hz : Zc cls d oe) (hf : ∃ vs, oe.data = .fields vs) : CallR (X.suite a ((a, oe) :: pn)) (.builtin "isinstance") (rIsF X.K a cls d) := by
  intro pins s σ H xs us Q I r h
  obtain ⟨C, dd, fs, c, cv, b, rfl, rfl, rfl, ⟨tl, n, T⟩, hd, kc, e, q⟩ := h
  obtain ⟨u1, u2, rfl, r1, r2⟩ := vals2 r
  obtain rfl : u1 = Value.ref a := r1
  have e2 := kc.eq r2
  subst e2
  exact PySem.W.kia_one (gx_kit T.ga T.gg T.ex T.hd T.ca A.hn A.ht T.ob) I.kIn (flight I hz hf hd) e (fun z => nomatch z) fun tk => ⟨.bl b, H, I.tok tk, rfl, q⟩
theorem call_isFT (A : ClsA X.K) (hz : Zc cls d oe) (hf : ∃ vs, oe.data = .fields vs) : CallR (X.suite a ((a, oe) :: pn)) (.builtin "isinstance") (rIsFT X.K a cls d) := by
  intro pins s σ H xs us Q I r h
  obtain ⟨C, dd, tp, fs, cs, ws, b, rfl, rfl, rfl, ⟨tl, n, T⟩, hd, hT, k, e, q⟩ := h
  obtain ⟨u1, u2, rfl, r1, r2⟩ := vals2 r
  obtain rfl : u1 = Value.ref a := r1
  cases (show u2 = Value.ref tp from r2)
  obtain ⟨_, its, rv, o, h1, h2, n, h3⟩ := (show ObjOk X.prog X.w H s.heap tp (.tup cs) from I.hok tp _ hT)
  have e3 := ClsV.all k rv
  subst e3
  obtain ⟨oc, od, dt, sl⟩ := o
  simp only at h2 h3
  subst h2 h3
  exact PySem.W.kia_tup (gx_kit T.ga T.gg T.ex T.hd T.ca A.hn A.ht T.ob) I.kIn (flight I hz hf hd) h1 e (fun z => nomatch z) fun tk => ⟨.bl b, H, I.tok tk, rfl, q⟩
end
end PL
set_option Elab.async false
set_option linter.all false
set_option maxRecDepth 100000
set_option maxHeartbeats 4000000
namespace K3
open PySem PySem.Spec PyProof.Rows L2 GX HX PL
def tlN : Nat → Str
  | 0 => "ValueError"
  | 1 => "LookupError"
  | _ => "ArithmeticError"
/-- whether an error of the class c is one of the class named x -/
def isOf (c : Ci) (x : Str) : Bool := c.nm == x || (c.base == some x || tlN c.kind == x)
theorem inj_of {α β : Type} {f : α → β} : ∀ {l : List α}, (l.map f).Nodup → ∀ a ∈ l, ∀ b ∈ l, f a = f b → a = b
  | [], _, a, h, _, _, _ => nomatch h
  | x :: l, hn, a, ha, b, hb, e => by
    rw [List.map_cons, List.nodup_cons] at hn
    obtain ⟨hx, hl⟩ := hn
    rcases List.mem_cons.mp ha with h1 | h1
    · rcases List.mem_cons.mp hb with h2 | h2
      · rw [h1, h2]
      · exact absurd (List.mem_map.mpr ⟨b, h2, by rw [← e, h1]⟩) hx
    · rcases List.mem_cons.mp hb with h2 | h2
      · exact absurd (List.mem_map.mpr ⟨a, h1, by rw [e, h2]⟩) hx
      · exact inj_of hl a h1 b h2 e
theorem tabBase : ∀ c ∈ tab, ∀ b, c.base = some b → ∃ d ∈ tab, d.nm = b := by
  have h : (tab.all fun c => match c.base with
    | none => true
    | some b => tab.any fun d => d.nm == b) = true := by decide +kernel
  intro c hc b hb
  have := List.all_eq_true.mp h c hc
  rw [hb] at this
  obtain ⟨d, hd, e⟩ := List.any_eq_true.mp this
  exact ⟨d, hd, beq_iff_eq.mp e⟩
theorem tabTl : ∀ c ∈ tab, ∀ d ∈ tab, (tlN c.kind == d.nm) = false := by
  have h : (tab.all fun c => tab.all fun d => !(tlN c.kind == d.nm)) = true := by decide +kernel
  intro c hc d hd
  simpa using List.all_eq_true.mp (List.all_eq_true.mp h c hc) d hd
theorem tl_ref (k : Nat) (a : Addr) : (tlOf k).contains (.ref a) = false := by
  match k with
  | 0 => rfl
  | 1 => rfl
  | _ + 2 => rfl
section
variable {K : PySem.W.Frag} {mg : Str → Option Value}
theorem mro_in {c : Ci} (R : RowOk K c) (v : Value) : PySem.W.mroIn K (HX.ga K c.nm) v = some ((mroOfC K c).contains v) := by
  obtain ⟨cd, h1, h2⟩ := Option.map_eq_some_iff.mp R.mro
  unfold PySem.W.mroIn
  rw [h1]
  show (if cd.mro.isEmpty = true then none else some (cd.mro.contains v)) = _
  rw [h2, if_neg (show ¬ (mroOfC K c).isEmpty = true from Bool.false_ne_true)]
theorem isa_own (T : Txt K mg) {c d : Ci} (hc : c ∈ tab) (hd : d ∈ tab) : PySem.W.kitOne K (.ref (HX.ga K c.nm)) (.ref (HX.ga K d.nm)) = some (isOf c d.nm) := by
  have inj : ∀ x ∈ tab, ∀ y ∈ tab, HX.ga K x.nm = HX.ga K y.nm → x = y := inj_of T.nd
  unfold PySem.W.kitOne
  by_cases e : HX.ga K c.nm = HX.ga K d.nm
  · have := inj c hc d hd e
    subst this
    rw [if_pos (beq_self_eq_true _)]
    unfold isOf
    rw [beq_self_eq_true, Bool.true_or]
  · have ne : ((Value.ref (HX.ga K c.nm)) == Value.ref (HX.ga K d.nm)) = false := beq_eq_false_iff_ne.mpr fun h => e (Value.ref.inj h)
    rw [ne, if_neg Bool.false_ne_true]
    have Rd := T.rows d hd
    have cs : (PySem.W.clsIn K (HX.ga K d.nm)).isSome = true := by
      obtain ⟨cd, h1, h2⟩ := Option.map_eq_some_iff.mp Rd.mro
      rw [h1]
      rfl
    unfold PySem.W.kitCls
    show (if ((PySem.W.clsIn K (HX.ga K d.nm)).isSome && PySem.W.typeIn K (.ref (HX.ga K d.nm)) == some (.type "type")) = true then PySem.W.subIn K (.ref (HX.ga K c.nm)) (.ref (HX.ga K d.nm)) else none) = _
    rw [cs, Rd.ex.ty, if_pos (by decide)]
    show PySem.W.mroIn K (HX.ga K c.nm) _ = _
    rw [mro_in (T.rows c hc)]
    refine congrArg some ?_
    have nn : (c.nm == d.nm) = false := beq_eq_false_iff_ne.mpr fun h => e (by rw [h])
    unfold isOf mroOfC
    rw [nn, tabTl c hc d hd, Bool.false_or, Bool.or_false, List.contains_cons]
    have ne2 : ((Value.ref (HX.ga K d.nm)) == Value.ref (HX.ga K c.nm)) = false := beq_eq_false_iff_ne.mpr fun h => e (Value.ref.inj h).symm
    rw [ne2, Bool.false_or]
    cases hb : c.base with
    | none => exact tl_ref _ _
    | some b =>
      obtain ⟨x, hx, rfl⟩ := tabBase c hc b hb
      show (Value.ref (HX.ga K x.nm) :: tlOf c.kind).contains (.ref (HX.ga K d.nm)) = (some x.nm == some d.nm)
      rw [List.contains_cons, tl_ref, Bool.or_false]
      by_cases q : x.nm = d.nm
      · rw [q, beq_self_eq_true, beq_self_eq_true]
      · have e1 : ((Value.ref (HX.ga K d.nm)) == Value.ref (HX.ga K x.nm)) = false := beq_eq_false_iff_ne.mpr fun h => q (by rw [inj d hd x hx (Value.ref.inj h)])
        have e2 : (some x.nm == some d.nm) = false := beq_eq_false_iff_ne.mpr fun h => q (Option.some.inj h)
        rw [e1, e2]
theorem exm_own (T : Txt K mg) {c d : HX.Ci} (hc : c ∈ tab) (hd : d ∈ tab) (hn : c ≠ d) : PySem.W.exmOne K (.ref (HX.ga K c.nm)) (.ref (HX.ga K d.nm)) = some (isOf c d.nm) := by
  have inj : ∀ x ∈ tab, ∀ y ∈ tab, HX.ga K x.nm = HX.ga K y.nm → x = y := inj_of T.nd
  have q := isa_own T hc hd
  unfold PySem.W.kitOne at q
  rw [if_neg (fun h => hn (inj c hc d hd (Value.ref.inj (beq_iff_eq.mp h))))] at q
  unfold PySem.W.exmOne
  rw [(T.rows d hd).ex.ex]
  exact q
end
end K3
set_option Elab.async false
set_option linter.all false
set_option maxRecDepth 100000
set_option maxHeartbeats 4000000
namespace K3
open PySem PySem.Spec PyProof.Rows L2 GX HX PL
section
variable {P : Program} {w : World} {K : PySem.W.Frag} {mg : Str → Option Value} {base : Heap} {f : Addr} {fd : FuncData}
theorem exm_self (T : Txt K mg) {c : HX.Ci} (hc : c ∈ tab) : PySem.W.exmOne K (.ref (HX.ga K c.nm)) (.ref (HX.ga K c.nm)) = some true := by
  have R := T.rows c hc
  have cs : (PySem.W.clsIn K (HX.ga K c.nm)).isSome = true := by
    obtain ⟨cd, h1, h2⟩ := Option.map_eq_some_iff.mp R.mro
    rw [h1]
    rfl
  unfold PySem.W.exmOne
  rw [R.ex.ex, if_pos (by decide)]
  unfold PySem.W.kitCls
  show (if ((PySem.W.clsIn K (HX.ga K c.nm)).isSome && PySem.W.typeIn K (.ref (HX.ga K c.nm)) == some (.type "type")) = true then PySem.W.subIn K (.ref (HX.ga K c.nm)) (.ref (HX.ga K c.nm)) else none) = _
  rw [cs, R.ex.ty, if_pos (by decide)]
  show PySem.W.mroIn K (HX.ga K c.nm) _ = _
  rw [mro_in R]
  unfold mroOfC
  rw [List.contains_cons, beq_self_eq_true, Bool.true_or]
abbrev bV : HX.Ci := ⟨"WrongValue", none, 0, []⟩
abbrev bN : HX.Ci := ⟨"WrongName", none, 1, []⟩
abbrev bA : HX.Ci := ⟨"NoAnswer", none, 2, []⟩
theorem mV : bV ∈ tab := by decide +kernel
theorem mN : bN ∈ tab := by decide +kernel
theorem mA : bA ∈ tab := by decide +kernel
theorem mNum : cNumber ∈ tab := by decide +kernel
theorem mUnl : cUnlike ∈ tab := by decide +kernel
theorem mNot : cNotNum ∈ tab := by decide +kernel
theorem mUni : cUnit ∈ tab := by decide +kernel
theorem mApa : cApart ∈ tab := by decide +kernel
theorem mMan : cMany ∈ tab := by decide +kernel
theorem xf_of {c : HX.Ci} (R : RowOk K c) : XfC K (HX.ga K c.nm) := ⟨R.ex.ga, R.ex.gg, R.ex.ex, R.ex.hd⟩
theorem xf_one {J : Option Addr} {H : Hp} {c : Str} {fs : List (Str × V)} {d : PL.D} (e : flOf c = ([("given" : Str)] : List Str)) (h : XF K J H c fs d) : ∃ v, fs = [(("given" : Str), v)] ∧ Is K J H v d := by
  rcases h with ⟨f, v, e1, e2, i⟩ | ⟨f, g, v, u, a, b, e1, _⟩
  · rw [e] at e1
    cases e1
    exact ⟨v, e2, i⟩
  · rw [e] at e1
    cases e1
theorem xf_two {J : Option Addr} {H : Hp} {c : Str} {fs : List (Str × V)} {d : PL.D} (e : flOf c = ([("kind" : Str), ("other" : Str)] : List Str)) (h : XF K J H c fs d) : ∃ v u a b, fs = [(("other" : Str), u), (("kind" : Str), v)] ∧ d = .tup [a, b] ∧ Is K J H v a ∧ Is K J H u b := by
  rcases h with ⟨f, v, e1, e2, i⟩ | ⟨f, g, v, u, a, b, e1, h⟩
  · rw [e] at e1
    cases e1
  · rw [e] at e1
    cases e1
    exact ⟨v, u, a, b, h⟩
/-! ### _law_refused -/
def errs : List Str := ["InvalidNumber", "Unlike", "NotANumber", "NotAUnit", "NotApart", "TooMany"]
def pfRef (pfC : PF) : PF := fun ds Φ _ => ds.length = 3 ∧ pfC ds (fun _ => Φ .non) fun c d => c ∈ errs ∧ Φ (.tup [.str c, d, .bl true, .bl false])
theorem scRef : FnScope ["_law_way", "_law_first", "_law_second", "_law_found", "e"] ["_law_way", "_law_first", "_law_second"] (defScope (top 48)) := ⟨rfl, rfl, rfl, by decide +kernel, rfl, by decide +kernel, by decide +kernel⟩
theorem ok_ref {pfC : PF} {k : Nat} (DF : Df K mg "_law_refused" 48 f fd) (T : Txt K mg) (CA : Fn P w K mg base "_law_called" k ["_law_way", "_law_first", "_law_second"] pfC) : FnP P w K mg base (k + 1) f fd ["_law_way", "_law_first", "_law_second"] (pfRef pfC) := by
  refine DF.fn.okX scRef (fun vs H Q E h => spP_len (n := 3) (fun ds Φ Ξ h => h.1) h) fun cdv A outer s H vs Q E hr h => ?_
  obtain ⟨J, ds, Φ, Ξ, hj, hi, ⟨hl, hp⟩, hq, hw⟩ := h
  refine ⟨_, pss_cons (ps_set (i := 3) scRef.nd rfl (.inl rfl) pe_non rfl (.inl rfl)) (pss_cons (ps_try_asM (i := 4) rfl rfl scRef.nd rfl rfl
    (fun W pn xe tk _ => pss_one (ps_expr (pe_callW CA.ok hr (by rfl) CA.gl CA.kp CA.bd tk (pa_cons (pv 0) (pa_cons (pv 1) (pa_cons (pv 2) pa_nil))))))
    (.cons (c := .ref (HX.ga K cNumber.nm)) ⟨rfl, by decide, .inl (T.gl _ mNum)⟩ (fun a oe cls d pn hz hf => pss_one (ps_set (i := 3) scRef.nd rfl (.inl rfl) (pe_tup (pa_cons pe_str (pa_cons (pe_xf (C := HX.ga K cNumber.nm) (xf_of (T.rows _ mNum)) ((T.rows _ mNum).no _ (by decide +kernel)) hz hf (pv 4)) (pa_cons (pe_callB (call_isF (clsA _) hz hf) (by rfl) (T.free "isinstance" (by decide +kernel)) (by decide +kernel) (pa_cons (pv 4) (pa_cons (pe_glob (v := .ref (HX.ga K bV.nm)) (by rfl) (T.gl _ mV) rfl) pa_nil))) (pa_cons (pe_callB (call_isFT (clsA _) hz hf) (by rfl) (T.free "isinstance" (by decide +kernel)) (by decide +kernel) (pa_cons (pv 4) (pa_cons (pe_tup (pa_cons (pe_glob (v := .ref (HX.ga K bA.nm)) (by rfl) (T.gl _ mA) rfl) (pa_cons (pe_glob (v := .ref (HX.ga K bN.nm)) (by rfl) (T.gl _ mN) rfl) pa_nil))) pa_nil))) pa_nil))))) rfl (.inl rfl)))
    (.cons (c := .ref (HX.ga K cUnlike.nm)) ⟨rfl, by decide, .inl (T.gl _ mUnl)⟩ (fun a oe cls d pn hz hf => pss_one (ps_set (i := 3) scRef.nd rfl (.inl rfl) (pe_tup (pa_cons pe_str (pa_cons (pe_tup (pa_cons (pe_xf (C := HX.ga K cUnlike.nm) (xf_of (T.rows _ mUnl)) ((T.rows _ mUnl).no _ (by decide +kernel)) hz hf (pv 4)) (pa_cons (pe_xf (C := HX.ga K cUnlike.nm) (xf_of (T.rows _ mUnl)) ((T.rows _ mUnl).no _ (by decide +kernel)) hz hf (pv 4)) pa_nil))) (pa_cons (pe_callB (call_isF (clsA _) hz hf) (by rfl) (T.free "isinstance" (by decide +kernel)) (by decide +kernel) (pa_cons (pv 4) (pa_cons (pe_glob (v := .ref (HX.ga K bV.nm)) (by rfl) (T.gl _ mV) rfl) pa_nil))) (pa_cons (pe_callB (call_isFT (clsA _) hz hf) (by rfl) (T.free "isinstance" (by decide +kernel)) (by decide +kernel) (pa_cons (pv 4) (pa_cons (pe_tup (pa_cons (pe_glob (v := .ref (HX.ga K bA.nm)) (by rfl) (T.gl _ mA) rfl) (pa_cons (pe_glob (v := .ref (HX.ga K bN.nm)) (by rfl) (T.gl _ mN) rfl) pa_nil))) pa_nil))) pa_nil))))) rfl (.inl rfl)))
    (.cons (c := .ref (HX.ga K cNotNum.nm)) ⟨rfl, by decide, .inl (T.gl _ mNot)⟩ (fun a oe cls d pn hz hf => pss_one (ps_set (i := 3) scRef.nd rfl (.inl rfl) (pe_tup (pa_cons pe_str (pa_cons (pe_xf (C := HX.ga K cNotNum.nm) (xf_of (T.rows _ mNot)) ((T.rows _ mNot).no _ (by decide +kernel)) hz hf (pv 4)) (pa_cons (pe_callB (call_isF (clsA _) hz hf) (by rfl) (T.free "isinstance" (by decide +kernel)) (by decide +kernel) (pa_cons (pv 4) (pa_cons (pe_glob (v := .ref (HX.ga K bV.nm)) (by rfl) (T.gl _ mV) rfl) pa_nil))) (pa_cons (pe_callB (call_isFT (clsA _) hz hf) (by rfl) (T.free "isinstance" (by decide +kernel)) (by decide +kernel) (pa_cons (pv 4) (pa_cons (pe_tup (pa_cons (pe_glob (v := .ref (HX.ga K bA.nm)) (by rfl) (T.gl _ mA) rfl) (pa_cons (pe_glob (v := .ref (HX.ga K bN.nm)) (by rfl) (T.gl _ mN) rfl) pa_nil))) pa_nil))) pa_nil))))) rfl (.inl rfl)))
    (.cons (c := .ref (HX.ga K cUnit.nm)) ⟨rfl, by decide, .inl (T.gl _ mUni)⟩ (fun a oe cls d pn hz hf => pss_one (ps_set (i := 3) scRef.nd rfl (.inl rfl) (pe_tup (pa_cons pe_str (pa_cons (pe_xf (C := HX.ga K cUnit.nm) (xf_of (T.rows _ mUni)) ((T.rows _ mUni).no _ (by decide +kernel)) hz hf (pv 4)) (pa_cons (pe_callB (call_isF (clsA _) hz hf) (by rfl) (T.free "isinstance" (by decide +kernel)) (by decide +kernel) (pa_cons (pv 4) (pa_cons (pe_glob (v := .ref (HX.ga K bA.nm)) (by rfl) (T.gl _ mA) rfl) pa_nil))) (pa_cons (pe_callB (call_isFT (clsA _) hz hf) (by rfl) (T.free "isinstance" (by decide +kernel)) (by decide +kernel) (pa_cons (pv 4) (pa_cons (pe_tup (pa_cons (pe_glob (v := .ref (HX.ga K bV.nm)) (by rfl) (T.gl _ mV) rfl) (pa_cons (pe_glob (v := .ref (HX.ga K bN.nm)) (by rfl) (T.gl _ mN) rfl) pa_nil))) pa_nil))) pa_nil))))) rfl (.inl rfl)))
    (.cons (c := .ref (HX.ga K cApart.nm)) ⟨rfl, by decide, .inl (T.gl _ mApa)⟩ (fun a oe cls d pn hz hf => pss_one (ps_set (i := 3) scRef.nd rfl (.inl rfl) (pe_tup (pa_cons pe_str (pa_cons (pe_xf (C := HX.ga K cApart.nm) (xf_of (T.rows _ mApa)) ((T.rows _ mApa).no _ (by decide +kernel)) hz hf (pv 4)) (pa_cons (pe_callB (call_isF (clsA _) hz hf) (by rfl) (T.free "isinstance" (by decide +kernel)) (by decide +kernel) (pa_cons (pv 4) (pa_cons (pe_glob (v := .ref (HX.ga K bA.nm)) (by rfl) (T.gl _ mA) rfl) pa_nil))) (pa_cons (pe_callB (call_isFT (clsA _) hz hf) (by rfl) (T.free "isinstance" (by decide +kernel)) (by decide +kernel) (pa_cons (pv 4) (pa_cons (pe_tup (pa_cons (pe_glob (v := .ref (HX.ga K bV.nm)) (by rfl) (T.gl _ mV) rfl) (pa_cons (pe_glob (v := .ref (HX.ga K bN.nm)) (by rfl) (T.gl _ mN) rfl) pa_nil))) pa_nil))) pa_nil))))) rfl (.inl rfl)))
    (.cons (c := .ref (HX.ga K cMany.nm)) ⟨rfl, by decide, .inl (T.gl _ mMan)⟩ (fun a oe cls d pn hz hf => pss_one (ps_set (i := 3) scRef.nd rfl (.inl rfl) (pe_tup (pa_cons pe_str (pa_cons (pe_xf (C := HX.ga K cMany.nm) (xf_of (T.rows _ mMan)) ((T.rows _ mMan).no _ (by decide +kernel)) hz hf (pv 4)) (pa_cons (pe_callB (call_isF (clsA _) hz hf) (by rfl) (T.free "isinstance" (by decide +kernel)) (by decide +kernel) (pa_cons (pv 4) (pa_cons (pe_glob (v := .ref (HX.ga K bA.nm)) (by rfl) (T.gl _ mA) rfl) pa_nil))) (pa_cons (pe_callB (call_isFT (clsA _) hz hf) (by rfl) (T.free "isinstance" (by decide +kernel)) (by decide +kernel) (pa_cons (pv 4) (pa_cons (pe_tup (pa_cons (pe_glob (v := .ref (HX.ga K bV.nm)) (by rfl) (T.gl _ mV) rfl) (pa_cons (pe_glob (v := .ref (HX.ga K bN.nm)) (by rfl) (T.gl _ mN) rfl) pa_nil))) pa_nil))) pa_nil))))) rfl (.inl rfl)))
    .nil)))))))
    (pss_one (ps_ret (pv 3)))), ?_⟩
  obtain ⟨u, x, y, rfl⟩ : ∃ u x y, vs = [u, x, y] := by
    have := hi.len
    match vs, this.trans hl with
    | [u, x, y], _ => exact ⟨u, x, y, rfl⟩
  refine ⟨u, rfl, x, rfl, y, rfl, J, ds, fun _ => Φ .non, fun c d => c ∈ errs ∧ Φ (.tup [.str c, d, .bl true, .bl false]), hj, hi, hp, fun v d H' w' i' q => ⟨_, rfl, hq .non .non H' w' .non q⟩, ?_⟩
  rintro c d H' dd fs w' hdd hxf ⟨hc, q⟩
  simp only [errs, List.mem_cons, List.not_mem_nil, or_false] at hc
  rcases hc with rfl | rfl | rfl | rfl | rfl | rfl
  · obtain ⟨v, rfl, iv⟩ := xf_one (by decide) hxf
    refine ⟨true, exm_self T mNum, fun _ a ha => by
        have ex : ∃ tl n, ExC K tl n (HX.ga K cNumber.nm) := ⟨_, _, (T.rows _ mNum).ex⟩
        refine ⟨_, rfl, rfl, rfl, dd, _, v, rfl, hdd, rfl, ?_⟩
        refine ⟨_, rfl, HX.ga K cNumber.nm, dd, _, _, _, _, rfl, rfl, rfl, ex, hdd, .own _, isa_own T mNum mV, ?_⟩
        refine ⟨_, rfl, by show 2 ≤ sizeLine; decide, fun p hpn => ?_⟩
        have w1 := w'.new (o := .tup [.ref (HX.ga K bA.nm), .ref (HX.ga K bN.nm)]) hpn
        refine ⟨HX.ga K cNumber.nm, dd, p, _, _, _, false, rfl, rfl, rfl, ex, (upd_ne (ne_of_none hdd hpn)).trans hdd, upd_same, .cons (.own _) (.cons (.own _) .nil), kitAny_cons (b := false) ((isa_own T mNum mA).trans (congrArg some (by decide))) (fun _ => kitAny_cons (b := false) ((isa_own T mNum mN).trans (congrArg some (by decide))) (fun _ => kitAny_nil) (fun z => absurd z (by decide))) (fun z => absurd z (by decide)), ?_⟩
        refine ⟨by show 4 ≤ sizeLine; decide, fun p2 hp2 => ?_⟩
        have wj := (w'.trans w1)
        have w2 := wj.new (o := .tup [.str cNumber.nm, v, .bl (isOf cNumber bV.nm), .bl false]) hp2
        refine ⟨_, rfl, hq _ (.tup [.str cNumber.nm, d, .bl true, .bl false]) _ (wj.trans w2) ?_ q⟩
        exact .tup (SqT.of upd_same) (wj.nj hp2) (.cons (.str _) (.cons ((iv.mono w1).mono w2) (.cons (.bl _) (.cons (.bl _) .nil)))), fun z => absurd z (by decide)⟩
  · obtain ⟨v, u', d1, d2, rfl, rfl, iv, iu⟩ := xf_two (by decide) hxf
    refine ⟨_, exm_own T mUnl mNum (by decide), fun z => absurd z (by decide), fun _ => ⟨true, exm_self T mUnl, fun _ a ha => by
        have ex : ∃ tl n, ExC K tl n (HX.ga K cUnlike.nm) := ⟨_, _, (T.rows _ mUnl).ex⟩
        refine ⟨_, rfl, rfl, rfl, dd, _, v, rfl, hdd, rfl, _, rfl, rfl, rfl, dd, _, u', rfl, hdd, rfl, ?_⟩
        refine ⟨by show 2 ≤ sizeLine; decide, fun p0 hp0 => ?_⟩
        have w0 := w'.new (o := .tup [v, u']) hp0
        refine ⟨_, rfl, HX.ga K cUnlike.nm, dd, _, _, _, _, rfl, rfl, rfl, ex, (upd_ne (ne_of_none hdd hp0)).trans hdd, .own _, isa_own T mUnl mV, ?_⟩
        refine ⟨_, rfl, by show 2 ≤ sizeLine; decide, fun p hpn => ?_⟩
        have w1 := (w'.trans w0).new (o := .tup [.ref (HX.ga K bA.nm), .ref (HX.ga K bN.nm)]) hpn
        have hdd1 := (upd_ne (o := .tup [v, u']) (ne_of_none hdd hp0)).trans hdd
        refine ⟨HX.ga K cUnlike.nm, dd, p, _, _, _, false, rfl, rfl, rfl, ex, (upd_ne (ne_of_none hdd1 hpn)).trans hdd1, upd_same, .cons (.own _) (.cons (.own _) .nil), kitAny_cons (b := false) ((isa_own T mUnl mA).trans (congrArg some (by decide))) (fun _ => kitAny_cons (b := false) ((isa_own T mUnl mN).trans (congrArg some (by decide))) (fun _ => kitAny_nil) (fun z => absurd z (by decide))) (fun z => absurd z (by decide)), ?_⟩
        refine ⟨by show 4 ≤ sizeLine; decide, fun p2 hp2 => ?_⟩
        have wj := (w'.trans w0).trans w1
        have w2 := wj.new (o := .tup [.str cUnlike.nm, .ref p0, .bl (isOf cUnlike bV.nm), .bl false]) hp2
        have hv : Is K J (upd H' p0 (.tup [v, u'])) (.ref p0) (.tup [d1, d2]) := .tup (SqT.of upd_same) (w'.nj hp0) (.cons (iv.mono w0) (.cons (iu.mono w0) .nil))
        refine ⟨_, rfl, hq _ (.tup [.str cUnlike.nm, .tup [d1, d2], .bl true, .bl false]) _ (wj.trans w2) ?_ q⟩
        exact .tup (SqT.of upd_same) (wj.nj hp2) (.cons (.str _) (.cons ((hv.mono w1).mono w2) (.cons (.bl _) (.cons (.bl _) .nil)))), fun z => absurd z (by decide)⟩⟩
  · obtain ⟨v, rfl, iv⟩ := xf_one (by decide) hxf
    refine ⟨_, exm_own T mNot mNum (by decide), fun z => absurd z (by decide), fun _ => ⟨_, exm_own T mNot mUnl (by decide), fun z => absurd z (by decide), fun _ => ⟨true, exm_self T mNot, fun _ a ha => by
        have ex : ∃ tl n, ExC K tl n (HX.ga K cNotNum.nm) := ⟨_, _, (T.rows _ mNot).ex⟩
        refine ⟨_, rfl, rfl, rfl, dd, _, v, rfl, hdd, rfl, ?_⟩
        refine ⟨_, rfl, HX.ga K cNotNum.nm, dd, _, _, _, _, rfl, rfl, rfl, ex, hdd, .own _, isa_own T mNot mV, ?_⟩
        refine ⟨_, rfl, by show 2 ≤ sizeLine; decide, fun p hpn => ?_⟩
        have w1 := w'.new (o := .tup [.ref (HX.ga K bA.nm), .ref (HX.ga K bN.nm)]) hpn
        refine ⟨HX.ga K cNotNum.nm, dd, p, _, _, _, false, rfl, rfl, rfl, ex, (upd_ne (ne_of_none hdd hpn)).trans hdd, upd_same, .cons (.own _) (.cons (.own _) .nil), kitAny_cons (b := false) ((isa_own T mNot mA).trans (congrArg some (by decide))) (fun _ => kitAny_cons (b := false) ((isa_own T mNot mN).trans (congrArg some (by decide))) (fun _ => kitAny_nil) (fun z => absurd z (by decide))) (fun z => absurd z (by decide)), ?_⟩
        refine ⟨by show 4 ≤ sizeLine; decide, fun p2 hp2 => ?_⟩
        have wj := (w'.trans w1)
        have w2 := wj.new (o := .tup [.str cNotNum.nm, v, .bl (isOf cNotNum bV.nm), .bl false]) hp2
        refine ⟨_, rfl, hq _ (.tup [.str cNotNum.nm, d, .bl true, .bl false]) _ (wj.trans w2) ?_ q⟩
        exact .tup (SqT.of upd_same) (wj.nj hp2) (.cons (.str _) (.cons ((iv.mono w1).mono w2) (.cons (.bl _) (.cons (.bl _) .nil)))), fun z => absurd z (by decide)⟩⟩⟩
  · obtain ⟨v, rfl, iv⟩ := xf_one (by decide) hxf
    refine ⟨_, exm_own T mUni mNum (by decide), fun z => absurd z (by decide), fun _ => ⟨_, exm_own T mUni mUnl (by decide), fun z => absurd z (by decide), fun _ => ⟨_, exm_own T mUni mNot (by decide), fun z => absurd z (by decide), fun _ => ⟨true, exm_self T mUni, fun _ a ha => by
        have ex : ∃ tl n, ExC K tl n (HX.ga K cUnit.nm) := ⟨_, _, (T.rows _ mUni).ex⟩
        refine ⟨_, rfl, rfl, rfl, dd, _, v, rfl, hdd, rfl, ?_⟩
        refine ⟨_, rfl, HX.ga K cUnit.nm, dd, _, _, _, _, rfl, rfl, rfl, ex, hdd, .own _, isa_own T mUni mA, ?_⟩
        refine ⟨_, rfl, by show 2 ≤ sizeLine; decide, fun p hpn => ?_⟩
        have w1 := w'.new (o := .tup [.ref (HX.ga K bV.nm), .ref (HX.ga K bN.nm)]) hpn
        refine ⟨HX.ga K cUnit.nm, dd, p, _, _, _, false, rfl, rfl, rfl, ex, (upd_ne (ne_of_none hdd hpn)).trans hdd, upd_same, .cons (.own _) (.cons (.own _) .nil), kitAny_cons (b := false) ((isa_own T mUni mV).trans (congrArg some (by decide))) (fun _ => kitAny_cons (b := false) ((isa_own T mUni mN).trans (congrArg some (by decide))) (fun _ => kitAny_nil) (fun z => absurd z (by decide))) (fun z => absurd z (by decide)), ?_⟩
        refine ⟨by show 4 ≤ sizeLine; decide, fun p2 hp2 => ?_⟩
        have wj := (w'.trans w1)
        have w2 := wj.new (o := .tup [.str cUnit.nm, v, .bl (isOf cUnit bA.nm), .bl false]) hp2
        refine ⟨_, rfl, hq _ (.tup [.str cUnit.nm, d, .bl true, .bl false]) _ (wj.trans w2) ?_ q⟩
        exact .tup (SqT.of upd_same) (wj.nj hp2) (.cons (.str _) (.cons ((iv.mono w1).mono w2) (.cons (.bl _) (.cons (.bl _) .nil)))), fun z => absurd z (by decide)⟩⟩⟩⟩
  · obtain ⟨v, rfl, iv⟩ := xf_one (by decide) hxf
    refine ⟨_, exm_own T mApa mNum (by decide), fun z => absurd z (by decide), fun _ => ⟨_, exm_own T mApa mUnl (by decide), fun z => absurd z (by decide), fun _ => ⟨_, exm_own T mApa mNot (by decide), fun z => absurd z (by decide), fun _ => ⟨_, exm_own T mApa mUni (by decide), fun z => absurd z (by decide), fun _ => ⟨true, exm_self T mApa, fun _ a ha => by
        have ex : ∃ tl n, ExC K tl n (HX.ga K cApart.nm) := ⟨_, _, (T.rows _ mApa).ex⟩
        refine ⟨_, rfl, rfl, rfl, dd, _, v, rfl, hdd, rfl, ?_⟩
        refine ⟨_, rfl, HX.ga K cApart.nm, dd, _, _, _, _, rfl, rfl, rfl, ex, hdd, .own _, isa_own T mApa mA, ?_⟩
        refine ⟨_, rfl, by show 2 ≤ sizeLine; decide, fun p hpn => ?_⟩
        have w1 := w'.new (o := .tup [.ref (HX.ga K bV.nm), .ref (HX.ga K bN.nm)]) hpn
        refine ⟨HX.ga K cApart.nm, dd, p, _, _, _, false, rfl, rfl, rfl, ex, (upd_ne (ne_of_none hdd hpn)).trans hdd, upd_same, .cons (.own _) (.cons (.own _) .nil), kitAny_cons (b := false) ((isa_own T mApa mV).trans (congrArg some (by decide))) (fun _ => kitAny_cons (b := false) ((isa_own T mApa mN).trans (congrArg some (by decide))) (fun _ => kitAny_nil) (fun z => absurd z (by decide))) (fun z => absurd z (by decide)), ?_⟩
        refine ⟨by show 4 ≤ sizeLine; decide, fun p2 hp2 => ?_⟩
        have wj := (w'.trans w1)
        have w2 := wj.new (o := .tup [.str cApart.nm, v, .bl (isOf cApart bA.nm), .bl false]) hp2
        refine ⟨_, rfl, hq _ (.tup [.str cApart.nm, d, .bl true, .bl false]) _ (wj.trans w2) ?_ q⟩
        exact .tup (SqT.of upd_same) (wj.nj hp2) (.cons (.str _) (.cons ((iv.mono w1).mono w2) (.cons (.bl _) (.cons (.bl _) .nil)))), fun z => absurd z (by decide)⟩⟩⟩⟩⟩
  · obtain ⟨v, rfl, iv⟩ := xf_one (by decide) hxf
    refine ⟨_, exm_own T mMan mNum (by decide), fun z => absurd z (by decide), fun _ => ⟨_, exm_own T mMan mUnl (by decide), fun z => absurd z (by decide), fun _ => ⟨_, exm_own T mMan mNot (by decide), fun z => absurd z (by decide), fun _ => ⟨_, exm_own T mMan mUni (by decide), fun z => absurd z (by decide), fun _ => ⟨_, exm_own T mMan mApa (by decide), fun z => absurd z (by decide), fun _ => ⟨true, exm_self T mMan, fun _ a ha => by
        have ex : ∃ tl n, ExC K tl n (HX.ga K cMany.nm) := ⟨_, _, (T.rows _ mMan).ex⟩
        refine ⟨_, rfl, rfl, rfl, dd, _, v, rfl, hdd, rfl, ?_⟩
        refine ⟨_, rfl, HX.ga K cMany.nm, dd, _, _, _, _, rfl, rfl, rfl, ex, hdd, .own _, isa_own T mMan mA, ?_⟩
        refine ⟨_, rfl, by show 2 ≤ sizeLine; decide, fun p hpn => ?_⟩
        have w1 := w'.new (o := .tup [.ref (HX.ga K bV.nm), .ref (HX.ga K bN.nm)]) hpn
        refine ⟨HX.ga K cMany.nm, dd, p, _, _, _, false, rfl, rfl, rfl, ex, (upd_ne (ne_of_none hdd hpn)).trans hdd, upd_same, .cons (.own _) (.cons (.own _) .nil), kitAny_cons (b := false) ((isa_own T mMan mV).trans (congrArg some (by decide))) (fun _ => kitAny_cons (b := false) ((isa_own T mMan mN).trans (congrArg some (by decide))) (fun _ => kitAny_nil) (fun z => absurd z (by decide))) (fun z => absurd z (by decide)), ?_⟩
        refine ⟨by show 4 ≤ sizeLine; decide, fun p2 hp2 => ?_⟩
        have wj := (w'.trans w1)
        have w2 := wj.new (o := .tup [.str cMany.nm, v, .bl (isOf cMany bA.nm), .bl false]) hp2
        refine ⟨_, rfl, hq _ (.tup [.str cMany.nm, d, .bl true, .bl false]) _ (wj.trans w2) ?_ q⟩
        exact .tup (SqT.of upd_same) (wj.nj hp2) (.cons (.str _) (.cons ((iv.mono w1).mono w2) (.cons (.bl _) (.cons (.bl _) .nil)))), fun z => absurd z (by decide)⟩⟩⟩⟩⟩⟩
end
end K3
set_option Elab.async false
set_option linter.all false
set_option maxRecDepth 100000
set_option maxHeartbeats 4000000

namespace PL
open PySem PySem.Spec PyProof.Rows L2 GX HX
/-- repr of data, of {} too -/
def rReprO (K : PySem.W.Frag) : List V → Hp → VK → Prop := fun xs H Q => rRepr K xs H Q ∨ ∃ a, xs = [.ref a] ∧ H a = some (.dK []) ∧ Q (.str (PyData.dict []).shown) H
theorem call_reprO {X : Cx} (hg : X.A.guards = some []) (hu : X.A.units + 64 < cLine) : CallR X (.builtin "repr") (rReprO X.K) := by
  intro pins s σ H xs us Q I r h
  rcases h with h | ⟨a, rfl, ha, q⟩
  · exact call_reprD hg hu pins s σ H xs us Q I r h
  · obtain ⟨u, rfl, ru⟩ := Vals.one r
    cases ru
    obtain ⟨_, hs, vs, kv, o, es, ep, h1, h2, h3, h4, h5, _⟩ := (show ObjOk X.prog X.w H s.heap a (.dK []) from I.hok a _ ha)
    have e0 : es.toList = [] := by
      cases kv
      cases h5' : es.toList with
      | nil => rfl
      | cons x y =>
        rw [h5'] at h5
        cases h5
    have rd : Reads s.heap (.ref a) (.dict []) [a] := .dict (as := []) (bs := []) (kvs := []) h1 h2.1 h3 (by rw [e0]; exact .nil) (by rw [e0]; exact .nil)
    refine repr_of_reads' rd (by decide) (fun _ hm => ?_) hg (by show X.A.units + (1 + 1) < cLine; omega) (fun _ _ e => e) (fun h' u tk k => ?_) (by decide)
    · rw [List.mem_singleton] at hm
      rw [hm, beq_self_eq_true] at hs
      cases hs
    · exact ⟨.str _, H, I.kept k, ⟨_, rfl⟩, q⟩
theorem rc_reprO {K : PySem.W.Frag} : RC K (rReprO K) (fun ds Φ => (∃ d p, ds = [d] ∧ toP d = some p ∧ Shw p ∧ Φ (.str p.shown)) ∨ (ds = [.dic] ∧ Φ (.str (PyData.dict []).shown))) := by
  intro J H0 H vs ds Φ w hi h Q k
  rcases h with h | ⟨rfl, q⟩
  · exact .inl (rc_repr J H0 H vs ds Φ w hi h Q k)
  · obtain ⟨v, rfl, a⟩ := hi.inv1
    cases a with
    | dic h n => exact .inr ⟨_, rfl, h, k _ _ H w.refl (.str _) q⟩
/-- {} -/
theorem q_dic {X : Cx} {J : Option Addr} {H0 : Hp} {pos : Pos} : QE X J H0 (.Dict [] [] pos) (pC .dic) := ⟨_, pe_dnewK, fun ρ Φ h σ H w e Q k => fun p hp => k _ _ _ (w.new hp) (.dic upd_same (w.nj hp)) h⟩
theorem pe_tup2 {X : Cx} {e1 e2 : Expr} {v1 v2 : V} {x1} {pos : Pos} (h1 : PE X e1 (fun _ H Q => Q v1 H)) (h2 : PE X e2 (fun _ H Q => Q v2 H)) (s1 : starEach [e1, e2] X.env = (false, eval e1 X.env) :: starEach [e2] X.env := by rfl) (s2 : starEach [e2] X.env = (false, eval e2 X.env) :: starEach [] X.env := by rfl) : PE X (.Tuple [e1, e2] x1 pos) (fun _ H Q => ∀ tp, H tp = none → Q (.ref tp) (upd H tp (.tup [v1, v2]))) :=
  ⟨fun pins s σ H Q I h => (pe_tup (pa_cons h1 (pa_cons h2 pa_nil s2) s1)).run pins s σ H Q I ⟨by show 2 ≤ sizeLine; decide, h⟩⟩
end PL
namespace K3
open PySem PySem.Spec PyProof.Rows L2 GX HX PL
/-- how one argument by name binds -/
def KwB (K : PySem.W.Frag) (fd : FuncData) (ps : List Str) (kn : Str) : Prop := ∀ (s : Shared) (us : List Value) (u : Value), K.In s.heap → us.length + 1 = ps.length → BindsTo s fd ⟨us, [(kn, u)]⟩ (ps.zip (us ++ [u]))
/-- two arguments by name, turned about -/
def KwB2 (fd : FuncData) (ps : List Str) (K : PySem.W.Frag) (k1 k2 : Str) : Prop := ∀ (s : Shared) (u v : Value), K.In s.heap → BindsTo s fd ⟨[], [(k1, u), (k2, v)]⟩ (ps.zip [v, u])
section
variable {P : Program} {w : World} {K : PySem.W.Frag} {mg : Str → Option Value} {base : Heap} {f : Addr} {fd : FuncData}
theorem gd_intW {i : Int} (h : i.natAbs.log2 < 1920) : Gd 0 2000 (.int i) := by
  refine ⟨decide_eq_true (Nat.lt_of_lt_of_le h (by decide)), rfl, ?_, Nat.le_refl _, pts_of _⟩
  exact Nat.le_trans (PyProof.Rows.int_text_len_1921 h) (by decide)
theorem gd_strW {z : Str} (hz : Pts z) (hl : z.length ≤ 5000) : Gd 0 50100 (.str z) := by
  refine ⟨rfl, rfl, ?_, Nat.le_refl _, pts_repr hz⟩
  show (reprText z).length ≤ 50100
  have := StrLaws.reprText_len z (fun c hc => Nat.lt_trans (hz c hc) (by decide))
  omega
/-! ### _law_shown -/
theorem scShown : FnScope ["_law_mine", "_law_size", "_law_by", "_law_due"] ["_law_mine", "_law_size", "_law_by"] (defScope (top 45)) := ⟨rfl, rfl, rfl, by decide +kernel, rfl, by decide +kernel, by decide +kernel⟩
def pfShown : PF := fun ds Φ _ => ∃ a m : Int, ds = [rs a m, .int a, .int m] ∧ Md m ∧ In a m ∧ Φ (.bl true)
theorem ok_shown (DF : Df K mg "_law_shown" 45 f fd) (T : Txt K mg) (B : Cl_ K mg) (SD : FShd P w K mg base) (UN : Pp P w K mg base kRs "is_unit" 1 pfUn) (TX : Pp P w K mg base kRs "text" 1 pfTx) (BO : Me P w K mg base kRs "__bool__" 1 ["self"] pfBool) : FnGP P w K mg base 3 f fd ["_law_mine", "_law_size", "_law_by"] pfShown := by
  refine fnGP DF.fn scShown (fun ds Φ Ξ h => ?_) fun cdv A outer s H E J Ξ hr hgd wok => ⟨_, (qss_cons (qs_if (qt_not (qt_val (q_isi B.ics (T.free "isinstance" (by decide +kernel)) (by rfl) (pe_glob (v := .ref (He.ga K kRs)) (by rfl) B.s.gl rfl) (.own _) B.kRs_ (qv 0)))) (qss_one (qs_ret q_bl)) qss_nil)
      (qss_cons (qs_set (i := 3) scShown.nd rfl (.inl rfl) (q_lst (qa_cons (qv 1) (qa_cons (qv 2) (qa_cons (q_cmp op_eq rd_eq (q_call SD.ok (hr.mono (by decide)) (by rfl) SD.gl SD.kp SD.bd (qa_cons (qv 1) (qa_cons (qv 2) qa_nil))) q_int (nomark _)) (qa_cons (q_BT call_str_int rc_str (T.free "str" (by decide +kernel)) (by rfl) (by decide +kernel) (qa_cons (qv 1) qa_nil)) qa_nil))))))
      (qss_cons (qs_if (qt_cmp op_ne rd_ne (q_B (call_reprD hgd hr.units) rc_repr (T.free "repr" (by decide +kernel)) (by rfl) (by decide +kernel) (qa_cons (q_lst (qa_cons (q_fld B.s.cl B.number (qv 0)) (qa_cons (q_fld B.s.cl B.modulus (qv 0)) (qa_cons (q_prop B.s.cl UN.prop UN.ok (hr.mono (by decide)) UN.bd (qv 0)) (qa_cons (q_prop B.s.cl TX.prop TX.ok (hr.mono (by decide)) TX.bd (qv 0)) qa_nil))))) qa_nil)) (q_B (call_reprD hgd hr.units) rc_repr (T.free "repr" (by decide +kernel)) (by rfl) (by decide +kernel) (qa_cons (qv 3) qa_nil)) (nomark _)) (qss_one (qs_ret q_bl)) qss_nil)
      (qss_one (qs_ret (q_cmp op_eq rd_eq (q_ifExp (qt_own B.s.oc BO.met BO.ok (hr.mono (by decide)) BO.bd (qv 0)) q_bl q_bl) (q_cmp op_ne rd_ne (qv 1) q_int (nomark _)) (nomark _))))))), fun ds Φ h => ?_⟩
  · obtain ⟨_, _, rfl, _⟩ := h
    rfl
  · obtain ⟨a, m, rfl, hm, ha, q⟩ := h
    obtain ⟨a, rfl⟩ : ∃ x : Nat, a = (x : Int) := ⟨a.toNat, by have := ha.1; omega⟩
    obtain ⟨m, rfl⟩ : ∃ x : Nat, m = (x : Int) := ⟨m.toNat, by have := hm.1; omega⟩
    simp only [startD, pSeq, pNext, pSet, pRet, pRetN, pVar, pC, pNil, pCons, pTup, pLst, pOp, dI, dI0, pTest, dEq, dNe, pAnd, pOr, pNot, pIf, pIfS, pAndV, pOrV, pCall, pMeth, pFld, pB, pChain, pNoPart, pPart, pSl, dSlS, dSlC, dM1, pFmt, pJs3, pPar, pPar3, pUnp, pJarIx, pJarSet, dIxT, dIxL, dIxS, dIxC, dCat, dRep, dAddS, dOwn2, dOwnI, dOwnR, setAll, noX, List.map_cons, List.map_nil, List.length_cons, List.length_nil, List.cons_append, List.nil_append, List.replicate, List.getElem?_cons_succ, List.getElem?_cons_zero, List.set_cons_zero, List.set_cons_succ, List.zip_cons_cons, List.zip_nil_right, List.foldl_cons, List.foldl_nil, Option.some.injEq, exists_eq_left', exists_eq_left, exists_eq_right, exists_eq, exists_eq', PL.D.int.injEq, PL.D.bl.injEq, PL.D.str.injEq, PL.D.tup.injEq, PL.D.lst.injEq, PL.D.ins.injEq, PL.D.scr.injEq, List.cons.injEq, and_true, true_and, and_self, exists_and_left, exists_and_right, reduceCtorEq, false_and, and_false, exists_false, or_false, false_or, forall_const, false_implies, true_implies, Nat.reduceAdd, Nat.reduceSub, Nat.reduceLeDiff, exists_const, if_true, if_false, Bool.false_eq_true, ne_eq, not_false_eq_true, Nat.sub_self, List.append_nil, PL.isNon_non, PL.isNon_int, PL.isNon_str, PL.isNon_tup, PL.isNon_lst, PL.isNon_bl, pNever, Bool.not_true, Bool.not_false, Int.reduceLT, Int.reduceLE,  PL.pFld, fld_num, fld_mod, ex_rs, isNon_rs, pJs2, pfShd, pfUn, pfTx, pfBool, toP, toPs, Option.map_some]
    have la := (ha.bd hm).lg (by decide) (by decide)
    have g : Shw (.list [.int (a : Int), .int (m : Int), .bool (decide (((Nat.gcd a m : Nat) : Int) = 1)), .str (toString (a : Int) : String)]) := by
      refine (gd_list (m := 0) (n := 50100) (k := 4) (ds := [.int (a : Int), .int (m : Int), .bool (decide (((Nat.gcd a m : Nat) : Int) = 1)), .str (toString (a : Int) : String)]) (fun d hd => ?_) (Nat.le_refl 4)).shw (by decide) (by decide)
      simp only [List.mem_cons, List.not_mem_nil, or_false] at hd
      rcases hd with rfl | rfl | rfl | rfl
      · exact (gd_intW la).mono (by decide) (by decide)
      · exact (gd_intW (hm.bd.lg (by decide) (by decide))).mono (by decide) (by decide)
      · exact (gd_bool _).mono (by decide) (by decide)
      · exact gd_strW (pts_of _) (Nat.le_trans (PyProof.Rows.int_text_len_1921 la) (by decide))
    refine ⟨Kd_rs.ty, fun c => (by cases c), fun _ => ⟨a, m, ⟨rfl, rfl⟩, rfl, la, _, _, rfl, _, ⟨_, rfl⟩, la, g, g, rfl, fun c => ?_, fun _ => ⟨_, ⟨_, rfl⟩, fun c => ⟨rfl, rfl, ?_⟩, fun c => ⟨rfl, rfl, ?_⟩⟩⟩⟩
    · have c2 : (!decide ((PyData.list [.int (a : Int), .int (m : Int), .bool (decide (((Nat.gcd a m : Nat) : Int) = 1)), .str (toString (a : Int) : String)]).shown = (PyData.list [.int (a : Int), .int (m : Int), .bool (decide (((Nat.gcd a m : Nat) : Int) = 1)), .str (toString (a : Int) : String)]).shown)) = true := c
      rw [decide_eq_true rfl] at c2
      cases c2
    · rw [show eqS (PL.D.bl true) (PL.D.bl (!eqS (PL.D.int (a : Int)) (PL.D.int 0))) = true from by
        show (true == !decide ((a : Int) = 0)) = true
        rw [c]
        rfl]
      exact q
    · rw [show eqS (PL.D.bl false) (PL.D.bl (!eqS (PL.D.int (a : Int)) (PL.D.int 0))) = true from by
        show (false == !decide ((a : Int) = 0)) = true
        rw [c]
        rfl]
      exact q
abbrev GShown (P : Program) (w : World) (K : PySem.W.Frag) (mg : Str → Option Value) (base : Heap) := FnG' P w K mg base "_law_shown" 3 ["_law_mine", "_law_size", "_law_by"] pfShown
/-! ### _law_called -/
theorem scCal : FnScope ["_law_way", "_law_first", "_law_second"] ["_law_way", "_law_first", "_law_second"] (defScope (top 46)) := ⟨rfl, rfl, rfl, by decide +kernel, rfl, by decide +kernel, by decide +kernel⟩
def pfUl (a b : PL.D) (Ξ : Str → PL.D → Prop) : Prop := ∃ i m j n, a = rs i m ∧ b = rs j n ∧ Md m ∧ Md n ∧ n ≠ m ∧ Ξ "Unlike" (.tup [.str (kn m), .str (kn n)])
def pfCal : PF := fun ds Φ Ξ => ∃ (n : Int) (a b : PL.D), ds = [.int n, a, b] ∧
  ((n = 0 ∧ pfSin [a, b] Φ Ξ) ∨ (n = 1 ∧ pfSin [a, b] Φ Ξ) ∨ (n = 2 ∧ pfUl a b Ξ) ∨ (n = 3 ∧ pfUl a b Ξ) ∨ (n = 4 ∧ pfUl a b Ξ) ∨ (n = 5 ∧ pfPow [a, b] Φ Ξ) ∨ (n = 6 ∧ pfInv [a] Φ Ξ) ∨ (n = 7 ∧ pfOr [a] Φ Ξ) ∨ (n = 8 ∧ pfOr [a] Φ Ξ) ∨ (n = 9 ∧ pfJn [a, b] Φ Ξ) ∨ (n = 10 ∧ pfJn [a, b] Φ Ξ))
theorem pfUl.bin {a b : PL.D} {Ξ : Str → PL.D → Prop} {ok : Int → Int → Prop} {g : Int → Int → Int} {Φ : PL.D → Prop} (h : pfUl a b Ξ) : dOwn2X kRs (pfBin ok g) Ξ a b Φ := by
  obtain ⟨i, m, j, n, rfl, rfl, hm, hn, ne, q⟩ := h
  exact ⟨_, _, rfl, rfl, i, m, _, rfl, hm, .inr ⟨j, n, rfl, hn, ne, q⟩⟩
theorem ok_cal (DF : Df K mg "_law_called" 46 f fd) (T : Txt K mg) (B : Cl_ K mg) (N : Sin P w K mg base) (AD : MM P w K mg base "__add__" pfAdd) (SU : MM P w K mg base "__sub__" pfSub) (MU : MM P w K mg base "__mul__" pfMul) (PO : Me P w K mg base kRs "power" 9 ["self", "exponent"] pfPow) (V : Me P w K mg base kRs "inverse" 7 ["self"] pfInv) (OR : FOr P w K mg base) (orK : KwB K OR.fd ["number"] "number") (JN : FJn P w K mg base) (jnK : KwB2 JN.fd ["one", "other"] K "other" "one") : FnP P w K mg base 11 f fd ["_law_way", "_law_first", "_law_second"] pfCal := by
  refine fnP DF.fn scCal (fun ds Φ Ξ h => ?_) fun cdv A outer s H E J Ξ hr wok => ⟨_, (qss_cons (qs_if (qt_cmp op_eq rd_eq (qv 0) q_int (nomark _)) (qss_one (qs_ret (q_make (dvs := []) (dds := []) N.mkr N.ok (hr.mono (by decide)) (by rfl) B.s.gl N.bd .nil (fun _ => .nil) passOwn wok (qa_cons (qv 1) (qa_cons (qv 2) qa_nil))))) qss_nil)
      (qss_cons (qs_if (qt_cmp op_eq rd_eq (qv 0) q_int (nomark _)) (qss_one (qs_ret (q_make2 N.mkr N.ok (hr.mono (by decide)) (by rfl) B.s.gl N.kb (fun _ _ _ => rfl) passOwn wok (qv 2) (qv 1)))) qss_nil)
      (qss_cons (qs_if (qt_cmp op_eq rd_eq (qv 0) q_int (nomark _)) (qss_one (qs_ret (q_own2X B.s.oc rfl AD.met AD.ok (hr.mono (by decide)) AD.bd passOwn wok (qv 1) (qv 2)))) qss_nil)
      (qss_cons (qs_if (qt_cmp op_eq rd_eq (qv 0) q_int (nomark _)) (qss_one (qs_ret (q_own2X B.s.oc rfl SU.met SU.ok (hr.mono (by decide)) SU.bd passOwn wok (qv 1) (qv 2)))) qss_nil)
      (qss_cons (qs_if (qt_cmp op_eq rd_eq (qv 0) q_int (nomark _)) (qss_one (qs_ret (q_own2X B.s.oc rfl MU.met MU.ok (hr.mono (by decide)) MU.bd passOwn wok (qv 1) (qv 2)))) qss_nil)
      (qss_cons (qs_if (qt_cmp op_eq rd_eq (qv 0) q_int (nomark _)) (qss_one (qs_ret (q_methX B.s.cl PO.met PO.ok (hr.mono (by decide)) PO.bd passOwn wok (qv 1) (qa_cons (qv 2) qa_nil)))) qss_nil)
      (qss_cons (qs_if (qt_cmp op_eq rd_eq (qv 0) q_int (nomark _)) (qss_one (qs_ret (q_meth0X B.s.cl V.met V.ok (hr.mono (by decide)) V.bd passOwn wok (qv 1)))) qss_nil)
      (qss_cons (qs_if (qt_cmp op_eq rd_eq (qv 0) q_int (nomark _)) (qss_one (qs_ret (q_callX OR.ok (hr.mono (by decide)) (by rfl) OR.gl OR.kp OR.bd passOwn wok (qa_cons (qv 1) qa_nil)))) qss_nil)
      (qss_cons (qs_if (qt_cmp op_eq rd_eq (qv 0) q_int (nomark _)) (qss_one (qs_ret (q_callKX OR.ok (hr.mono (by decide)) (by rfl) OR.gl OR.kp orK passOwn wok (qv 1)))) qss_nil)
      (qss_one (qs_ret (q_ifExp (qt_cmp op_eq rd_eq (qv 0) q_int (nomark _)) (q_callX JN.ok (hr.mono (by decide)) (by rfl) JN.gl JN.kp JN.bd passOwn wok (qa_cons (qv 1) (qa_cons (qv 2) qa_nil))) (q_callK2X JN.ok (hr.mono (by decide)) (by rfl) JN.gl JN.kp jnK passOwn wok (qv 2) (qv 1)))))))))))))), fun ds Φ h => ?_⟩
  · obtain ⟨_, _, _, rfl, _⟩ := h
    rfl
  · obtain ⟨n, a, b, rfl, h⟩ := h
    simp only [startD, pSeq, pNext, pSet, pRet, pRetN, pVar, pC, pNil, pCons, pTup, pLst, pOp, dI, dI0, pTest, dEq, dNe, pAnd, pOr, pNot, pIf, pIfS, pAndV, pOrV, pCall, pMeth, pFld, pB, pChain, pNoPart, pPart, pSl, dSlS, dSlC, dM1, pFmt, pJs3, pPar, pPar3, pUnp, pJarIx, pJarSet, dIxT, dIxL, dIxS, dIxC, dCat, dRep, dAddS, dOwn2, dOwnI, dOwnR, setAll, noX, List.map_cons, List.map_nil, List.length_cons, List.length_nil, List.cons_append, List.nil_append, List.replicate, List.getElem?_cons_succ, List.getElem?_cons_zero, List.set_cons_zero, List.set_cons_succ, List.zip_cons_cons, List.zip_nil_right, List.foldl_cons, List.foldl_nil, Option.some.injEq, exists_eq_left', exists_eq_left, exists_eq_right, exists_eq, exists_eq', PL.D.int.injEq, PL.D.bl.injEq, PL.D.str.injEq, PL.D.tup.injEq, PL.D.lst.injEq, PL.D.ins.injEq, PL.D.scr.injEq, List.cons.injEq, and_true, true_and, and_self, exists_and_left, exists_and_right, reduceCtorEq, false_and, and_false, exists_false, or_false, false_or, forall_const, false_implies, true_implies, Nat.reduceAdd, Nat.reduceSub, Nat.reduceLeDiff, exists_const, if_true, if_false, Bool.false_eq_true, ne_eq, not_false_eq_true, Nat.sub_self, List.append_nil, PL.isNon_non, PL.isNon_int, PL.isNon_str, PL.isNon_tup, PL.isNon_lst, PL.isNon_bl, pNever, Bool.not_true, Bool.not_false, Int.reduceLT, Int.reduceLE,  PL.pFld, fld_num, fld_mod, ex_rs, isNon_rs, pJs2]
    rcases h with ⟨rfl, q⟩ | ⟨rfl, q⟩ | ⟨rfl, q⟩ | ⟨rfl, q⟩ | ⟨rfl, q⟩ | ⟨rfl, q⟩ | ⟨rfl, q⟩ | ⟨rfl, q⟩ | ⟨rfl, q⟩ | ⟨rfl, q⟩ | ⟨rfl, q⟩
    · exact ⟨rfl, fun _ => q, fun c => absurd c (by decide)⟩
    · exact ⟨rfl, fun c => absurd c (by decide), fun _ => ⟨rfl, fun _ => q, fun c => absurd c (by decide)⟩⟩
    · exact ⟨rfl, fun c => absurd c (by decide), fun _ => ⟨rfl, fun c => absurd c (by decide), fun _ => ⟨rfl, fun _ => q.bin, fun c => absurd c (by decide)⟩⟩⟩
    · exact ⟨rfl, fun c => absurd c (by decide), fun _ => ⟨rfl, fun c => absurd c (by decide), fun _ => ⟨rfl, fun c => absurd c (by decide), fun _ => ⟨rfl, fun _ => q.bin, fun c => absurd c (by decide)⟩⟩⟩⟩
    · exact ⟨rfl, fun c => absurd c (by decide), fun _ => ⟨rfl, fun c => absurd c (by decide), fun _ => ⟨rfl, fun c => absurd c (by decide), fun _ => ⟨rfl, fun c => absurd c (by decide), fun _ => ⟨rfl, fun _ => q.bin, fun c => absurd c (by decide)⟩⟩⟩⟩⟩
    · exact ⟨rfl, fun c => absurd c (by decide), fun _ => ⟨rfl, fun c => absurd c (by decide), fun _ => ⟨rfl, fun c => absurd c (by decide), fun _ => ⟨rfl, fun c => absurd c (by decide), fun _ => ⟨rfl, fun c => absurd c (by decide), fun _ => ⟨rfl, fun _ => (by obtain ⟨i, m, e, e1, h⟩ := q; cases e1; exact ⟨_, rfl, rfl, i, m, _, rfl, h⟩), fun c => absurd c (by decide)⟩⟩⟩⟩⟩⟩
    · exact ⟨rfl, fun c => absurd c (by decide), fun _ => ⟨rfl, fun c => absurd c (by decide), fun _ => ⟨rfl, fun c => absurd c (by decide), fun _ => ⟨rfl, fun c => absurd c (by decide), fun _ => ⟨rfl, fun c => absurd c (by decide), fun _ => ⟨rfl, fun c => absurd c (by decide), fun _ => ⟨rfl, fun _ => (by obtain ⟨i, m, e1, h⟩ := q; cases e1; exact ⟨_, rfl, rfl, i, m, rfl, h⟩), fun c => absurd c (by decide)⟩⟩⟩⟩⟩⟩⟩
    · exact ⟨rfl, fun c => absurd c (by decide), fun _ => ⟨rfl, fun c => absurd c (by decide), fun _ => ⟨rfl, fun c => absurd c (by decide), fun _ => ⟨rfl, fun c => absurd c (by decide), fun _ => ⟨rfl, fun c => absurd c (by decide), fun _ => ⟨rfl, fun c => absurd c (by decide), fun _ => ⟨rfl, fun c => absurd c (by decide), fun _ => ⟨rfl, fun _ => q, fun c => absurd c (by decide)⟩⟩⟩⟩⟩⟩⟩⟩
    · exact ⟨rfl, fun c => absurd c (by decide), fun _ => ⟨rfl, fun c => absurd c (by decide), fun _ => ⟨rfl, fun c => absurd c (by decide), fun _ => ⟨rfl, fun c => absurd c (by decide), fun _ => ⟨rfl, fun c => absurd c (by decide), fun _ => ⟨rfl, fun c => absurd c (by decide), fun _ => ⟨rfl, fun c => absurd c (by decide), fun _ => ⟨rfl, fun c => absurd c (by decide), fun _ => ⟨rfl, fun _ => q, fun c => absurd c (by decide)⟩⟩⟩⟩⟩⟩⟩⟩⟩
    · exact ⟨rfl, fun c => absurd c (by decide), fun _ => ⟨rfl, fun c => absurd c (by decide), fun _ => ⟨rfl, fun c => absurd c (by decide), fun _ => ⟨rfl, fun c => absurd c (by decide), fun _ => ⟨rfl, fun c => absurd c (by decide), fun _ => ⟨rfl, fun c => absurd c (by decide), fun _ => ⟨rfl, fun c => absurd c (by decide), fun _ => ⟨rfl, fun c => absurd c (by decide), fun _ => ⟨rfl, fun c => absurd c (by decide), fun _ => ⟨rfl, fun _ => q, fun c => absurd c (by decide)⟩⟩⟩⟩⟩⟩⟩⟩⟩⟩
    · exact ⟨rfl, fun c => absurd c (by decide), fun _ => ⟨rfl, fun c => absurd c (by decide), fun _ => ⟨rfl, fun c => absurd c (by decide), fun _ => ⟨rfl, fun c => absurd c (by decide), fun _ => ⟨rfl, fun c => absurd c (by decide), fun _ => ⟨rfl, fun c => absurd c (by decide), fun _ => ⟨rfl, fun c => absurd c (by decide), fun _ => ⟨rfl, fun c => absurd c (by decide), fun _ => ⟨rfl, fun c => absurd c (by decide), fun _ => ⟨rfl, fun c => absurd c (by decide), fun _ => q⟩⟩⟩⟩⟩⟩⟩⟩⟩⟩
abbrev FCal (P : Program) (w : World) (K : PySem.W.Frag) (mg : Str → Option Value) (base : Heap) := Fn P w K mg base "_law_called" 11 ["_law_way", "_law_first", "_law_second"] pfCal
abbrev FRef (P : Program) (w : World) (K : PySem.W.Frag) (mg : Str → Option Value) (base : Heap) := Fn P w K mg base "_law_refused" 12 ["_law_way", "_law_first", "_law_second"] (pfRef pfCal)
/-! ### _law_is_refused -/
theorem scIrf : FnScope ["_law_way", "_law_first", "_law_second", "_law_word", "_law_odd_here", "_law_found"] ["_law_way", "_law_first", "_law_second", "_law_word", "_law_odd_here"] (defScope (top 49)) := ⟨rfl, rfl, rfl, by decide +kernel, rfl, by decide +kernel, by decide +kernel⟩
/-- what may be asked of an odd value: it is shown, a Rest or a Ratio -/
def Odd (d : PL.D) : Prop := (∃ a m : Int, d = rs a m ∧ Md m ∧ In a m) ∨ (∃ t b : Int, d = rat t b ∧ t.natAbs.log2 < 1920 ∧ b.natAbs.log2 < 1920) ∨ (gRs d = false ∧ gRat d = false ∧ Kd d ∧ ∃ p, toP d = some p ∧ Shw p) ∨ d = .dic
def pfIrf : PF := fun ds Φ _ => ∃ (n : Int) (a b o : PL.D) (z : Str), ds = [.int n, a, b, .str z, o] ∧ Odd o ∧ z ∈ errs ∧ (∀ (Φ' : PL.D → Prop) (Ξ' : Str → PL.D → Prop), Ξ' z o → pfCal [.int n, a, b] Φ' Ξ') ∧ Φ (.bl true)
theorem ok_irf (DF : Df K mg "_law_is_refused" 49 f fd) (T : Txt K mg) (B : Cl_ K mg) (RF : FRef P w K mg base) (SH : GShown P w K mg base) (RT : Pp P w K mg base kRat "text" 1 pfRtx) : FnGP P w K mg base 13 f fd ["_law_way", "_law_first", "_law_second", "_law_word", "_law_odd_here"] pfIrf := by
  refine fnGP DF.fn scIrf (fun ds Φ Ξ h => ?_) fun cdv A outer s H E J Ξ hr hgd wok => ⟨_, (qss_cons (qs_set (i := 5) scIrf.nd rfl (.inl rfl) (q_call RF.ok (hr.mono (by decide)) (by rfl) RF.gl RF.kp RF.bd (qa_cons (qv 0) (qa_cons (qv 1) (qa_cons (qv 2) qa_nil)))))
      (qss_cons (qs_if (qt_pw (qw_or (qt_isN (qv 5)) (qw_or (qt_cmp op_ne rd_ne (q_ixT (qv 5) q_int (fun _ _ => rfl)) (qv 3) (nomark _)) (qw_or (qt_not (qt_val (q_ixT (qv 5) q_int (fun _ _ => rfl)))) (qw_or1 (qt_val (q_ixT (qv 5) q_int (fun _ _ => rfl)))))))) (qss_one (qs_ret q_bl)) qss_nil)
      (qss_cons (qs_if (qt_val (q_isi B.ics (T.free "isinstance" (by decide +kernel)) (by rfl) (pe_glob (v := .ref (He.ga K kRs)) (by rfl) B.s.gl rfl) (.own _) B.kRs_ (qv 4))) (qss_one (qs_ret (q_callG SH.ok (hr.mono (by decide)) hgd (by rfl) SH.gl SH.kp SH.bd (qa_cons (q_ixT (qv 5) q_int (fun _ _ => rfl)) (qa_cons (q_fld B.s.cl B.number (qv 4)) (qa_cons (q_fld B.s.cl B.modulus (qv 4)) qa_nil)))))) qss_nil)
      (qss_cons (qs_if (qt_val (q_isi B.ics (T.free "isinstance" (by decide +kernel)) (by rfl) (pe_glob (v := .ref (He.ga K kRat)) (by rfl) B.r.gl rfl) (.own _) B.kRat_ (qv 4))) (qss_one (qs_ret (q_and (q_isi B.ics (T.free "isinstance" (by decide +kernel)) (by rfl) (pe_glob (v := .ref (He.ga K kRat)) (by rfl) B.r.gl rfl) (.own _) B.kRat_ (q_ixT (qv 5) q_int (fun _ _ => rfl))) (q_one (q_cmp op_eq rd_eq (q_prop B.r.cl RT.prop RT.ok (hr.mono (by decide)) RT.bd (q_ixT (qv 5) q_int (fun _ _ => rfl))) (q_prop B.r.cl RT.prop RT.ok (hr.mono (by decide)) RT.bd (qv 4)) (nomark _)))))) qss_nil)
      (qss_one (qs_ret (q_and (q_not (q_isiT (g := fun d => gRs d || gRat d) B.ics (T.free "isinstance" (by decide +kernel)) (by rfl) (pe_tup2 (pe_glob (v := .ref (He.ga K kRs)) (by rfl) B.s.gl rfl) (pe_glob (v := .ref (He.ga K kRat)) (by rfl) B.r.gl rfl)) (.cons (.own _) (.cons (.own _) .nil)) B.kBoth (q_ixT (qv 5) q_int (fun _ _ => rfl)))) (q_one (q_cmp op_eq rd_eq (q_B (call_reprO hgd hr.units) rc_reprO (T.free "repr" (by decide +kernel)) (by rfl) (by decide +kernel) (qa_cons (q_ixT (qv 5) q_int (fun _ _ => rfl)) qa_nil)) (q_B (call_reprO hgd hr.units) rc_reprO (T.free "repr" (by decide +kernel)) (by rfl) (by decide +kernel) (qa_cons (qv 4) qa_nil)) (nomark _)))))))))), fun ds Φ h => ?_⟩
  · obtain ⟨_, _, _, _, _, rfl, _⟩ := h
    rfl
  · obtain ⟨n, a, b, o, z, rfl, ho, hz, hp, q⟩ := h
    have nz : ∀ c : (!eqS (PL.D.str z) (PL.D.str z)) = true, False := fun c => by
      rw [show eqS (PL.D.str z) (PL.D.str z) = true from decide_eq_true rfl] at c
      cases c
    rcases ho with ⟨i, m, rfl, hm, hi⟩ | ⟨t, b', rfl, ht, hb⟩ | ⟨hg, hg2, hk, p, hp1, hp2⟩ | rfl
    · simp only [startD, pSeq, pNext, pSet, pRet, pRetN, pVar, pC, pNil, pCons, pTup, pLst, pOp, dI, dI0, pTest, dEq, dNe, pAnd, pOr, pNot, pIf, pIfS, pAndV, pOrV, pCall, pMeth, pFld, pB, pChain, pNoPart, pPart, pSl, dSlS, dSlC, dM1, pFmt, pJs3, pPar, pPar3, pUnp, pJarIx, pJarSet, dIxT, dIxL, dIxS, dIxC, dCat, dRep, dAddS, dOwn2, dOwnI, dOwnR, setAll, noX, List.map_cons, List.map_nil, List.length_cons, List.length_nil, List.cons_append, List.nil_append, List.replicate, List.getElem?_cons_succ, List.getElem?_cons_zero, List.set_cons_zero, List.set_cons_succ, List.zip_cons_cons, List.zip_nil_right, List.foldl_cons, List.foldl_nil, Option.some.injEq, exists_eq_left', exists_eq_left, exists_eq_right, exists_eq, exists_eq', PL.D.int.injEq, PL.D.bl.injEq, PL.D.str.injEq, PL.D.tup.injEq, PL.D.lst.injEq, PL.D.ins.injEq, PL.D.scr.injEq, List.cons.injEq, and_true, true_and, and_self, exists_and_left, exists_and_right, reduceCtorEq, false_and, and_false, exists_false, or_false, false_or, forall_const, false_implies, true_implies, Nat.reduceAdd, Nat.reduceSub, Nat.reduceLeDiff, exists_const, if_true, if_false, Bool.false_eq_true, ne_eq, not_false_eq_true, Nat.sub_self, List.append_nil, PL.isNon_non, PL.isNon_int, PL.isNon_str, PL.isNon_tup, PL.isNon_lst, PL.isNon_bl, pNever, Bool.not_true, Bool.not_false, Int.reduceLT, Int.reduceLE,  PL.pFld, fld_num, fld_mod, ex_rs, isNon_rs, pJs2, pfShown]
      exact ⟨rfl, hp _ _ ⟨hz, fun c => (by cases c), fun _ => ⟨_, rfl, _, rfl, rfl, fun c => (nz c).elim, fun _ => ⟨_, rfl, _, rfl, true, rfl, fun c => (by cases c), fun _ => ⟨_, rfl, _, rfl, false, rfl, fun c => (by cases c), fun _ => ⟨Kd_rs.ty, fun _ => ⟨_, rfl, _, rfl, i, m, ⟨rfl, rfl, rfl⟩, hm, hi, q⟩, fun c => (by cases c)⟩⟩⟩⟩⟩⟩
    · simp only [startD, pSeq, pNext, pSet, pRet, pRetN, pVar, pC, pNil, pCons, pTup, pLst, pOp, dI, dI0, pTest, dEq, dNe, pAnd, pOr, pNot, pIf, pIfS, pAndV, pOrV, pCall, pMeth, pFld, pB, pChain, pNoPart, pPart, pSl, dSlS, dSlC, dM1, pFmt, pJs3, pPar, pPar3, pUnp, pJarIx, pJarSet, dIxT, dIxL, dIxS, dIxC, dCat, dRep, dAddS, dOwn2, dOwnI, dOwnR, setAll, noX, List.map_cons, List.map_nil, List.length_cons, List.length_nil, List.cons_append, List.nil_append, List.replicate, List.getElem?_cons_succ, List.getElem?_cons_zero, List.set_cons_zero, List.set_cons_succ, List.zip_cons_cons, List.zip_nil_right, List.foldl_cons, List.foldl_nil, Option.some.injEq, exists_eq_left', exists_eq_left, exists_eq_right, exists_eq, exists_eq', PL.D.int.injEq, PL.D.bl.injEq, PL.D.str.injEq, PL.D.tup.injEq, PL.D.lst.injEq, PL.D.ins.injEq, PL.D.scr.injEq, List.cons.injEq, and_true, true_and, and_self, exists_and_left, exists_and_right, reduceCtorEq, false_and, and_false, exists_false, or_false, false_or, forall_const, false_implies, true_implies, Nat.reduceAdd, Nat.reduceSub, Nat.reduceLeDiff, exists_const, if_true, if_false, Bool.false_eq_true, ne_eq, not_false_eq_true, Nat.sub_self, List.append_nil, PL.isNon_non, PL.isNon_int, PL.isNon_str, PL.isNon_tup, PL.isNon_lst, PL.isNon_bl, pNever, Bool.not_true, Bool.not_false, Int.reduceLT, Int.reduceLE,  PL.pFld, fld_num, fld_mod, ex_rs, isNon_rs, pJs2, pfRtx]
      have kr : Kd (rat t b') := by show kRat ∈ owns; decide
      refine ⟨rfl, hp _ _ ⟨hz, fun c => (by cases c), fun _ => ⟨_, rfl, _, rfl, rfl, fun c => (nz c).elim, fun _ => ⟨_, rfl, _, rfl, true, rfl, fun c => (by cases c), fun _ => ⟨_, rfl, _, rfl, false, rfl, fun c => (by cases c), fun _ => ⟨kr.ty, fun c => (by cases c), fun _ => ⟨kr.ty, fun _ => ⟨_, rfl, _, rfl, kr.ty, fun _ => ?_, fun c => (by cases c)⟩, fun c => (by cases c)⟩⟩⟩⟩⟩⟩⟩
      refine ⟨_, rfl, _, rfl, ⟨_, rfl⟩, t, b', rfl, ht, hb, ⟨_, rfl⟩, t, b', rfl, ht, hb, rfl, ?_⟩
      rw [show ∀ z : Str, eqS (PL.D.str z) (PL.D.str z) = true from fun z => decide_eq_true rfl]
      exact q
    · simp only [startD, pSeq, pNext, pSet, pRet, pRetN, pVar, pC, pNil, pCons, pTup, pLst, pOp, dI, dI0, pTest, dEq, dNe, pAnd, pOr, pNot, pIf, pIfS, pAndV, pOrV, pCall, pMeth, pFld, pB, pChain, pNoPart, pPart, pSl, dSlS, dSlC, dM1, pFmt, pJs3, pPar, pPar3, pUnp, pJarIx, pJarSet, dIxT, dIxL, dIxS, dIxC, dCat, dRep, dAddS, dOwn2, dOwnI, dOwnR, setAll, noX, List.map_cons, List.map_nil, List.length_cons, List.length_nil, List.cons_append, List.nil_append, List.replicate, List.getElem?_cons_succ, List.getElem?_cons_zero, List.set_cons_zero, List.set_cons_succ, List.zip_cons_cons, List.zip_nil_right, List.foldl_cons, List.foldl_nil, Option.some.injEq, exists_eq_left', exists_eq_left, exists_eq_right, exists_eq, exists_eq', PL.D.int.injEq, PL.D.bl.injEq, PL.D.str.injEq, PL.D.tup.injEq, PL.D.lst.injEq, PL.D.ins.injEq, PL.D.scr.injEq, List.cons.injEq, and_true, true_and, and_self, exists_and_left, exists_and_right, reduceCtorEq, false_and, and_false, exists_false, or_false, false_or, forall_const, false_implies, true_implies, Nat.reduceAdd, Nat.reduceSub, Nat.reduceLeDiff, exists_const, if_true, if_false, Bool.false_eq_true, ne_eq, not_false_eq_true, Nat.sub_self, List.append_nil, PL.isNon_non, PL.isNon_int, PL.isNon_str, PL.isNon_tup, PL.isNon_lst, PL.isNon_bl, pNever, Bool.not_true, Bool.not_false, Int.reduceLT, Int.reduceLE,  PL.pFld, fld_num, fld_mod, ex_rs, isNon_rs, pJs2]
      refine ⟨rfl, hp _ _ ⟨hz, fun c => (by cases c), fun _ => ⟨_, rfl, _, rfl, rfl, fun c => (nz c).elim, fun _ => ⟨_, rfl, _, rfl, true, rfl, fun c => (by cases c), fun _ => ⟨_, rfl, _, rfl, false, rfl, fun c => (by cases c), fun _ => ⟨hk.ty, fun c => (by rw [hg] at c; cases c), fun _ => ⟨hk.ty, fun c => (by rw [hg2] at c; cases c), fun _ => ⟨_, rfl, _, rfl, hk.ty, fun c => ?_, fun _ => ?_⟩⟩⟩⟩⟩⟩⟩⟩
      · refine ⟨_, rfl, _, rfl, .inl ⟨p, hp1, hp2, .inl ⟨p, hp1, hp2, rfl, ?_⟩⟩⟩
        rw [show ∀ z : Str, eqS (PL.D.str z) (PL.D.str z) = true from fun z => decide_eq_true rfl]
        exact q
      · rename_i c
        rw [hg, hg2] at c
        cases c
    · simp only [startD, pSeq, pNext, pSet, pRet, pRetN, pVar, pC, pNil, pCons, pTup, pLst, pOp, dI, dI0, pTest, dEq, dNe, pAnd, pOr, pNot, pIf, pIfS, pAndV, pOrV, pCall, pMeth, pFld, pB, pChain, pNoPart, pPart, pSl, dSlS, dSlC, dM1, pFmt, pJs3, pPar, pPar3, pUnp, pJarIx, pJarSet, dIxT, dIxL, dIxS, dIxC, dCat, dRep, dAddS, dOwn2, dOwnI, dOwnR, setAll, noX, List.map_cons, List.map_nil, List.length_cons, List.length_nil, List.cons_append, List.nil_append, List.replicate, List.getElem?_cons_succ, List.getElem?_cons_zero, List.set_cons_zero, List.set_cons_succ, List.zip_cons_cons, List.zip_nil_right, List.foldl_cons, List.foldl_nil, Option.some.injEq, exists_eq_left', exists_eq_left, exists_eq_right, exists_eq, exists_eq', PL.D.int.injEq, PL.D.bl.injEq, PL.D.str.injEq, PL.D.tup.injEq, PL.D.lst.injEq, PL.D.ins.injEq, PL.D.scr.injEq, List.cons.injEq, and_true, true_and, and_self, exists_and_left, exists_and_right, reduceCtorEq, false_and, and_false, exists_false, or_false, false_or, forall_const, false_implies, true_implies, Nat.reduceAdd, Nat.reduceSub, Nat.reduceLeDiff, exists_const, if_true, if_false, Bool.false_eq_true, ne_eq, not_false_eq_true, Nat.sub_self, List.append_nil, PL.isNon_non, PL.isNon_int, PL.isNon_str, PL.isNon_tup, PL.isNon_lst, PL.isNon_bl, pNever, Bool.not_true, Bool.not_false, Int.reduceLT, Int.reduceLE,  PL.pFld, fld_num, fld_mod, ex_rs, isNon_rs, pJs2]
      have kd : Kd PL.D.dic := trivial
      refine ⟨rfl, hp _ _ ⟨hz, fun c => (by cases c), fun _ => ⟨_, rfl, _, rfl, rfl, fun c => (nz c).elim, fun _ => ⟨_, rfl, _, rfl, true, rfl, fun c => (by cases c), fun _ => ⟨_, rfl, _, rfl, false, rfl, fun c => (by cases c), fun _ => ⟨kd.ty, fun c => (by cases c), fun _ => ⟨kd.ty, fun c => (by cases c), fun _ => ⟨_, rfl, _, rfl, kd.ty, fun c => ?_, fun _ => ?_⟩⟩⟩⟩⟩⟩⟩⟩
      · refine ⟨_, rfl, _, rfl, .inr ⟨rfl, .inr ⟨rfl, ?_⟩⟩⟩
        rw [show ∀ z : Str, eqS (PL.D.str z) (PL.D.str z) = true from fun z => decide_eq_true rfl]
        exact q
      · rename_i c
        cases c
abbrev GIrf (P : Program) (w : World) (K : PySem.W.Frag) (mg : Str → Option Value) (base : Heap) := FnG' P w K mg base "_law_is_refused" 13 ["_law_way", "_law_first", "_law_second", "_law_word", "_law_odd_here"] pfIrf
end
end K3
set_option Elab.async false
set_option linter.all false
set_option maxRecDepth 100000
set_option maxHeartbeats 4000000

namespace PL
open PySem PySem.Spec PyProof.Rows L2 GX HX
theorem op_or {X : Cx} {g : Value → Value → Sem Value} {r r' : R2} (h : OpR X g r) (h' : OpR X g r') : OpR X g (fun x y H Q => r x y H Q ∨ r' x y H Q) := fun pins s σ H x y v u Q I rx ry z => z.elim (h pins s σ H x y v u Q I rx ry) (h' pins s σ H x y v u Q I rx ry)
theorem rd_or {K : PySem.W.Frag} {r r' : R2} {q q' : D → D → (D → Prop) → Prop} (h : RD K r q) (h' : RD K r' q') : RD K (fun x y H Q => r x y H Q ∨ r' x y H Q) (fun x y Φ => q x y Φ ∨ q' x y Φ) := fun J H0 H x y c d Φ w hx hy z Q k => z.elim (fun z => .inl (h J H0 H x y c d Φ w hx hy z Q k)) (fun z => .inr (h' J H0 H x y c d Φ w hx hy z Q k))
end PL
namespace K3
open PySem PySem.Spec PyProof.Rows L2 GX HX PL
/-- the making of ratios -/
structure Ini (P : Program) (w : World) (K : PySem.W.Frag) (mg : Str → Option Value) (base : Heap) where
  f : Addr
  fd : FuncData
  mkr : Mk K (He.ga K kRat) f
  b2 : Binds K fd ["self", "top", "bottom"] []
  du : List Value
  v1 : Vals [.int 1] du
  b1 : Binds K fd ["self", "top", "bottom"] du
  its : List Value
  kb : KBn K fd ["self", "top", "bottom"] 1 ["bottom", "top"] (fun us ws => us ++ ws.reverse) (fun vs zs => vs ++ zs.reverse)
  ok : FnOk P w K mg base (L2.CX P w) 4 f fd ["self", "top", "bottom"] (spMk K kRat pfIni)
section
variable {P : Program} {w : World} {K : PySem.W.Frag} {mg : Str → Option Value} {base : Heap} {f : Addr} {fd : FuncData}
theorem sh_one {i : Int} : sh i 1 = 1 := by
  unfold sh
  rw [if_pos (by decide)]
  show ((Nat.gcd i.natAbs 1 : Nat) : Int) = 1
  rw [Nat.gcd_one_right]
  rfl
theorem mk_one {i : Int} : mk i 1 = rat i 1 := by
  unfold mk
  rw [sh_one, Int.fdiv_one, Int.fdiv_one]
theorem ini_ok {i j : Int} {Φ : PL.D → Prop} {Ξ : Str → PL.D → Prop} (h : j ≠ 0) (hb : Bd 8900 j) (q : Φ (mk i j)) : pfIni [.int i, .int j] Φ Ξ := ⟨_, _, rfl, trivial, trivial, .inl ⟨i, j, rfl, rfl, h, hb, q⟩⟩
theorem all_true : ∀ {n : Nat} {ys : List PL.D}, ys.length = n → (∀ (j : Nat) (y : PL.D), ys[j]? = some y → y = .bl true) → ys = List.replicate n (.bl true)
  | 0, [], _, _ => rfl
  | n + 1, y :: ys, hl, h => by
    rw [List.replicate_succ, h 0 y rfl, all_true (Nat.succ.inj hl) fun j z hz => h (j + 1) z hz]
theorem kd_of {d : PL.D} {T : String} (h : bT d = some T) : Kd d := by
  cases d <;> first | exact trivial | cases h
theorem go_of {d : PL.D} {T : String} (h : bT d = some T) : gRs d = false := by
  cases d <;> first | rfl | cases h
theorem Kd_rat {t b : Int} : Kd (rat t b) := by show kRat ∈ owns; decide
/-! ### _law_odd -/
theorem scOdd : FnScope ["_law_source_here"] ["_law_source_here"] (defScope (top 50)) := ⟨rfl, rfl, rfl, by decide +kernel, rfl, by decide +kernel, by decide +kernel⟩
def menuO : List PL.D := [.bl true, .bl false, .non, .str ("" : Str), .str ("1" : Str), .str ("rest 5" : Str), .tup [], .tup [.int 1, .int 2], .lst [], .lst [.int 1], .dic, rat 3 1]
def pfOdd : PF := fun ds Φ _ => ds = [.jar] ∧ ∀ d ∈ menuO, Φ d
theorem ok_odd (DF : Df K mg "_law_odd" 50 f fd) (T : Txt K mg) (B : Cl_ K mg) (NR : Ini P w K mg base) (PK : FPick P w K mg base) : FnP P w K mg base 6 f fd ["_law_source_here"] pfOdd := by
  refine fnP DF.fn scOdd (fun ds Φ Ξ h => ?_) fun cdv A outer s H E J Ξ hr wok => ⟨_, (qss_one (qs_ret (q_call PK.ok (hr.mono (by decide)) (by rfl) PK.gl PK.kp PK.bd (qa_cons (qv 0) (qa_cons (q_lst (qa_cons q_bl (qa_cons q_bl (qa_cons q_non (qa_cons q_str (qa_cons q_str (qa_cons q_str (qa_cons (q_tup qa_nil) (qa_cons (q_tup (qa_cons q_int (qa_cons q_int qa_nil))) (qa_cons (q_lst qa_nil) (qa_cons (q_lst (qa_cons q_int qa_nil)) (qa_cons q_dic (qa_cons (q_make (dvs := []) (dds := []) NR.mkr NR.ok (hr.mono (by decide)) (by rfl) B.r.gl NR.b2 .nil (fun _ => .nil) pass00 wok0 (qa_cons q_int (qa_cons q_int qa_nil))) qa_nil))))))))))))) qa_nil))))), fun ds Φ h => ?_⟩
  · obtain ⟨rfl, _⟩ := h
    rfl
  · obtain ⟨rfl, q⟩ := h
    simp only [startD, pSeq, pNext, pSet, pRet, pRetN, pVar, pC, pNil, pCons, pTup, pLst, pOp, dI, dI0, pTest, dEq, dNe, pAnd, pOr, pNot, pIf, pIfS, pAndV, pOrV, pCall, pMeth, pFld, pB, pChain, pNoPart, pPart, pSl, dSlS, dSlC, dM1, pFmt, pJs3, pPar, pPar3, pUnp, pJarIx, pJarSet, dIxT, dIxL, dIxS, dIxC, dCat, dRep, dAddS, dOwn2, dOwnI, dOwnR, setAll, noX, List.map_cons, List.map_nil, List.length_cons, List.length_nil, List.cons_append, List.nil_append, List.replicate, List.getElem?_cons_succ, List.getElem?_cons_zero, List.set_cons_zero, List.set_cons_succ, List.zip_cons_cons, List.zip_nil_right, List.foldl_cons, List.foldl_nil, Option.some.injEq, exists_eq_left', exists_eq_left, exists_eq_right, exists_eq, exists_eq', PL.D.int.injEq, PL.D.bl.injEq, PL.D.str.injEq, PL.D.tup.injEq, PL.D.lst.injEq, PL.D.ins.injEq, PL.D.scr.injEq, List.cons.injEq, and_true, true_and, and_self, exists_and_left, exists_and_right, reduceCtorEq, false_and, and_false, exists_false, or_false, false_or, forall_const, false_implies, true_implies, Nat.reduceAdd, Nat.reduceSub, Nat.reduceLeDiff, exists_const, if_true, if_false, Bool.false_eq_true, ne_eq, not_false_eq_true, Nat.sub_self, List.append_nil, PL.isNon_non, PL.isNon_int, PL.isNon_str, PL.isNon_tup, PL.isNon_lst, PL.isNon_bl, pNever, Bool.not_true, Bool.not_false, Int.reduceLT, Int.reduceLE,  PL.pFld, fld_num, fld_mod, ex_rs, isNon_rs, pJs2]
    refine ini_ok (by decide) (by show (1 : Int).natAbs < 2 ^ 8900; exact Nat.one_lt_two_pow (by decide)) ?_
    rw [mk_one]
    exact ⟨menuO, rfl, by decide, by decide, q⟩
abbrev FOdd (P : Program) (w : World) (K : PySem.W.Frag) (mg : Str → Option Value) (base : Heap) := Fn P w K mg base "_law_odd" 6 ["_law_source_here"] pfOdd
theorem menu_kd : ∀ d ∈ menuO, Kd d := by
  intro d hd
  simp only [menuO, List.mem_cons, List.not_mem_nil, or_false] at hd
  rcases hd with rfl | rfl | rfl | rfl | rfl | rfl | rfl | rfl | rfl | rfl | rfl | rfl <;> first | exact trivial | exact Kd_rat
theorem menu_wh : ∀ d ∈ menuO, wh d = false := by
  intro d hd
  simp only [menuO, List.mem_cons, List.not_mem_nil, or_false] at hd
  rcases hd with rfl | rfl | rfl | rfl | rfl | rfl | rfl | rfl | rfl | rfl | rfl | rfl <;> rfl
theorem menu_rs : ∀ d ∈ menuO, gRs d = false := by
  intro d hd
  simp only [menuO, List.mem_cons, List.not_mem_nil, or_false] at hd
  rcases hd with rfl | rfl | rfl | rfl | rfl | rfl | rfl | rfl | rfl | rfl | rfl | rfl <;> rfl
theorem shw_i (i : Int) (h : i.natAbs.log2 < 1920) : Shw (.int i) := (gd_intW h).shw (by decide) (by decide)
theorem shw_s (z : String) (h : (z : Str).length ≤ 5000) : Shw (.str z) := (gd_strW (pts_of _) h).shw (by decide) (by decide)
theorem menu_odd : ∀ d ∈ menuO, Odd d := by
  intro d hd
  simp only [menuO, List.mem_cons, List.not_mem_nil, or_false] at hd
  have go : ∀ {d : PL.D} {p : PyData}, gRs d = false → gRat d = false → Kd d → toP d = some p → Shw p → Odd d := fun a b c e g => .inr (.inr (.inl ⟨a, b, c, _, e, g⟩))
  have gi : ∀ i : Int, i.natAbs < 4 → Gd 0 2000 (.int i) := fun i h => gd_intW (Bd.lg (n := 2) h (by decide) (by decide))
  rcases hd with rfl | rfl | rfl | rfl | rfl | rfl | rfl | rfl | rfl | rfl | rfl | rfl
  · exact go rfl rfl trivial rfl ((gd_bool _).shw (by decide) (by decide))
  · exact go rfl rfl trivial rfl ((gd_bool _).shw (by decide) (by decide))
  · exact go rfl rfl trivial rfl (gd_none.shw (by decide) (by decide))
  · exact go rfl rfl trivial rfl (shw_s "" (by decide))
  · exact go rfl rfl trivial rfl (shw_s "1" (by decide))
  · exact go rfl rfl trivial rfl (shw_s "rest 5" (by decide))
  · exact go rfl rfl trivial rfl ((gd_tup (m := 0) (n := 0) (k := 0) (ds := []) (fun d hd => nomatch hd) (Nat.le_refl _)).shw (by decide) (by decide))
  · refine go rfl rfl trivial rfl ((gd_tup (m := 0) (n := 2000) (k := 2) (ds := [.int 1, .int 2]) (fun d hd => ?_) (Nat.le_refl _)).shw (by decide) (by decide))
    simp only [List.mem_cons, List.not_mem_nil, or_false] at hd
    rcases hd with rfl | rfl <;> exact gi _ (by decide)
  · exact go rfl rfl trivial rfl ((gd_list (m := 0) (n := 0) (k := 0) (ds := []) (fun d hd => nomatch hd) (Nat.le_refl _)).shw (by decide) (by decide))
  · refine go rfl rfl trivial rfl ((gd_list (m := 0) (n := 2000) (k := 1) (ds := [.int 1]) (fun d hd => ?_) (Nat.le_refl _)).shw (by decide) (by decide))
    simp only [List.mem_cons, List.not_mem_nil, or_false] at hd
    subst hd
    exact gi _ (by decide)
  · exact .inr (.inr (.inr rfl))
  · exact .inr (.inl ⟨3, 1, rfl, by decide, by decide⟩)
/-! ### _law_by_sign -/
abbrev MPw2 (P : Program) (w : World) (K : PySem.W.Frag) (mg : Str → Option Value) (base : Heap) := Me P w K mg base kRs "__pow__" 10 ["self", "other"] pfPow
abbrev MPow (P : Program) (w : World) (K : PySem.W.Frag) (mg : Str → Option Value) (base : Heap) := Me P w K mg base kRs "power" 9 ["self", "exponent"] pfPow
theorem scBys : FnScope ["_law_mine", "_law_often"] ["_law_mine", "_law_often"] (defScope (top 47)) := ⟨rfl, rfl, rfl, by decide +kernel, rfl, by decide +kernel, by decide +kernel⟩
def pfBys : PF := fun ds Φ _ => ∃ a m n : Int, ds = [rs a m, .int n] ∧ pfPow [rs a m, .int n] Φ noX
theorem ok_bys (DF : Df K mg "_law_by_sign" 47 f fd) (T : Txt K mg) (B : Cl_ K mg) (PO : MPow P w K mg base) (PW : MPw2 P w K mg base) : FnP P w K mg base 12 f fd ["_law_mine", "_law_often"] pfBys := by
  refine fnP DF.fn scBys (fun ds Φ Ξ h => ?_) fun cdv A outer s H E J Ξ hr wok => ⟨_, (qss_cons (qs_if (qt_cmp op_eq rd_eq (qv 1) q_int (nomark _)) (qss_one (qs_ret (q_op (op_ownI (fo := some (.builtin "int.__pow__")) (ro := some (.builtin "int.__rpow__")) (rc := none) (sym := _) (nm := "pow") B.s.oc (by rfl) PW.met PW.ok (hr.mono (by decide)) PW.bd B.rp (.inl rfl) (by kernel_rfl) (by kernel_rfl)) rd_ownI (qv 0) q_int))) qss_nil)
      (qss_cons (qs_if (qt_cmp op_eq rd_eq (qv 1) q_int (nomark _)) (qss_one (qs_ret (q_op (op_ownI (fo := some (.builtin "int.__pow__")) (ro := some (.builtin "int.__rpow__")) (rc := none) (sym := _) (nm := "pow") B.s.oc (by rfl) PW.met PW.ok (hr.mono (by decide)) PW.bd B.rp (.inl rfl) (by kernel_rfl) (by kernel_rfl)) rd_ownI (qv 0) q_int))) qss_nil)
      (qss_cons (qs_if (qt_cmp op_eq rd_eq (qv 1) q_int (nomark _)) (qss_one (qs_ret (q_op (op_ownI (fo := some (.builtin "int.__pow__")) (ro := some (.builtin "int.__rpow__")) (rc := none) (sym := _) (nm := "pow") B.s.oc (by rfl) PW.met PW.ok (hr.mono (by decide)) PW.bd B.rp (.inl rfl) (by kernel_rfl) (by kernel_rfl)) rd_ownI (qv 0) q_int))) qss_nil)
      (qss_cons (qs_if (qt_cmp op_eq rd_eq (qv 1) q_int (nomark _)) (qss_one (qs_ret (q_op (op_ownI (fo := some (.builtin "int.__pow__")) (ro := some (.builtin "int.__rpow__")) (rc := none) (sym := _) (nm := "pow") B.s.oc (by rfl) PW.met PW.ok (hr.mono (by decide)) PW.bd B.rp (.inl rfl) (by kernel_rfl) (by kernel_rfl)) rd_ownI (qv 0) q_int))) qss_nil)
      (qss_cons (qs_if (qt_cmp op_eq rd_eq (qv 1) q_int (nomark _)) (qss_one (qs_ret (q_op (op_ownI (fo := some (.builtin "int.__pow__")) (ro := some (.builtin "int.__rpow__")) (rc := none) (sym := _) (nm := "pow") B.s.oc (by rfl) PW.met PW.ok (hr.mono (by decide)) PW.bd B.rp (.inl rfl) (by kernel_rfl) (by kernel_rfl)) rd_ownI (qv 0) q_int))) qss_nil)
      (qss_one (qs_ret (q_ifExp (qt_cmp op_eq rd_eq (qv 1) q_int (nomark _)) (q_op (op_ownI (fo := some (.builtin "int.__pow__")) (ro := some (.builtin "int.__rpow__")) (rc := none) (sym := _) (nm := "pow") B.s.oc (by rfl) PW.met PW.ok (hr.mono (by decide)) PW.bd B.rp (.inl rfl) (by kernel_rfl) (by kernel_rfl)) rd_ownI (qv 0) q_int) (q_methX B.s.cl PO.met PO.ok (hr.mono (by decide)) PO.bd pass00 wok0 (qv 0) (qa_cons (qv 1) qa_nil)))))))))), fun ds Φ h => ?_⟩
  · obtain ⟨_, _, _, rfl, _⟩ := h
    rfl
  · obtain ⟨t, b, n, rfl, h⟩ := h
    simp only [startD, pSeq, pNext, pSet, pRet, pRetN, pVar, pC, pNil, pCons, pTup, pLst, pOp, dI, dI0, pTest, dEq, dNe, pAnd, pOr, pNot, pIf, pIfS, pAndV, pOrV, pCall, pMeth, pFld, pB, pChain, pNoPart, pPart, pSl, dSlS, dSlC, dM1, pFmt, pJs3, pPar, pPar3, pUnp, pJarIx, pJarSet, dIxT, dIxL, dIxS, dIxC, dCat, dRep, dAddS, dOwn2, dOwnI, dOwnR, setAll, noX, List.map_cons, List.map_nil, List.length_cons, List.length_nil, List.cons_append, List.nil_append, List.replicate, List.getElem?_cons_succ, List.getElem?_cons_zero, List.set_cons_zero, List.set_cons_succ, List.zip_cons_cons, List.zip_nil_right, List.foldl_cons, List.foldl_nil, Option.some.injEq, exists_eq_left', exists_eq_left, exists_eq_right, exists_eq, exists_eq', PL.D.int.injEq, PL.D.bl.injEq, PL.D.str.injEq, PL.D.tup.injEq, PL.D.lst.injEq, PL.D.ins.injEq, PL.D.scr.injEq, List.cons.injEq, and_true, true_and, and_self, exists_and_left, exists_and_right, reduceCtorEq, false_and, and_false, exists_false, or_false, false_or, forall_const, false_implies, true_implies, Nat.reduceAdd, Nat.reduceSub, Nat.reduceLeDiff, exists_const, if_true, if_false, Bool.false_eq_true, ne_eq, not_false_eq_true, Nat.sub_self, List.append_nil, PL.isNon_non, PL.isNon_int, PL.isNon_str, PL.isNon_tup, PL.isNon_lst, PL.isNon_bl, pNever, Bool.not_true, Bool.not_false, Int.reduceLT, Int.reduceLE,  PL.pFld, fld_num, fld_mod, ex_rs, isNon_rs, pJs2]
    have e : ∀ k : Int, eqS (PL.D.int n) (PL.D.int k) = true → pfPow [rs t b, .int k] Φ noX := fun k c => by
      have : n = k := of_decide_eq_true c
      rw [← this]
      exact h
    exact ⟨rfl, e 0, fun _ => ⟨rfl, e 1, fun _ => ⟨rfl, e 2, fun _ => ⟨rfl, e 3, fun _ => ⟨rfl, e 8, fun _ => ⟨rfl, e 64, fun _ => ⟨_, rfl, rfl, h⟩⟩⟩⟩⟩⟩⟩
abbrev FBys (P : Program) (w : World) (K : PySem.W.Frag) (mg : Str → Option Value) (base : Heap) := Fn P w K mg base "_law_by_sign" 12 ["_law_mine", "_law_often"] pfBys
end
end K3
set_option Elab.async false
set_option linter.all false
set_option maxRecDepth 100000
set_option maxHeartbeats 4000000

namespace K3
open PySem PySem.Spec PyProof.Rows L2 GX HX PL
section
variable {P : Program} {w : World} {K : PySem.W.Frag} {mg : Str → Option Value} {base : Heap} {f : Addr} {fd : FuncData}
theorem tn2 : Int.toNat 2 = 2 := rfl
theorem tn10 : Int.toNat 10 = 10 := rfl
theorem bin_ok {ok : Int → Int → Prop} {g : Int → Int → Int} {a m i : Int} {o : PL.D} {Φ : PL.D → Prop} {Ξ : Str → PL.D → Prop} (hm : Md m) (ho : o = .int i ∨ o = rs i m) (h : ok a i) (q : Φ (rs (g a i % m) m)) : pfBin ok g [rs a m, o] Φ Ξ := ⟨a, m, o, rfl, hm, .inl ⟨i, ho, h, q⟩⟩
theorem at_map {g : Int → PL.D} {L : List Int} {j : Nat} (h : j < L.length) : atI (L.map g) (j : Int) = some (g L[j]) := atI_nat (by rw [List.getElem?_map, List.getElem?_eq_getElem h]; rfl)
/-! ### _law_signs_right -/
theorem scSig : FnScope ["_law_mine", "_law_mate", "_law_ours", "_law_theirs", "_law_by", "_law_whole_here", "_law_told", "_law_due", "_law_at", "_law_is_same", "_law_each"] ["_law_mine", "_law_mate", "_law_ours", "_law_theirs", "_law_by", "_law_whole_here"] (defScope (top 51)) := ⟨rfl, rfl, rfl, by decide +kernel, rfl, by decide +kernel, by decide +kernel⟩
def pfSig : PF := fun ds Φ _ => ∃ a b m i : Int, ds = [rs a m, rs b m, .int a, .int b, .int m, .int i] ∧ Md m ∧ In a m ∧ In b m ∧ Bd 181 i ∧ Φ (.bl true)
theorem ok_sig (DF : Df K mg "_law_signs_right" 51 f fd) (T : Txt K mg) (B : Cl_ K mg) (N : Sin P w K mg base) (NR : Ini P w K mg base) (AD : MM P w K mg base "__add__" pfAdd) (SU : MM P w K mg base "__sub__" pfSub) (MU : MM P w K mg base "__mul__" pfMul) (RA : MM P w K mg base "__radd__" pfRad) (RS : MM P w K mg base "__rsub__" pfRsu) (RM : MM P w K mg base "__rmul__" pfRmu)
    (NG : Me P w K mg base kRs "__neg__" 7 ["self"] pfNeg) (EQ : Me P w K mg base kRs "__eq__" 1 ["self", "other"] pfEq) (RQ : Me P w K mg base kRat "__eq__" 1 ["self", "other"] pfReq) (TX : Pp P w K mg base kRs "text" 1 pfTx) (SH : GShown P w K mg base) :
    FnGP P w K mg base 12 f fd ["_law_mine", "_law_mate", "_law_ours", "_law_theirs", "_law_by", "_law_whole_here"] pfSig := by
  refine fnGP DF.fn scSig (fun ds Φ Ξ h => ?_) fun cdv A outer s H E J Ξ hr hgd wok => ⟨_, (qss_cons (qs_set (i := 6) scSig.nd rfl (.inr rfl) (q_lst (qa_cons (q_op (op_own2 (sym := "+") (nm := "add") B.s.oc (by rfl) AD.met AD.ok (hr.mono (by decide)) AD.bd) rd_own2 (qv 0) (qv 1)) (qa_cons (q_op (op_own2 (sym := "-") (nm := "sub") B.s.oc (by rfl) SU.met SU.ok (hr.mono (by decide)) SU.bd) rd_own2 (qv 0) (qv 1)) (qa_cons (q_op (op_own2 (sym := "*") (nm := "mul") B.s.oc (by rfl) MU.met MU.ok (hr.mono (by decide)) MU.bd) rd_own2 (qv 0) (qv 1)) (qa_cons (q_negOwn B.s.oc NG.met NG.ok (hr.mono (by decide)) NG.bd (qv 0)) (qa_cons (q_op (op_ownI (fo := some (.builtin "int.__add__")) (ro := some (.builtin "int.__radd__")) (sym := "+") (nm := "add") B.s.oc (by rfl) AD.met AD.ok (hr.mono (by decide)) AD.bd RA.met.at_ (.inr ⟨_, rfl⟩) (by kernel_rfl) (by kernel_rfl)) rd_ownI (qv 0) (qv 5)) (qa_cons (q_op (op_ownR (sym := "+") (nm := "add") B.s.oc (by rfl) RA.met RA.ok (hr.mono (by decide)) RA.bd F.slot_int_add (fun _ _ _ _ _ h => dec_add h) F.fills_int_add AD.met.at_) rd_ownR (qv 5) (qv 0)) qa_nil))))))))
      (qss_cons (qs_set (i := 6) scSig.nd rfl (.inr rfl) (q_cat (qv 6) (q_lst (qa_cons (q_op (op_ownI (fo := some (.builtin "int.__sub__")) (ro := some (.builtin "int.__rsub__")) (sym := "-") (nm := "sub") B.s.oc (by rfl) SU.met SU.ok (hr.mono (by decide)) SU.bd RS.met.at_ (.inr ⟨_, rfl⟩) (by kernel_rfl) (by kernel_rfl)) rd_ownI (qv 0) (qv 5)) (qa_cons (q_op (op_ownR (sym := "-") (nm := "sub") B.s.oc (by rfl) RS.met RS.ok (hr.mono (by decide)) RS.bd F.slot_int_sub (fun _ _ _ _ _ h => dec_sub h) F.fills_int_sub SU.met.at_) rd_ownR (qv 5) (qv 0)) (qa_cons (q_op (op_ownI (fo := some (.builtin "int.__mul__")) (ro := some (.builtin "int.__rmul__")) (sym := "*") (nm := "mul") B.s.oc (by rfl) MU.met MU.ok (hr.mono (by decide)) MU.bd RM.met.at_ (.inr ⟨_, rfl⟩) (by kernel_rfl) (by kernel_rfl)) rd_ownI (qv 0) (qv 5)) (qa_cons (q_op (op_ownR (sym := "*") (nm := "mul") B.s.oc (by rfl) RM.met RM.ok (hr.mono (by decide)) RM.bd F.slot_int_mul (fun _ _ _ _ _ h => dec_mul h) F.fills_int_mul MU.met.at_) rd_ownR (qv 5) (qv 0)) qa_nil)))))))
      (qss_cons (qs_set (i := 7) scSig.nd rfl (.inr rfl) (q_lst (qa_cons (q_add (qv 2) (qv 3)) (qa_cons (q_sub (qv 2) (qv 3)) (qa_cons (q_mul (qv 2) (qv 3)) (qa_cons (q_neg (qv 2)) (qa_cons (q_add (qv 2) (qv 5)) (qa_cons (q_add (qv 2) (qv 5)) qa_nil))))))))
      (qss_cons (qs_set (i := 7) scSig.nd rfl (.inr rfl) (q_cat (qv 7) (q_lst (qa_cons (q_sub (qv 2) (qv 5)) (qa_cons (q_sub (qv 5) (qv 2)) (qa_cons (q_mul (qv 2) (qv 5)) (qa_cons (q_mul (qv 2) (qv 5)) qa_nil)))))))
      (qss_cons (qs_if (qt_cmp (op_neD hr.units) rd_neD (q_lc (i := 8) rfl scSig.nd (qi_range (T.free "range" (by decide +kernel)) (by rfl) (qa_cons q_int qa_nil)) (blkOk_by (N := ["_law_mine", "_law_mate", "_law_ours", "_law_theirs", "_law_by", "_law_whole_here", "_law_told", "_law_due", "_law_at", "_law_is_same", "_law_each"]) (sc := defScope (top 51)) (by decide +kernel)) (fun _ _ _ _ _ => pg_name (i := 8) scSig.nd rfl (.inl rfl)) (fun _ _ _ _ _ => (q_callG SH.ok (hr.mono (by decide)) hgd (by rfl) SH.gl SH.kp SH.bd (qa_cons (q_ixL (qv 6) (qv 8) (fun _ _ => rfl)) (qa_cons (q_mod (q_BT call_int1 rc_int1 (T.free "int" (by decide +kernel)) (by rfl) (by decide +kernel) (qa_cons (q_ixL (qv 7) (qv 8) (fun _ _ => rfl)) qa_nil)) (qv 4)) (qa_cons (qv 4) qa_nil)))))) (q_rep (q_lst (qa_cons q_bl qa_nil)) q_int) (nomark _)) (qss_one (qs_ret q_bl)) qss_nil)
      (qss_cons (qs_set (i := 9) scSig.nd rfl (.inl rfl) (q_cmp op_eq rd_eq (qv 2) (qv 3) (nomark _)))
      (qss_cons (qs_if (qt_cmp (op_neD hr.units) rd_neD (q_lst (qa_cons (q_cmp (op_eqL B.s.oc EQ.met EQ.ok (hr.mono (by decide)) EQ.bd false) rd_eqL (qv 0) (qv 1) (nomark _)) (qa_cons (q_cmp (op_eqL B.s.oc EQ.met EQ.ok (hr.mono (by decide)) EQ.bd true) rd_eqL (qv 0) (qv 1) (nomark _)) (qa_cons (q_cmp (op_eqL B.s.oc EQ.met EQ.ok (hr.mono (by decide)) EQ.bd false) rd_eqL (qv 0) (qv 0) (nomark _)) (qa_cons (q_cmp (op_eqL B.s.oc EQ.met EQ.ok (hr.mono (by decide)) EQ.bd true) rd_eqL (qv 0) (qv 0) (nomark _)) qa_nil))))) (q_lst (qa_cons (qv 9) (qa_cons (q_not (qv 9)) (qa_cons q_bl (qa_cons q_bl qa_nil))))) (nomark _)) (qss_one (qs_ret q_bl)) qss_nil)
      (qss_cons (qs_for (i := 10) (passes_of rfl) rfl (qi_list (q_lst (qa_cons (qv 2) (qa_cons (qv 5) (qa_cons (q_prop B.s.cl TX.prop TX.ok (hr.mono (by decide)) TX.bd (qv 0)) (qa_cons (q_tup (qa_cons (qv 2) (qa_cons (qv 4) qa_nil))) (qa_cons (q_lst (qa_cons (qv 2) qa_nil)) (qa_cons q_non (qa_cons q_bl (qa_cons q_str (qa_cons (q_make (dvs := [.int 1]) (dds := [.int 1]) NR.mkr NR.ok (hr.mono (by decide)) (by rfl) B.r.gl NR.b1 NR.v1 (fun _ => .cons (.int 1) .nil) pass00 wok0 (qa_cons (qv 2) qa_nil)) qa_nil))))))))))) scSig.nd rfl (.inl rfl) (qss_one (qs_if (qt_cmp (op_neD hr.units) rd_neD (q_lst (qa_cons (q_cmp (op_or (op_eqL B.s.oc EQ.met EQ.ok (hr.mono (by decide)) EQ.bd false) (op_eqO (c2 := kRat) B.s.oc B.brs EQ.met EQ.ok (hr.mono (by decide)) EQ.bd false)) (rd_or rd_eqL rd_eqO) (qv 0) (qv 10) (nomark _)) (qa_cons (q_cmp (op_or (op_eqL B.s.oc EQ.met EQ.ok (hr.mono (by decide)) EQ.bd true) (op_eqO (c2 := kRat) B.s.oc B.brs EQ.met EQ.ok (hr.mono (by decide)) EQ.bd true)) (rd_or rd_eqL rd_eqO) (qv 0) (qv 10) (nomark _)) (qa_cons (q_cmp (op_or (op_eqR B.s.oc EQ.met EQ.ok (hr.mono (by decide)) EQ.bd false) (op_eqO (c2 := kRs) B.r.oc B.bsr RQ.met RQ.ok (hr.mono (by decide)) RQ.bd false)) (rd_or rd_eqR rd_eqO) (qv 10) (qv 0) (nomark _)) (qa_cons (q_cmp (op_or (op_eqR B.s.oc EQ.met EQ.ok (hr.mono (by decide)) EQ.bd true) (op_eqO (c2 := kRs) B.r.oc B.bsr RQ.met RQ.ok (hr.mono (by decide)) RQ.bd true)) (rd_or rd_eqR rd_eqO) (qv 10) (qv 0) (nomark _)) qa_nil))))) (q_lst (qa_cons q_bl (qa_cons q_bl (qa_cons q_bl (qa_cons q_bl qa_nil))))) (nomark _)) (qss_one (qs_ret q_bl)) qss_nil)))
      (qss_one (qs_ret (q_and (q_cmp (op_eqL B.s.oc EQ.met EQ.ok (hr.mono (by decide)) EQ.bd false) rd_eqL (qv 0) (q_make (dvs := []) (dds := []) N.mkr N.ok (hr.mono (by decide)) (by rfl) B.s.gl N.bd .nil (fun _ => .nil) pass00 wok0 (qa_cons (q_add (qv 2) (qv 4)) (qa_cons (qv 4) qa_nil))) (nomark _)) (q_one (q_cmp (op_eqL B.s.oc EQ.met EQ.ok (hr.mono (by decide)) EQ.bd false) rd_eqL (qv 0) (q_make (dvs := []) (dds := []) N.mkr N.ok (hr.mono (by decide)) (by rfl) B.s.gl N.bd .nil (fun _ => .nil) pass00 wok0 (qa_cons (q_sub (qv 2) (q_mul q_int (qv 4))) (qa_cons (qv 4) qa_nil))) (nomark _)))))))))))))), fun ds Φ h => ?_⟩
  · obtain ⟨_, _, _, _, rfl, _⟩ := h
    rfl
  · obtain ⟨a, b, m, i, rfl, hm, ha, hb, hi, q⟩ := h
    simp only [startD, pSeq, pNext, pSet, pRet, pRetN, pVar, pC, pNil, pCons, pTup, pLst, pOp, dI, dI0, pTest, dEq, dNe, pAnd, pOr, pNot, pIf, pIfS, pAndV, pOrV, pCall, pMeth, pFld, pB, pChain, pNoPart, pPart, pSl, dSlS, dSlC, dM1, pFmt, pJs3, pPar, pPar3, pUnp, pJarIx, pJarSet, dIxT, dIxL, dIxS, dIxC, dCat, dRep, dAddS, dOwn2, dOwnI, dOwnR, setAll, noX, List.map_cons, List.map_nil, List.length_cons, List.length_nil, List.cons_append, List.nil_append, List.replicate, List.getElem?_cons_succ, List.getElem?_cons_zero, List.set_cons_zero, List.set_cons_succ, List.zip_cons_cons, List.zip_nil_right, List.foldl_cons, List.foldl_nil, Option.some.injEq, exists_eq_left', exists_eq_left, exists_eq_right, exists_eq, exists_eq', PL.D.int.injEq, PL.D.bl.injEq, PL.D.str.injEq, PL.D.tup.injEq, PL.D.lst.injEq, PL.D.ins.injEq, PL.D.scr.injEq, List.cons.injEq, and_true, true_and, and_self, exists_and_left, exists_and_right, reduceCtorEq, false_and, and_false, exists_false, or_false, false_or, forall_const, false_implies, true_implies, Nat.reduceAdd, Nat.reduceSub, Nat.reduceLeDiff, exists_const, if_true, if_false, Bool.false_eq_true, ne_eq, not_false_eq_true, Nat.sub_self, List.append_nil, PL.isNon_non, PL.isNon_int, PL.isNon_str, PL.isNon_tup, PL.isNon_lst, PL.isNon_bl, pNever, Bool.not_true, Bool.not_false, Int.reduceLT, Int.reduceLE,  PL.pFld, fld_num, fld_mod, ex_rs, isNon_rs, pJs2]
    have m0 : 0 < m := by have := hm.1; omega
    have bm := hm.bd
    have ba := ha.bd hm
    have bb := hb.bd hm
    have oi : ∀ {j : Int}, PL.D.int j = .int j ∨ PL.D.int j = rs j m := .inl rfl
    have or : ∀ {j : Int}, rs j m = .int j ∨ rs j m = rs j m := .inr rfl
    refine bin_ok hm or trivial (bin_ok hm or trivial (bin_ok hm or (ba.mulW bb (by decide) (by decide) (by decide)) ⟨a, m, rfl, hm, bin_ok hm oi trivial (bin_ok hm oi trivial ?_)⟩))
    refine bin_ok hm oi trivial (bin_ok hm oi trivial (bin_ok hm oi (ba.mulW hi (by decide) (by decide) (by decide)) (bin_ok hm oi (hi.mulW ba (by decide) (by decide) (by decide)) ⟨ba.mulW bb (by decide) (by decide) (by decide), ba.mulW hi (by decide) (by decide) (by decide), ba.mulW hi (by decide) (by decide) (by decide), ?_⟩)))
    simp only [startD, pSeq, pNext, pSet, pRet, pRetN, pVar, pC, pNil, pCons, pTup, pLst, pOp, dI, dI0, pTest, dEq, dNe, pAnd, pOr, pNot, pIf, pIfS, pAndV, pOrV, pCall, pMeth, pFld, pB, pChain, pNoPart, pPart, pSl, dSlS, dSlC, dM1, pFmt, pJs3, pPar, pPar3, pUnp, pJarIx, pJarSet, dIxT, dIxL, dIxS, dIxC, dCat, dRep, dAddS, dOwn2, dOwnI, dOwnR, setAll, noX, List.map_cons, List.map_nil, List.length_cons, List.length_nil, List.cons_append, List.nil_append, List.replicate, List.getElem?_cons_succ, List.getElem?_cons_zero, List.set_cons_zero, List.set_cons_succ, List.zip_cons_cons, List.zip_nil_right, List.foldl_cons, List.foldl_nil, Option.some.injEq, exists_eq_left', exists_eq_left, exists_eq_right, exists_eq, exists_eq', PL.D.int.injEq, PL.D.bl.injEq, PL.D.str.injEq, PL.D.tup.injEq, PL.D.lst.injEq, PL.D.ins.injEq, PL.D.scr.injEq, List.cons.injEq, and_true, true_and, and_self, exists_and_left, exists_and_right, reduceCtorEq, false_and, and_false, exists_false, or_false, false_or, forall_const, false_implies, true_implies, Nat.reduceAdd, Nat.reduceSub, Nat.reduceLeDiff, exists_const, if_true, if_false, Bool.false_eq_true, ne_eq, not_false_eq_true, Nat.sub_self, List.append_nil, PL.isNon_non, PL.isNon_int, PL.isNon_str, PL.isNon_tup, PL.isNon_lst, PL.isNon_bl, pNever, Bool.not_true, Bool.not_false, Int.reduceLT, Int.reduceLE,  PL.pFld, fld_num, fld_mod, ex_rs, isNon_rs, pJs2, tn10, List.replicate_succ, List.replicate_zero, List.flatten_cons, List.flatten_nil, List.length_append, Nat.reduceMul, Nat.reduceLeDiff]
    have eT : [rs ((a + b) % m) m, rs ((a - b) % m) m, rs (a * b % m) m, rs (-a % m) m, rs ((a + i) % m) m, rs ((i + a) % m) m, rs ((a - i) % m) m, rs ((i - a) % m) m, rs (a * i % m) m, rs (i * a % m) m] =
        ([a + b, a - b, a * b, -a, a + i, a + i, a - i, i - a, a * i, a * i] : List Int).map fun x => rs (x % m) m := by
      rw [Int.add_comm i a, Int.mul_comm i a]
      rfl
    have eD : [PL.D.int (a + b), PL.D.int (a - b), PL.D.int (a * b), PL.D.int (-a), PL.D.int (a + i), PL.D.int (a + i), PL.D.int (a - i), PL.D.int (i - a), PL.D.int (a * i), PL.D.int (a * i)] =
        ([a + b, a - b, a * b, -a, a + i, a + i, a - i, i - a, a * i, a * i] : List Int).map fun x => PL.D.int x := rfl
    rw [eT, eD]
    generalize hL : ([a + b, a - b, a * b, -a, a + i, a + i, a - i, i - a, a * i, a * i] : List Int) = L
    have lenL : L.length = 10 := by rw [← hL]; rfl
    refine ⟨10, rfl, by decide, by rw [List.length_map, List.length_range]; decide, fun _ y => y = .bl true, fun _ _ e => by rw [e]; trivial, fun j d hj => ?_, fun ys hl hy => ?_⟩
    · have hlt : j < 10 := by
        have := (List.getElem?_eq_some_iff.mp hj).1
        rwa [List.length_map, List.length_range] at this
      rw [List.getElem?_map, List.getElem?_range hlt] at hj
      cases hj
      simp only [startD, pSeq, pNext, pSet, pRet, pRetN, pVar, pC, pNil, pCons, pTup, pLst, pOp, dI, dI0, pTest, dEq, dNe, pAnd, pOr, pNot, pIf, pIfS, pAndV, pOrV, pCall, pMeth, pFld, pB, pChain, pNoPart, pPart, pSl, dSlS, dSlC, dM1, pFmt, pJs3, pPar, pPar3, pUnp, pJarIx, pJarSet, dIxT, dIxL, dIxS, dIxC, dCat, dRep, dAddS, dOwn2, dOwnI, dOwnR, setAll, noX, List.map_cons, List.map_nil, List.length_cons, List.length_nil, List.cons_append, List.nil_append, List.replicate, List.getElem?_cons_succ, List.getElem?_cons_zero, List.set_cons_zero, List.set_cons_succ, List.zip_cons_cons, List.zip_nil_right, List.foldl_cons, List.foldl_nil, Option.some.injEq, exists_eq_left', exists_eq_left, exists_eq_right, exists_eq, exists_eq', PL.D.int.injEq, PL.D.bl.injEq, PL.D.str.injEq, PL.D.tup.injEq, PL.D.lst.injEq, PL.D.ins.injEq, PL.D.scr.injEq, List.cons.injEq, and_true, true_and, and_self, exists_and_left, exists_and_right, reduceCtorEq, false_and, and_false, exists_false, or_false, false_or, forall_const, false_implies, true_implies, Nat.reduceAdd, Nat.reduceSub, Nat.reduceLeDiff, exists_const, if_true, if_false, Bool.false_eq_true, ne_eq, not_false_eq_true, Nat.sub_self, List.append_nil, PL.isNon_non, PL.isNon_int, PL.isNon_str, PL.isNon_tup, PL.isNon_lst, PL.isNon_bl, pNever, Bool.not_true, Bool.not_false, Int.reduceLT, Int.reduceLE,  PL.pFld, fld_num, fld_mod, ex_rs, isNon_rs, pJs2]
      refine ⟨_, at_map (by omega), _, at_map (by omega), _, rfl, m0, ?_⟩
      exact ⟨_, m, rfl, hm, in_mod hm, rfl⟩
    · rw [List.length_map, List.length_range] at hl
      rw [all_true hl hy]
      have eq1 : ∀ (ne : Bool) (b' : Int) {Φ : PL.D → Prop}, Φ (.bl (if ne = true then !(decide (a = b')) else (decide (a = b')))) → dEqL kRs pfEq ne (rs a m) (rs b' m) Φ := fun ne b' Φ q => ⟨⟨_, rfl⟩, .inl ⟨_, rfl⟩, a, m, _, rfl, Kd_rs, .inl ⟨b', m, rfl, _, rfl, by rw [show decide (m = m) = true from decide_eq_true rfl, Bool.and_true]; exact q⟩⟩
      have eq2 : ∀ (ne : Bool) (d : PL.D) {Φ : PL.D → Prop}, ((∃ T, bT d = some T) ∨ ∃ t b, d = rat t b) → Φ (.bl ne) → dEqL kRs pfEq ne (rs a m) d Φ ∨ dEqO kRs kRat pfEq ne (rs a m) d Φ := fun ne d Φ hT q => by
        rcases hT with ⟨U, hU⟩ | ⟨t, b, rfl⟩
        · refine .inl ⟨⟨_, rfl⟩, .inr ⟨U, hU⟩, a, m, d, rfl, kd_of hU, .inr ⟨go_of hU, _, rfl, ?_⟩⟩
          cases ne <;> exact q
        · refine .inr ⟨⟨_, rfl⟩, ⟨_, rfl⟩, a, m, _, rfl, Kd_rat, .inr ⟨rfl, _, rfl, ?_⟩⟩
          cases ne <;> exact q
      have eq3 : ∀ (ne : Bool) (d : PL.D) {Φ : PL.D → Prop}, ((∃ T, bT d = some T) ∨ ∃ t b, d = rat t b) → Φ (.bl ne) → dEqR kRs pfEq ne d (rs a m) Φ ∨ dEqO kRat kRs pfReq ne d (rs a m) Φ := fun ne d Φ hT q => by
        rcases hT with ⟨U, hU⟩ | ⟨t, b, rfl⟩
        · refine .inl ⟨⟨_, rfl⟩, ⟨U, hU⟩, a, m, d, rfl, kd_of hU, .inr ⟨go_of hU, _, rfl, ?_⟩⟩
          cases ne <;> exact q
        · refine .inr ⟨⟨_, rfl⟩, ⟨_, rfl⟩, t, b, _, rfl, Kd_rs, rfl, _, rfl, ?_⟩
          cases ne <;> exact q
      refine ⟨_, _, rfl, rfl, rfl, rfl, false, rfl, fun c => (by cases c), fun _ => ⟨rfl, ?_⟩⟩
      refine eq1 false b (eq1 true b (eq1 false a (eq1 true a ?_)))
      rw [show decide (a = a) = true from decide_eq_true rfl, show eqS (PL.D.int a) (PL.D.int b) = decide (a = b) from rfl]
      generalize decide (a = b) = e
      refine ⟨_, _, rfl, rfl, rfl, rfl, false, by cases e <;> rfl, fun c => (by cases c), fun _ => ?_⟩
      simp only [startD, pSeq, pNext, pSet, pRet, pRetN, pVar, pC, pNil, pCons, pTup, pLst, pOp, dI, dI0, pTest, dEq, dNe, pAnd, pOr, pNot, pIf, pIfS, pAndV, pOrV, pCall, pMeth, pFld, pB, pChain, pNoPart, pPart, pSl, dSlS, dSlC, dM1, pFmt, pJs3, pPar, pPar3, pUnp, pJarIx, pJarSet, dIxT, dIxL, dIxS, dIxC, dCat, dRep, dAddS, dOwn2, dOwnI, dOwnR, setAll, noX, List.map_cons, List.map_nil, List.length_cons, List.length_nil, List.cons_append, List.nil_append, List.replicate, List.getElem?_cons_succ, List.getElem?_cons_zero, List.set_cons_zero, List.set_cons_succ, List.zip_cons_cons, List.zip_nil_right, List.foldl_cons, List.foldl_nil, Option.some.injEq, exists_eq_left', exists_eq_left, exists_eq_right, exists_eq, exists_eq', PL.D.int.injEq, PL.D.bl.injEq, PL.D.str.injEq, PL.D.tup.injEq, PL.D.lst.injEq, PL.D.ins.injEq, PL.D.scr.injEq, List.cons.injEq, and_true, true_and, and_self, exists_and_left, exists_and_right, reduceCtorEq, false_and, and_false, exists_false, or_false, false_or, forall_const, false_implies, true_implies, Nat.reduceAdd, Nat.reduceSub, Nat.reduceLeDiff, exists_const, if_true, if_false, Bool.false_eq_true, ne_eq, not_false_eq_true, Nat.sub_self, List.append_nil, PL.isNon_non, PL.isNon_int, PL.isNon_str, PL.isNon_tup, PL.isNon_lst, PL.isNon_bl, pNever, Bool.not_true, Bool.not_false, Int.reduceLT, Int.reduceLE,  PL.pFld, fld_num, fld_mod, ex_rs, isNon_rs, pJs2, pFor, toP, toPs]
      refine ⟨a, m, rfl, ba.lg (by decide) (by decide), ini_ok (by decide) (by show (1 : Int).natAbs < 2 ^ 8900; exact Nat.one_lt_two_pow (by decide)) ?_⟩
      rw [mk_one]
      refine ⟨fun j ρ => ∃ z, ρ = [some (rs a m), some (rs b m), some (.int a), some (.int b), some (.int m), some (.int i), some (.lst (L.map fun x => rs (x % m) m)), some (.lst (L.map fun x => PL.D.int x)), none, some (.bl e), z], ⟨_, rfl⟩, fun j d ρ hd hρ => ?_, fun ρ hρ => ?_⟩
      · have hT : (∃ T, bT d = some T) ∨ ∃ t b, d = rat t b := by
          have := List.mem_of_getElem? hd
          simp only [List.mem_cons, List.not_mem_nil, or_false] at this
          rcases this with rfl | rfl | rfl | rfl | rfl | rfl | rfl | rfl | rfl <;> first | exact .inl ⟨_, rfl⟩ | exact .inr ⟨_, _, rfl⟩
        obtain ⟨z, rfl⟩ := hρ
        refine ⟨_, rfl, _, rfl, eq2 false d hT ⟨_, rfl, _, rfl, eq2 true d hT ⟨_, rfl, _, rfl, eq3 false d hT ⟨_, rfl, _, rfl, eq3 true d hT ?_⟩⟩⟩⟩
        exact ⟨_, _, rfl, rfl, rfl, rfl, false, rfl, fun c => (by cases c), fun _ => ⟨_, rfl⟩⟩
      · obtain ⟨z, rfl⟩ := hρ
        simp only [startD, pSeq, pNext, pSet, pRet, pRetN, pVar, pC, pNil, pCons, pTup, pLst, pOp, dI, dI0, pTest, dEq, dNe, pAnd, pOr, pNot, pIf, pIfS, pAndV, pOrV, pCall, pMeth, pFld, pB, pChain, pNoPart, pPart, pSl, dSlS, dSlC, dM1, pFmt, pJs3, pPar, pPar3, pUnp, pJarIx, pJarSet, dIxT, dIxL, dIxS, dIxC, dCat, dRep, dAddS, dOwn2, dOwnI, dOwnR, setAll, noX, List.map_cons, List.map_nil, List.length_cons, List.length_nil, List.cons_append, List.nil_append, List.replicate, List.getElem?_cons_succ, List.getElem?_cons_zero, List.set_cons_zero, List.set_cons_succ, List.zip_cons_cons, List.zip_nil_right, List.foldl_cons, List.foldl_nil, Option.some.injEq, exists_eq_left', exists_eq_left, exists_eq_right, exists_eq, exists_eq', PL.D.int.injEq, PL.D.bl.injEq, PL.D.str.injEq, PL.D.tup.injEq, PL.D.lst.injEq, PL.D.ins.injEq, PL.D.scr.injEq, List.cons.injEq, and_true, true_and, and_self, exists_and_left, exists_and_right, reduceCtorEq, false_and, and_false, exists_false, or_false, false_or, forall_const, false_implies, true_implies, Nat.reduceAdd, Nat.reduceSub, Nat.reduceLeDiff, exists_const, if_true, if_false, Bool.false_eq_true, ne_eq, not_false_eq_true, Nat.sub_self, List.append_nil, PL.isNon_non, PL.isNon_int, PL.isNon_str, PL.isNon_tup, PL.isNon_lst, PL.isNon_bl, pNever, Bool.not_true, Bool.not_false, Int.reduceLT, Int.reduceLE,  PL.pFld, fld_num, fld_mod, ex_rs, isNon_rs, pJs2]
        have e1 : (a + m) % m = a := by rw [Int.add_emod_right]; exact Int.emod_eq_of_lt ha.1 ha.2
        have e2 : (a - 7 * m) % m = a := by
          rw [show a - 7 * m = a + m * (-7) by omega, Int.add_mul_emod_self_left]
          exact Int.emod_eq_of_lt ha.1 ha.2
        have tt : ∀ x : Int, decide (x = x) = true := fun x => decide_eq_true rfl
        refine sin_ok hm ?_
        rw [e1]
        refine eq1 false a ?_
        rw [tt]
        refine ⟨_, rfl, fun _ => ⟨(show Bd 3 7 by unfold Bd; decide).mulW bm (by decide) (by decide) (by decide), sin_ok hm ?_⟩, fun c => (by cases c)⟩
        rw [e2]
        refine eq1 false a ?_
        rw [tt]
        exact q
abbrev GSig (P : Program) (w : World) (K : PySem.W.Frag) (mg : Str → Option Value) (base : Heap) := FnG' P w K mg base "_law_signs_right" 12 ["_law_mine", "_law_mate", "_law_ours", "_law_theirs", "_law_by", "_law_whole_here"] pfSig
end
end K3
set_option Elab.async false
set_option linter.all false
set_option maxRecDepth 100000
set_option maxHeartbeats 4000000

namespace K3
open PySem PySem.Spec PyProof.Rows L2 GX HX PL
section
variable {P : Program} {w : World} {K : PySem.W.Frag} {mg : Str → Option Value} {base : Heap} {f : Addr} {fd : FuncData}
theorem irf_ok {n : Int} {a b o : PL.D} {z : Str} {Φ : PL.D → Prop} {Ξ : Str → PL.D → Prop} (ho : Odd o) (hz : z ∈ errs) (hp : ∀ (Φ' : PL.D → Prop) (Ξ' : Str → PL.D → Prop), Ξ' z o → pfCal [.int n, a, b] Φ' Ξ') (q : Φ (.bl true)) : pfIrf [.int n, a, b, .str z, o] Φ Ξ := ⟨n, a, b, o, z, rfl, ho, hz, hp, q⟩
theorem cal_pow {a b : PL.D} {Φ : PL.D → Prop} {Ξ : Str → PL.D → Prop} (h : pfPow [a, b] Φ Ξ) : pfCal [.int 5, a, b] Φ Ξ := ⟨5, a, b, rfl, .inr (.inr (.inr (.inr (.inr (.inl ⟨rfl, h⟩)))))⟩
theorem odd_int (i : Int) (h : Bd 200 i) : Odd (.int i) := .inr (.inr (.inl ⟨rfl, rfl, trivial, _, rfl, (gd_intW (Bd.lg h (by decide) (by decide))).shw (by decide) (by decide)⟩))
theorem far_ok : ∀ d ∈ ([.int (10 ^ Int.toNat 30 + 1), .int (-1 - 10 ^ Int.toNat 30), .int (10 ^ Int.toNat 40), .int (-7 * 10 ^ Int.toNat 30)] : List PL.D), Kd d ∧ btw d (-(10 ^ 30)) (10 ^ 30) = false ∧ Odd d := by
  intro d hd
  simp only [List.mem_cons, List.not_mem_nil, or_false] at hd
  rcases hd with rfl | rfl | rfl | rfl <;> exact ⟨trivial, by decide, odd_int _ (by unfold Bd; decide)⟩
theorem btw_no {d : PL.D} {lo hi : Int} (h : wh d = false) : btw d lo hi = false := by
  cases d <;> first | rfl | cases h
def isT : PL.D → Bool
  | .bl true => true
  | _ => false
theorem all_t {L : List PL.D} (h : L.all isT = true) : ∀ d ∈ L, d = .bl true := fun d hd => by
  have := List.all_eq_true.mp h d hd
  cases d with
  | bl b => cases b with
    | true => rfl
    | false => cases this
  | _ => cases this
theorem cal_inv {a b : PL.D} {Φ : PL.D → Prop} {Ξ : Str → PL.D → Prop} (h : pfInv [a] Φ Ξ) : pfCal [.int 6, a, b] Φ Ξ := ⟨6, a, b, rfl, .inr (.inr (.inr (.inr (.inr (.inr (.inl ⟨rfl, h⟩))))))⟩
theorem cal_or7 {a b : PL.D} {Φ : PL.D → Prop} {Ξ : Str → PL.D → Prop} (h : pfOr [a] Φ Ξ) : pfCal [.int 7, a, b] Φ Ξ := ⟨7, a, b, rfl, .inr (.inr (.inr (.inr (.inr (.inr (.inr (.inl ⟨rfl, h⟩)))))))⟩
theorem cal_or8 {a b : PL.D} {Φ : PL.D → Prop} {Ξ : Str → PL.D → Prop} (h : pfOr [a] Φ Ξ) : pfCal [.int 8, a, b] Φ Ξ := ⟨8, a, b, rfl, .inr (.inr (.inr (.inr (.inr (.inr (.inr (.inr (.inl ⟨rfl, h⟩))))))))⟩
theorem bt_mem {n : Nat} {d x : PL.D} (h : d ∈ List.replicate n x ++ [x]) : d = x := by
  rcases List.mem_append.mp h with h | h
  · exact List.eq_of_mem_replicate h
  · exact List.mem_singleton.mp h
/-! ### _law_powers_right -/
theorem scPwr : FnScope ["_law_source_here", "_law_mine", "_law_ours", "_law_by", "_law_often", "_law_told", "_law_due", "_law_each", "_law_back", "_law_less", "_law_way", "_law_far", "_law_odd_here"] ["_law_source_here", "_law_mine", "_law_ours", "_law_by"] (defScope (top 52)) := ⟨rfl, rfl, rfl, by decide +kernel, rfl, by decide +kernel, by decide +kernel⟩
def pfPwr : PF := fun ds Φ _ => ∃ a m : Int, ds = [.jar, rs a m, .int a, .int m] ∧ Md m ∧ In a m ∧ Φ (.bl true)
theorem ok_pwr (DF : Df K mg "_law_powers_right" 52 f fd) (T : Txt K mg) (B : Cl_ K mg) (TA : FTake P w K mg base) (PK : FPick P w K mg base) (GR : FGreat P w K mg base) (OD' : FOdd P w K mg base) (BY' : FBys P w K mg base) (PO : MPow P w K mg base) (poK : KwB K PO.fd ["self", "exponent"] "exponent") (V : Me P w K mg base kRs "inverse" 7 ["self"] pfInv) (RSD : FLrs P w K mg base) (TU : FTur P w K mg base) (SD : FShd P w K mg base) (IR : GIrf P w K mg base) (SH : GShown P w K mg base) :
    FnGP P w K mg base 15 f fd ["_law_source_here", "_law_mine", "_law_ours", "_law_by"] pfPwr := by
  refine fnGP DF.fn scPwr (fun ds Φ Ξ h => ?_) fun cdv A outer s H E J Ξ hr hgd wok => ⟨_, (qss_cons (qs_set (i := 4) scPwr.nd rfl (.inr rfl) (q_call PK.ok (hr.mono (by decide)) (by rfl) PK.gl PK.kp PK.bd (qa_cons (qv 0) (qa_cons (q_lst (qa_cons q_int (qa_cons q_int (qa_cons q_int (qa_cons q_int (qa_cons q_int (qa_cons q_int (qa_cons (q_pow q_int q_int) (qa_cons (q_call TA.ok (hr.mono (by decide)) (by rfl) TA.gl TA.kp TA.bd (qa_cons (qv 0) (qa_cons q_int qa_nil))) (qa_cons (q_call GR.ok (hr.mono (by decide)) (by rfl) GR.gl GR.kp GR.bd (qa_cons (qv 0) (qa_cons q_int qa_nil))) qa_nil)))))))))) qa_nil))))
      (qss_cons (qs_set (i := 5) scPwr.nd rfl (.inl rfl) (q_lst (qa_cons (q_call BY'.ok (hr.mono (by decide)) (by rfl) BY'.gl BY'.kp BY'.bd (qa_cons (qv 1) (qa_cons (qv 4) qa_nil))) (qa_cons (q_methX B.s.cl PO.met PO.ok (hr.mono (by decide)) PO.bd pass00 wok0 (qv 1) (qa_cons (qv 4) qa_nil)) (qa_cons (q_methKX B.s.cl PO.met PO.ok (hr.mono (by decide)) poK pass00 wok0 (qv 1) (qv 4)) qa_nil)))))
      (qss_cons (qs_lc (j := 6) (i := 7) rfl scPwr.nd rfl rfl (sw_true rfl rfl rfl (by decide +kernel)) (qi_list (qv 5)) (blkOk_by (N := ["_law_source_here", "_law_mine", "_law_ours", "_law_by", "_law_often", "_law_told", "_law_due", "_law_each", "_law_back", "_law_less", "_law_way", "_law_far", "_law_odd_here"]) (sc := defScope (top 52)) (by decide +kernel)) (fun _ _ _ _ _ => pg_name (i := 7) scPwr.nd rfl (.inl rfl)) (fun _ _ _ _ _ => (q_callG SH.ok (hr.mono (by decide)) hgd (by rfl) SH.gl SH.kp SH.bd (qa_cons (qv 7) (qa_cons (q_call RSD.ok (hr.mono (by decide)) (by rfl) RSD.gl RSD.kp RSD.bd (qa_cons (qv 2) (qa_cons (qv 4) (qa_cons (qv 3) qa_nil)))) (qa_cons (qv 3) qa_nil))))))
      (qss_cons (qs_if (qt_cmp op_eq rd_eq (q_call SD.ok (hr.mono (by decide)) (by rfl) SD.gl SD.kp SD.bd (qa_cons (qv 2) (qa_cons (qv 3) qa_nil))) q_int (nomark _)) (qss_cons (qs_set (i := 8) scPwr.nd rfl (.inl rfl) (q_call TU.ok (hr.mono (by decide)) (by rfl) TU.gl TU.kp TU.bd (qa_cons (qv 2) (qa_cons (qv 3) qa_nil))))
      (qss_cons (qs_set (i := 6) scPwr.nd rfl (.inl rfl) (q_cat (qv 6) (q_lst (qa_cons (q_callG SH.ok (hr.mono (by decide)) hgd (by rfl) SH.gl SH.kp SH.bd (qa_cons (q_meth0X B.s.cl V.met V.ok (hr.mono (by decide)) V.bd pass00 wok0 (qv 1)) (qa_cons (qv 8) (qa_cons (qv 3) qa_nil)))) (qa_cons (q_cmp op_eq rd_eq (q_mod (q_BT call_int1 rc_int1 (T.free "int" (by decide +kernel)) (by rfl) (by decide +kernel) (qa_cons (q_mul (qv 8) (qv 2)) qa_nil)) (qv 3)) q_int (nomark _)) qa_nil)))))
      (qss_one (qs_set (i := 6) scPwr.nd rfl (.inl rfl) (q_cat (qv 6) (q_lst (qa_cons (q_callG SH.ok (hr.mono (by decide)) hgd (by rfl) SH.gl SH.kp SH.bd (qa_cons (q_methX B.s.cl PO.met PO.ok (hr.mono (by decide)) PO.bd pass00 wok0 (qv 1) (qa_cons (q_neg (qv 4)) qa_nil)) (qa_cons (q_call RSD.ok (hr.mono (by decide)) (by rfl) RSD.gl RSD.kp RSD.bd (qa_cons (qv 8) (qa_cons (qv 4) (qa_cons (qv 3) qa_nil)))) (qa_cons (qv 3) qa_nil)))) qa_nil))))))) (qss_cons (qs_set (i := 9) scPwr.nd rfl (.inl rfl) (q_ifExp (qt_cmp op_gt rd_B0 (qv 4) q_int (nomark _)) (q_neg (qv 4)) (q_neg q_int)))
      (qss_cons (qs_set (i := 6) scPwr.nd rfl (.inl rfl) (q_cat (qv 6) (q_lst (qa_cons (q_callG IR.ok (hr.mono (by decide)) hgd (by rfl) IR.gl IR.kp IR.bd (qa_cons q_int (qa_cons (qv 1) (qa_cons (qv 9) (qa_cons q_str (qa_cons (qv 1) qa_nil)))))) qa_nil))))
      (qss_one (qs_set (i := 6) scPwr.nd rfl (.inl rfl) (q_cat (qv 6) (q_lc (i := 10) rfl scPwr.nd (qi_list (q_lst (qa_cons q_int (qa_cons q_int (qa_cons q_int qa_nil))))) (blkOk_by (N := ["_law_source_here", "_law_mine", "_law_ours", "_law_by", "_law_often", "_law_told", "_law_due", "_law_each", "_law_back", "_law_less", "_law_way", "_law_far", "_law_odd_here"]) (sc := defScope (top 52)) (by decide +kernel)) (fun _ _ _ _ _ => pg_name (i := 10) scPwr.nd rfl (.inl rfl)) (fun _ _ _ _ _ => (q_callG IR.ok (hr.mono (by decide)) hgd (by rfl) IR.gl IR.kp IR.bd (qa_cons (qv 10) (qa_cons (qv 1) (qa_cons q_non (qa_cons q_str (qa_cons (qv 1) qa_nil))))))))))))))
      (qss_cons (qs_set (i := 11) scPwr.nd rfl (.inl rfl) (q_call PK.ok (hr.mono (by decide)) (by rfl) PK.gl PK.kp PK.bd (qa_cons (qv 0) (qa_cons (q_lst (qa_cons (q_add (q_pow q_int q_int) q_int) (qa_cons (q_sub (q_neg q_int) (q_pow q_int q_int)) (qa_cons (q_pow q_int q_int) (qa_cons (q_mul (q_neg q_int) (q_pow q_int q_int)) qa_nil))))) qa_nil))))
      (qss_cons (qs_set (i := 6) scPwr.nd rfl (.inl rfl) (q_cat (qv 6) (q_lst (qa_cons (q_callG IR.ok (hr.mono (by decide)) hgd (by rfl) IR.gl IR.kp IR.bd (qa_cons q_int (qa_cons (qv 1) (qa_cons (qv 11) (qa_cons q_str (qa_cons (qv 11) qa_nil)))))) qa_nil))))
      (qss_cons (qs_set (i := 12) scPwr.nd rfl (.inl rfl) (q_call OD'.ok (hr.mono (by decide)) (by rfl) OD'.gl OD'.kp OD'.bd (qa_cons (qv 0) qa_nil)))
      (qss_one (qs_ret (q_and (q_cmp (op_eqD hr.units) rd_eqD (q_lf (i := 7) rfl scPwr.nd (qi_list (qv 6)) (blkOk_by (N := ["_law_source_here", "_law_mine", "_law_ours", "_law_by", "_law_often", "_law_told", "_law_due", "_law_each", "_law_back", "_law_less", "_law_way", "_law_far", "_law_odd_here"]) (sc := defScope (top 52)) (by decide +kernel)) (fun _ _ _ _ _ => pg_name (i := 7) scPwr.nd rfl (.inl rfl)) (fun _ _ _ _ _ => (qt_not (qt_val (qv 7)))) (fun _ _ _ _ _ => qv 7)) (q_lst qa_nil) (nomark _)) (q_one (q_callG IR.ok (hr.mono (by decide)) hgd (by rfl) IR.gl IR.kp IR.bd (qa_cons q_int (qa_cons (qv 1) (qa_cons (qv 12) (qa_cons q_str (qa_cons (qv 12) qa_nil))))))))))))))))), fun ds Φ h => ?_⟩
  · obtain ⟨_, _, rfl, _⟩ := h
    rfl
  · obtain ⟨a, m, rfl, hm, ha, q⟩ := h
    simp only [startD, pSeq, pNext, pSet, pRet, pRetN, pVar, pC, pNil, pCons, pTup, pLst, pOp, dI, dI0, pTest, dEq, dNe, pAnd, pOr, pNot, pIf, pIfS, pAndV, pOrV, pCall, pMeth, pFld, pB, pChain, pNoPart, pPart, pSl, dSlS, dSlC, dM1, pFmt, pJs3, pPar, pPar3, pUnp, pJarIx, pJarSet, dIxT, dIxL, dIxS, dIxC, dCat, dRep, dAddS, dOwn2, dOwnI, dOwnR, setAll, noX, List.map_cons, List.map_nil, List.length_cons, List.length_nil, List.cons_append, List.nil_append, List.replicate, List.getElem?_cons_succ, List.getElem?_cons_zero, List.set_cons_zero, List.set_cons_succ, List.zip_cons_cons, List.zip_nil_right, List.foldl_cons, List.foldl_nil, Option.some.injEq, exists_eq_left', exists_eq_left, exists_eq_right, exists_eq, exists_eq', PL.D.int.injEq, PL.D.bl.injEq, PL.D.str.injEq, PL.D.tup.injEq, PL.D.lst.injEq, PL.D.ins.injEq, PL.D.scr.injEq, List.cons.injEq, and_true, true_and, and_self, exists_and_left, exists_and_right, reduceCtorEq, false_and, and_false, exists_false, or_false, false_or, forall_const, false_implies, true_implies, Nat.reduceAdd, Nat.reduceSub, Nat.reduceLeDiff, exists_const, if_true, if_false, Bool.false_eq_true, ne_eq, not_false_eq_true, Nat.sub_self, List.append_nil, PL.isNon_non, PL.isNon_int, PL.isNon_str, PL.isNon_tup, PL.isNon_lst, PL.isNon_bl, pNever, Bool.not_true, Bool.not_false, Int.reduceLT, Int.reduceLE,  PL.pFld, fld_num, fld_mod, ex_rs, isNon_rs, pJs2]
    obtain ⟨a, rfl⟩ : ∃ x : Nat, a = (x : Int) := ⟨a.toNat, by have := ha.1; omega⟩
    obtain ⟨m, rfl⟩ : ∃ x : Nat, m = (x : Int) := ⟨m.toNat, by have := hm.1; omega⟩
    have m0 : 0 < (m : Int) := by have := hm.1; omega
    have cp30 : CPow 10 30 := ⟨by decide, by decide, by decide⟩
    have cp40 : CPow 10 40 := ⟨by decide, by decide, by decide⟩
    have e30 : (10 : Int) ^ Int.toNat 30 = 1000000000000000000000000000000 := by decide
    have n30 : (10 : Nat) ^ 30 = 1000000000000000000000000000000 := by decide
    have c7 : CMulW (-7) (10 ^ Int.toNat 30) := (show Bd 3 (-7) by unfold Bd; decide).mulW (show Bd 100 _ by unfold Bd; decide) (by decide) (by decide) (by decide)
    refine ⟨cp30, _, rfl, by decide, by decide, fun r r0 r9 => ⟨5, rfl, by decide, fun g g0 g9 => ⟨_, rfl, List.cons_ne_nil _ _, by show 9 ≤ 1000; decide, fun d hd => ?_⟩⟩⟩
    obtain ⟨n, rfl, hn⟩ : ∃ n : Nat, d = .int (n : Int) ∧ n ≤ 10 ^ 30 := by
      have e5 : (1000000 : Int) ^ 5 = 1000000000000000000000000000000 := by decide
      rw [e5] at g9
      rw [e30] at hd
      rw [n30]
      have go : ∀ i : Int, 0 ≤ i → i ≤ 1000000000000000000000000000000 → ∃ n : Nat, PL.D.int i = .int (n : Int) ∧ n ≤ 1000000000000000000000000000000 := fun i i0 i9 => ⟨i.toNat, by rw [Int.toNat_of_nonneg i0], by omega⟩
      simp only [List.mem_cons, List.not_mem_nil, or_false] at hd
      rcases hd with rfl | rfl | rfl | rfl | rfl | rfl | rfl | rfl | rfl <;> exact go _ (by omega) (by omega)
    have pow : ∀ {Φ' : PL.D → Prop} {Ξ' : Str → PL.D → Prop}, Φ' (rs ((a : Int) ^ n % m) m) → pfPow [rs a m, .int (n : Int)] Φ' Ξ' := fun q => ⟨_, _, _, rfl, hm, ha, trivial, .inl ⟨(n : Int), rfl, by rw [Int.natAbs_natCast]; exact hn, .inl ⟨Int.natCast_nonneg _, q⟩⟩⟩
    refine ⟨_, _, _, rfl, pow ⟨_, rfl, rfl, pow ⟨_, rfl, rfl, pow ?_⟩⟩⟩
    refine ⟨_, rfl, _, rfl, by show 3 ≤ 1000; decide, fun _ y => y = .bl true, fun _ _ e => by rw [e]; trivial, fun j d hj => ?_, fun ys hl hy => ?_⟩
    · have hdd : d = rs ((a : Int) ^ n % m) m := by
        have := List.mem_of_getElem? hj
        simp only [List.mem_cons, List.not_mem_nil, or_false, or_self] at this
        exact this
      subst hdd
      simp only [startD, pSeq, pNext, pSet, pRet, pRetN, pVar, pC, pNil, pCons, pTup, pLst, pOp, dI, dI0, pTest, dEq, dNe, pAnd, pOr, pNot, pIf, pIfS, pAndV, pOrV, pCall, pMeth, pFld, pB, pChain, pNoPart, pPart, pSl, dSlS, dSlC, dM1, pFmt, pJs3, pPar, pPar3, pUnp, pJarIx, pJarSet, dIxT, dIxL, dIxS, dIxC, dCat, dRep, dAddS, dOwn2, dOwnI, dOwnR, setAll, noX, List.map_cons, List.map_nil, List.length_cons, List.length_nil, List.cons_append, List.nil_append, List.replicate, List.getElem?_cons_succ, List.getElem?_cons_zero, List.set_cons_zero, List.set_cons_succ, List.zip_cons_cons, List.zip_nil_right, List.foldl_cons, List.foldl_nil, Option.some.injEq, exists_eq_left', exists_eq_left, exists_eq_right, exists_eq, exists_eq', PL.D.int.injEq, PL.D.bl.injEq, PL.D.str.injEq, PL.D.tup.injEq, PL.D.lst.injEq, PL.D.ins.injEq, PL.D.scr.injEq, List.cons.injEq, and_true, true_and, and_self, exists_and_left, exists_and_right, reduceCtorEq, false_and, and_false, exists_false, or_false, false_or, forall_const, false_implies, true_implies, Nat.reduceAdd, Nat.reduceSub, Nat.reduceLeDiff, exists_const, if_true, if_false, Bool.false_eq_true, ne_eq, not_false_eq_true, Nat.sub_self, List.append_nil, PL.isNon_non, PL.isNon_int, PL.isNon_str, PL.isNon_tup, PL.isNon_lst, PL.isNon_bl, pNever, Bool.not_true, Bool.not_false, Int.reduceLT, Int.reduceLE,  PL.pFld, fld_num, fld_mod, ex_rs, isNon_rs, pJs2]
      exact ⟨_, _, n, rfl, hm, ha, _, _, rfl, hm, in_mod hm, rfl⟩
    rw [all_true hl hy]
    refine ⟨a, m, rfl, rfl, fun c => ?_, fun c => ?_⟩
    · have hg : Nat.gcd (a : Int).natAbs (m : Int).natAbs = 1 := by
        have : ((Nat.gcd a m : Nat) : Int) = 1 := of_decide_eq_true c
        exact Int.ofNat.inj this
      refine ⟨_, _, rfl, hm, hg, fun t ht => ⟨_, rfl, rfl, _, _, rfl, hm, .inl ⟨hg, fun t' ht' => ?_⟩⟩⟩
      have uniq : ∀ {t'}, Iv (a : Int) m t' → t' = t := fun h => mul_cancel_mod h.2 ht.2 hm h.1 ht.1
      rw [uniq ht']
      refine ⟨t, _, rfl, hm, ht.1, t, rfl, (ht.1.bd hm).mulW (ha.bd hm) (by decide) (by decide) (by decide), m0, rfl, ?_⟩
      rw [show eqS (PL.D.int (t * a % m)) (PL.D.int 1) = true from decide_eq_true (by rw [Int.mul_comm]; exact ht.2)]
      have powN : ∀ {Φ' : PL.D → Prop} {Ξ' : Str → PL.D → Prop}, Φ' (rs (t ^ n % m) m) → pfPow [rs a m, .int (-(n : Int))] Φ' Ξ' := fun q => by
        refine ⟨_, _, _, rfl, hm, ha, trivial, .inl ⟨-(n : Int), rfl, by rw [Int.natAbs_neg, Int.natAbs_natCast]; exact hn, ?_⟩⟩
        rw [Int.natAbs_neg, Int.natAbs_natCast]
        by_cases z : n = 0
        · subst z
          exact .inl ⟨by decide, by rw [Int.pow_zero] at *; exact q⟩
        · exact .inr (.inl ⟨by omega, hg, fun t' ht' => by rw [uniq ht']; exact q⟩)
      refine ⟨_, rfl, by show 3 ≤ 998; decide, _, rfl, rfl, n, rfl, powN ⟨t, _, n, rfl, hm, ht.1, _, _, rfl, hm, in_mod hm, ?_⟩⟩
      refine ⟨by show 5 ≤ 999; decide, ?_⟩
      refine ⟨cp30, cp30, cp40, cp30, c7, _, rfl, List.cons_ne_nil _ _, by show 4 ≤ 1000; decide, fun d2 hd2 => ?_⟩
      obtain ⟨f1, f2, f3⟩ := far_ok d2 hd2
      refine irf_ok f3 (by decide) (fun Φ' Ξ' hx => cal_pow ⟨_, _, _, rfl, hm, ha, f1, .inr ⟨f2, hx⟩⟩) ?_
      refine ⟨by show 6 ≤ 999; decide, rfl, fun d3 hd3 => ?_⟩
      refine ⟨by decide, _, rfl, _, rfl, by show 7 ≤ 1000; decide, fun d hd => ?_, fun _ => false, fun d hd => ?_, ?_⟩
      · have hd := all_t (by rfl) d hd
        subst hd
        trivial
      · have hd := all_t (by rfl) d hd
        subst hd
        simp only [startD, pSeq, pNext, pSet, pRet, pRetN, pVar, pC, pNil, pCons, pTup, pLst, pOp, dI, dI0, pTest, dEq, dNe, pAnd, pOr, pNot, pIf, pIfS, pAndV, pOrV, pCall, pMeth, pFld, pB, pChain, pNoPart, pPart, pSl, dSlS, dSlC, dM1, pFmt, pJs3, pPar, pPar3, pUnp, pJarIx, pJarSet, dIxT, dIxL, dIxS, dIxC, dCat, dRep, dAddS, dOwn2, dOwnI, dOwnR, setAll, noX, List.map_cons, List.map_nil, List.length_cons, List.length_nil, List.cons_append, List.nil_append, List.replicate, List.getElem?_cons_succ, List.getElem?_cons_zero, List.set_cons_zero, List.set_cons_succ, List.zip_cons_cons, List.zip_nil_right, List.foldl_cons, List.foldl_nil, Option.some.injEq, exists_eq_left', exists_eq_left, exists_eq_right, exists_eq, exists_eq', PL.D.int.injEq, PL.D.bl.injEq, PL.D.str.injEq, PL.D.tup.injEq, PL.D.lst.injEq, PL.D.ins.injEq, PL.D.scr.injEq, List.cons.injEq, and_true, true_and, and_self, exists_and_left, exists_and_right, reduceCtorEq, false_and, and_false, exists_false, or_false, false_or, forall_const, false_implies, true_implies, Nat.reduceAdd, Nat.reduceSub, Nat.reduceLeDiff, exists_const, if_true, if_false, Bool.false_eq_true, ne_eq, not_false_eq_true, Nat.sub_self, List.append_nil, PL.isNon_non, PL.isNon_int, PL.isNon_str, PL.isNon_tup, PL.isNon_lst, PL.isNon_bl, pNever, Bool.not_true, Bool.not_false, Int.reduceLT, Int.reduceLE,  PL.pFld, fld_num, fld_mod, ex_rs, isNon_rs, pJs2]
      · exact ⟨.list [], .list [], rfl, rfl, rfl, rfl, true, rfl, fun _ => irf_ok (menu_odd d3 hd3) (by decide) (fun Φ' Ξ' hx => cal_pow ⟨_, _, _, rfl, hm, ha, menu_kd d3 hd3, .inr ⟨btw_no (menu_wh d3 hd3), hx⟩⟩) q, fun c => (by cases c)⟩
    · have hg : Nat.gcd (a : Int).natAbs (m : Int).natAbs ≠ 1 := fun z => by
        have : ¬ ((Nat.gcd a m : Nat) : Int) = 1 := of_decide_eq_false c
        exact this (by rw [show Nat.gcd a m = 1 from z]; rfl)
      have odd : Odd (rs (a : Int) m) := .inl ⟨_, _, rfl, hm, ha⟩
      have ways : ∀ {Φ' : PL.D → Prop} (d : PL.D), d ∈ ([.int 6, .int 7, .int 8] : List PL.D) → Φ' (.bl true) → pfIrf [d, rs (a : Int) m, .non, .str ("NotAUnit" : Str), rs (a : Int) m] Φ' noX := fun d hd q => by
        simp only [List.mem_cons, List.not_mem_nil, or_false] at hd
        rcases hd with rfl | rfl | rfl
        · exact irf_ok odd (by decide) (fun Φ' Ξ' hx => cal_inv ⟨_, _, rfl, hm, .inr ⟨hg, hx⟩⟩) q
        · exact irf_ok odd (by decide) (fun Φ' Ξ' hx => cal_or7 ⟨_, rfl, Kd_rs, .inr ⟨_, _, rfl, hm, ha, .inl ⟨hg, hx⟩⟩⟩) q
        · exact irf_ok odd (by decide) (fun Φ' Ξ' hx => cal_or8 ⟨_, rfl, Kd_rs, .inr ⟨_, _, rfl, hm, ha, .inl ⟨hg, hx⟩⟩⟩) q
      have less : ∀ {Φ' : PL.D → Prop} (k : Int), k < 0 → k.natAbs ≤ 10 ^ 30 → Φ' (.bl true) → pfIrf [.int 5, rs (a : Int) m, .int k, .str ("NotAUnit" : Str), rs (a : Int) m] Φ' noX := fun k k0 k9 q =>
        irf_ok odd (by decide) (fun Φ' Ξ' hx => cal_pow ⟨_, _, _, rfl, hm, ha, trivial, .inl ⟨k, rfl, k9, .inr (.inr ⟨k0, hg, hx⟩)⟩⟩) q
      refine ⟨_, rfl, fun c0 => ⟨_, rfl, less _ (by have := of_decide_eq_true c0; omega) (by rw [Int.natAbs_neg, Int.natAbs_natCast]; exact hn) ?_⟩, fun c0 => less _ (by decide) (by decide) ?_⟩
      · refine ⟨_, rfl, by show 3 ≤ 999; decide, by show 3 ≤ 1000; decide, fun _ y => y = .bl true, fun _ _ e => by rw [e]; trivial, fun j d hj => ?_, fun ys hl hy => ?_⟩
        · simp only [startD, pSeq, pNext, pSet, pRet, pRetN, pVar, pC, pNil, pCons, pTup, pLst, pOp, dI, dI0, pTest, dEq, dNe, pAnd, pOr, pNot, pIf, pIfS, pAndV, pOrV, pCall, pMeth, pFld, pB, pChain, pNoPart, pPart, pSl, dSlS, dSlC, dM1, pFmt, pJs3, pPar, pPar3, pUnp, pJarIx, pJarSet, dIxT, dIxL, dIxS, dIxC, dCat, dRep, dAddS, dOwn2, dOwnI, dOwnR, setAll, noX, List.map_cons, List.map_nil, List.length_cons, List.length_nil, List.cons_append, List.nil_append, List.replicate, List.getElem?_cons_succ, List.getElem?_cons_zero, List.set_cons_zero, List.set_cons_succ, List.zip_cons_cons, List.zip_nil_right, List.foldl_cons, List.foldl_nil, Option.some.injEq, exists_eq_left', exists_eq_left, exists_eq_right, exists_eq, exists_eq', PL.D.int.injEq, PL.D.bl.injEq, PL.D.str.injEq, PL.D.tup.injEq, PL.D.lst.injEq, PL.D.ins.injEq, PL.D.scr.injEq, List.cons.injEq, and_true, true_and, and_self, exists_and_left, exists_and_right, reduceCtorEq, false_and, and_false, exists_false, or_false, false_or, forall_const, false_implies, true_implies, Nat.reduceAdd, Nat.reduceSub, Nat.reduceLeDiff, exists_const, if_true, if_false, Bool.false_eq_true, ne_eq, not_false_eq_true, Nat.sub_self, List.append_nil, PL.isNon_non, PL.isNon_int, PL.isNon_str, PL.isNon_tup, PL.isNon_lst, PL.isNon_bl, pNever, Bool.not_true, Bool.not_false, Int.reduceLT, Int.reduceLE,  PL.pFld, fld_num, fld_mod, ex_rs, isNon_rs, pJs2]
          exact ways d (List.mem_of_getElem? hj) rfl
        rw [all_true hl hy]
        refine ⟨_, rfl, by show 7 ≤ 1000; decide, ?_⟩
        refine ⟨cp30, cp30, cp40, cp30, c7, _, rfl, List.cons_ne_nil _ _, by show 4 ≤ 1000; decide, fun d2 hd2 => ?_⟩
        obtain ⟨f1, f2, f3⟩ := far_ok d2 hd2
        refine irf_ok f3 (by decide) (fun Φ' Ξ' hx => cal_pow ⟨_, _, _, rfl, hm, ha, f1, .inr ⟨f2, hx⟩⟩) ?_
        refine ⟨by show 7 ≤ 999; decide, rfl, fun d3 hd3 => ?_⟩
        refine ⟨by decide, _, rfl, _, rfl, by show 8 ≤ 1000; decide, fun d hd => ?_, fun _ => false, fun d hd => ?_, ?_⟩
        · have hd := all_t (by rfl) d hd
          subst hd
          trivial
        · have hd := all_t (by rfl) d hd
          subst hd
          simp only [startD, pSeq, pNext, pSet, pRet, pRetN, pVar, pC, pNil, pCons, pTup, pLst, pOp, dI, dI0, pTest, dEq, dNe, pAnd, pOr, pNot, pIf, pIfS, pAndV, pOrV, pCall, pMeth, pFld, pB, pChain, pNoPart, pPart, pSl, dSlS, dSlC, dM1, pFmt, pJs3, pPar, pPar3, pUnp, pJarIx, pJarSet, dIxT, dIxL, dIxS, dIxC, dCat, dRep, dAddS, dOwn2, dOwnI, dOwnR, setAll, noX, List.map_cons, List.map_nil, List.length_cons, List.length_nil, List.cons_append, List.nil_append, List.replicate, List.getElem?_cons_succ, List.getElem?_cons_zero, List.set_cons_zero, List.set_cons_succ, List.zip_cons_cons, List.zip_nil_right, List.foldl_cons, List.foldl_nil, Option.some.injEq, exists_eq_left', exists_eq_left, exists_eq_right, exists_eq, exists_eq', PL.D.int.injEq, PL.D.bl.injEq, PL.D.str.injEq, PL.D.tup.injEq, PL.D.lst.injEq, PL.D.ins.injEq, PL.D.scr.injEq, List.cons.injEq, and_true, true_and, and_self, exists_and_left, exists_and_right, reduceCtorEq, false_and, and_false, exists_false, or_false, false_or, forall_const, false_implies, true_implies, Nat.reduceAdd, Nat.reduceSub, Nat.reduceLeDiff, exists_const, if_true, if_false, Bool.false_eq_true, ne_eq, not_false_eq_true, Nat.sub_self, List.append_nil, PL.isNon_non, PL.isNon_int, PL.isNon_str, PL.isNon_tup, PL.isNon_lst, PL.isNon_bl, pNever, Bool.not_true, Bool.not_false, Int.reduceLT, Int.reduceLE,  PL.pFld, fld_num, fld_mod, ex_rs, isNon_rs, pJs2]
        · exact ⟨.list [], .list [], rfl, rfl, rfl, rfl, true, rfl, fun _ => irf_ok (menu_odd d3 hd3) (by decide) (fun Φ' Ξ' hx => cal_pow ⟨_, _, _, rfl, hm, ha, menu_kd d3 hd3, .inr ⟨btw_no (menu_wh d3 hd3), hx⟩⟩) q, fun c => (by cases c)⟩
      · refine ⟨_, rfl, by show 3 ≤ 999; decide, by show 3 ≤ 1000; decide, fun _ y => y = .bl true, fun _ _ e => by rw [e]; trivial, fun j d hj => ?_, fun ys hl hy => ?_⟩
        · simp only [startD, pSeq, pNext, pSet, pRet, pRetN, pVar, pC, pNil, pCons, pTup, pLst, pOp, dI, dI0, pTest, dEq, dNe, pAnd, pOr, pNot, pIf, pIfS, pAndV, pOrV, pCall, pMeth, pFld, pB, pChain, pNoPart, pPart, pSl, dSlS, dSlC, dM1, pFmt, pJs3, pPar, pPar3, pUnp, pJarIx, pJarSet, dIxT, dIxL, dIxS, dIxC, dCat, dRep, dAddS, dOwn2, dOwnI, dOwnR, setAll, noX, List.map_cons, List.map_nil, List.length_cons, List.length_nil, List.cons_append, List.nil_append, List.replicate, List.getElem?_cons_succ, List.getElem?_cons_zero, List.set_cons_zero, List.set_cons_succ, List.zip_cons_cons, List.zip_nil_right, List.foldl_cons, List.foldl_nil, Option.some.injEq, exists_eq_left', exists_eq_left, exists_eq_right, exists_eq, exists_eq', PL.D.int.injEq, PL.D.bl.injEq, PL.D.str.injEq, PL.D.tup.injEq, PL.D.lst.injEq, PL.D.ins.injEq, PL.D.scr.injEq, List.cons.injEq, and_true, true_and, and_self, exists_and_left, exists_and_right, reduceCtorEq, false_and, and_false, exists_false, or_false, false_or, forall_const, false_implies, true_implies, Nat.reduceAdd, Nat.reduceSub, Nat.reduceLeDiff, exists_const, if_true, if_false, Bool.false_eq_true, ne_eq, not_false_eq_true, Nat.sub_self, List.append_nil, PL.isNon_non, PL.isNon_int, PL.isNon_str, PL.isNon_tup, PL.isNon_lst, PL.isNon_bl, pNever, Bool.not_true, Bool.not_false, Int.reduceLT, Int.reduceLE,  PL.pFld, fld_num, fld_mod, ex_rs, isNon_rs, pJs2]
          exact ways d (List.mem_of_getElem? hj) rfl
        rw [all_true hl hy]
        refine ⟨_, rfl, by show 7 ≤ 1000; decide, ?_⟩
        refine ⟨cp30, cp30, cp40, cp30, c7, _, rfl, List.cons_ne_nil _ _, by show 4 ≤ 1000; decide, fun d2 hd2 => ?_⟩
        obtain ⟨f1, f2, f3⟩ := far_ok d2 hd2
        refine irf_ok f3 (by decide) (fun Φ' Ξ' hx => cal_pow ⟨_, _, _, rfl, hm, ha, f1, .inr ⟨f2, hx⟩⟩) ?_
        refine ⟨by show 7 ≤ 999; decide, rfl, fun d3 hd3 => ?_⟩
        refine ⟨by decide, _, rfl, _, rfl, by show 8 ≤ 1000; decide, fun d hd => ?_, fun _ => false, fun d hd => ?_, ?_⟩
        · have hd := all_t (by rfl) d hd
          subst hd
          trivial
        · have hd := all_t (by rfl) d hd
          subst hd
          simp only [startD, pSeq, pNext, pSet, pRet, pRetN, pVar, pC, pNil, pCons, pTup, pLst, pOp, dI, dI0, pTest, dEq, dNe, pAnd, pOr, pNot, pIf, pIfS, pAndV, pOrV, pCall, pMeth, pFld, pB, pChain, pNoPart, pPart, pSl, dSlS, dSlC, dM1, pFmt, pJs3, pPar, pPar3, pUnp, pJarIx, pJarSet, dIxT, dIxL, dIxS, dIxC, dCat, dRep, dAddS, dOwn2, dOwnI, dOwnR, setAll, noX, List.map_cons, List.map_nil, List.length_cons, List.length_nil, List.cons_append, List.nil_append, List.replicate, List.getElem?_cons_succ, List.getElem?_cons_zero, List.set_cons_zero, List.set_cons_succ, List.zip_cons_cons, List.zip_nil_right, List.foldl_cons, List.foldl_nil, Option.some.injEq, exists_eq_left', exists_eq_left, exists_eq_right, exists_eq, exists_eq', PL.D.int.injEq, PL.D.bl.injEq, PL.D.str.injEq, PL.D.tup.injEq, PL.D.lst.injEq, PL.D.ins.injEq, PL.D.scr.injEq, List.cons.injEq, and_true, true_and, and_self, exists_and_left, exists_and_right, reduceCtorEq, false_and, and_false, exists_false, or_false, false_or, forall_const, false_implies, true_implies, Nat.reduceAdd, Nat.reduceSub, Nat.reduceLeDiff, exists_const, if_true, if_false, Bool.false_eq_true, ne_eq, not_false_eq_true, Nat.sub_self, List.append_nil, PL.isNon_non, PL.isNon_int, PL.isNon_str, PL.isNon_tup, PL.isNon_lst, PL.isNon_bl, pNever, Bool.not_true, Bool.not_false, Int.reduceLT, Int.reduceLE,  PL.pFld, fld_num, fld_mod, ex_rs, isNon_rs, pJs2]
        · exact ⟨.list [], .list [], rfl, rfl, rfl, rfl, true, rfl, fun _ => irf_ok (menu_odd d3 hd3) (by decide) (fun Φ' Ξ' hx => cal_pow ⟨_, _, _, rfl, hm, ha, menu_kd d3 hd3, .inr ⟨btw_no (menu_wh d3 hd3), hx⟩⟩) q, fun c => (by cases c)⟩
abbrev GPwr (P : Program) (w : World) (K : PySem.W.Frag) (mg : Str → Option Value) (base : Heap) := FnG' P w K mg base "_law_powers_right" 15 ["_law_source_here", "_law_mine", "_law_ours", "_law_by"] pfPwr
end
end K3
set_option Elab.async false
set_option linter.all false
set_option maxRecDepth 100000
set_option maxHeartbeats 4000000

namespace K3
open PySem PySem.Spec PyProof.Rows L2 GX HX PL
section
variable {P : Program} {w : World} {K : PySem.W.Frag} {mg : Str → Option Value} {base : Heap} {f : Addr} {fd : FuncData}
theorem IsOrd.uniq {a m : Int} {k l : Nat} (h : IsOrd a m k) (h' : IsOrd a m l) : k = l := by
  obtain ⟨a1, a2, a3⟩ := h
  obtain ⟨b1, b2, b3⟩ := h'
  rcases Nat.lt_trichotomy k l with z | z | z
  · exact absurd a2 (b3 k a1 z)
  · exact z
  · exact absurd b2 (a3 l b1 z)
theorem cal_or {w : Int} {a b : PL.D} {Φ : PL.D → Prop} {Ξ : Str → PL.D → Prop} (w0 : 0 ≤ w) (w2 : w < 2) (h : pfOr [a] Φ Ξ) : pfCal [.int (7 + w), a, b] Φ Ξ := by
  rcases (show w = 0 ∨ w = 1 by omega) with rfl | rfl
  · exact cal_or7 h
  · exact cal_or8 h
theorem cal_jn {w : Int} {a b : PL.D} {Φ : PL.D → Prop} {Ξ : Str → PL.D → Prop} (w0 : 0 ≤ w) (w2 : w < 2) (h : pfJn [a, b] Φ Ξ) : pfCal [.int (9 + w), a, b] Φ Ξ := by
  rcases (show w = 0 ∨ w = 1 by omega) with rfl | rfl
  · exact ⟨9, a, b, rfl, .inr (.inr (.inr (.inr (.inr (.inr (.inr (.inr (.inr (.inl ⟨rfl, h⟩)))))))))⟩
  · exact ⟨10, a, b, rfl, .inr (.inr (.inr (.inr (.inr (.inr (.inr (.inr (.inr (.inr ⟨rfl, h⟩)))))))))⟩
theorem cal_ul {n : Int} {a b : PL.D} {Φ : PL.D → Prop} {Ξ : Str → PL.D → Prop} (hn : n = 2 ∨ n = 3 ∨ n = 4) (h : pfUl a b Ξ) : pfCal [.int n, a, b] Φ Ξ := by
  rcases hn with rfl | rfl | rfl
  · exact ⟨2, a, b, rfl, .inr (.inr (.inl ⟨rfl, h⟩))⟩
  · exact ⟨3, a, b, rfl, .inr (.inr (.inr (.inl ⟨rfl, h⟩)))⟩
  · exact ⟨4, a, b, rfl, .inr (.inr (.inr (.inr (.inl ⟨rfl, h⟩))))⟩
theorem kn_len {m : Int} (h : Md m) : (kn m).length ≤ 3000 := by
  have l := PyProof.Rows.int_text_len_1921 (h.bd.lg (by decide) (by decide))
  unfold kn
  rw [len_app]
  have : (("rest " : String) : Str).length = 5 := rfl
  omega
theorem odd_kn {m n : Int} (h : Md m) (h' : Md n) : Odd (.tup [.str (kn m), .str (kn n)]) := by
  refine .inr (.inr (.inl ⟨rfl, rfl, trivial, _, rfl, ?_⟩))
  refine (gd_tup (m := 0) (n := 50100) (k := 2) (ds := [.str (kn m), .str (kn n)]) (fun d hd => ?_) (Nat.le_refl _)).shw (by decide) (by decide)
  have p : ∀ m : Int, Pts (kn m) := fun m => pts_app (pts_of _) (pts_of _)
  simp only [List.mem_cons, List.not_mem_nil, or_false] at hd
  rcases hd with rfl | rfl
  · exact gd_strW (p _) (Nat.le_trans (kn_len h) (by decide))
  · exact gd_strW (p _) (Nat.le_trans (kn_len h') (by decide))
/-! ### _law_orders_right -/
theorem scOrr : FnScope ["_law_source_here", "_law_mine", "_law_ours", "_law_by", "_law_due", "_law_odd_here", "_law_way"] ["_law_source_here", "_law_mine", "_law_ours", "_law_by"] (defScope (top 53)) := ⟨rfl, rfl, rfl, by decide +kernel, rfl, by decide +kernel, by decide +kernel⟩
def pfOrr : PF := fun ds Φ _ => ∃ a m : Int, ds = [.jar, rs a m, .int a, .int m] ∧ Md m ∧ In a m ∧ Φ (.bl true)
theorem ok_orr (DF : Df K mg "_law_orders_right" 53 f fd) (T : Txt K mg) (B : Cl_ K mg) (TA : FTake P w K mg base) (PK : FPick P w K mg base) (OD' : FOdd P w K mg base) (RN : FRnd P w K mg base) (SD : FShd P w K mg base) (OR : FOr P w K mg base) (orK : KwB K OR.fd ["number"] "number") (IR : GIrf P w K mg base) :
    FnGP P w K mg base 15 f fd ["_law_source_here", "_law_mine", "_law_ours", "_law_by"] pfOrr := by
  refine fnGP DF.fn scOrr (fun ds Φ Ξ h => ?_) fun cdv A outer s H E J Ξ hr hgd wok => ⟨_, (qss_cons (qs_if (qt_pw (qw_and (qt_cmp op_eq rd_eq (q_call SD.ok (hr.mono (by decide)) (by rfl) SD.gl SD.kp SD.bd (qa_cons (qv 2) (qa_cons (qv 3) qa_nil))) q_int (nomark _)) (qw_and1 (qt_cmp op_le rd_B0 (qv 3) q_int (nomark _))))) (qss_cons (qs_set (i := 4) scOrr.nd rfl (.inl rfl) (q_call RN.ok (hr.mono (by decide)) (by rfl) RN.gl RN.kp RN.bd (qa_cons (qv 2) (qa_cons (qv 3) qa_nil))))
      (qss_one (qs_if (qt_cmp op_ne rd_ne (q_B (call_reprD hgd hr.units) rc_repr (T.free "repr" (by decide +kernel)) (by rfl) (by decide +kernel) (qa_cons (q_lst (qa_cons (q_callX OR.ok (hr.mono (by decide)) (by rfl) OR.gl OR.kp OR.bd pass00 wok0 (qa_cons (qv 1) qa_nil)) (qa_cons (q_callKX OR.ok (hr.mono (by decide)) (by rfl) OR.gl OR.kp orK pass00 wok0 (qv 1)) qa_nil))) qa_nil)) (q_B (call_reprD hgd hr.units) rc_repr (T.free "repr" (by decide +kernel)) (by rfl) (by decide +kernel) (qa_cons (q_lst (qa_cons (qv 4) (qa_cons (qv 4) qa_nil))) qa_nil)) (nomark _)) (qss_one (qs_ret q_bl)) qss_nil))) qss_nil)
      (qss_cons (qs_par (i := 5) (j := 6) (by rfl) scOrr.nd rfl rfl (by decide) rfl rfl (qa_cons (q_call PK.ok (hr.mono (by decide)) (by rfl) PK.gl PK.kp PK.bd (qa_cons (qv 0) (qa_cons (q_lst (qa_cons (qv 2) (qa_cons (qv 3) (qa_cons (q_call OD'.ok (hr.mono (by decide)) (by rfl) OD'.gl OD'.kp OD'.bd (qa_cons (qv 0) qa_nil)) (qa_cons q_int (qa_cons q_int qa_nil)))))) qa_nil))) (qa_cons (q_add q_int (q_call TA.ok (hr.mono (by decide)) (by rfl) TA.gl TA.kp TA.bd (qa_cons (qv 0) (qa_cons q_int qa_nil)))) qa_nil)) (by rfl))
      (qss_one (qs_ret (q_callG IR.ok (hr.mono (by decide)) hgd (by rfl) IR.gl IR.kp IR.bd (qa_cons (qv 6) (qa_cons (qv 5) (qa_cons q_non (qa_cons q_str (qa_cons (qv 5) qa_nil)))))))))), fun ds Φ h => ?_⟩
  · obtain ⟨_, _, rfl, _⟩ := h
    rfl
  · obtain ⟨a, m, rfl, hm, ha, q⟩ := h
    obtain ⟨a, rfl⟩ : ∃ x : Nat, a = (x : Int) := ⟨a.toNat, by have := ha.1; omega⟩
    obtain ⟨m, rfl⟩ : ∃ x : Nat, m = (x : Int) := ⟨m.toNat, by have := hm.1; omega⟩
    simp only [startD, pSeq, pNext, pSet, pRet, pRetN, pVar, pC, pNil, pCons, pTup, pLst, pOp, dI, dI0, pTest, dEq, dNe, pAnd, pOr, pNot, pIf, pIfS, pAndV, pOrV, pCall, pMeth, pFld, pB, pChain, pNoPart, pPart, pSl, dSlS, dSlC, dM1, pFmt, pJs3, pPar, pPar3, pUnp, pJarIx, pJarSet, dIxT, dIxL, dIxS, dIxC, dCat, dRep, dAddS, dOwn2, dOwnI, dOwnR, setAll, noX, List.map_cons, List.map_nil, List.length_cons, List.length_nil, List.cons_append, List.nil_append, List.replicate, List.getElem?_cons_succ, List.getElem?_cons_zero, List.set_cons_zero, List.set_cons_succ, List.zip_cons_cons, List.zip_nil_right, List.foldl_cons, List.foldl_nil, Option.some.injEq, exists_eq_left', exists_eq_left, exists_eq_right, exists_eq, exists_eq', PL.D.int.injEq, PL.D.bl.injEq, PL.D.str.injEq, PL.D.tup.injEq, PL.D.lst.injEq, PL.D.ins.injEq, PL.D.scr.injEq, List.cons.injEq, and_true, true_and, and_self, exists_and_left, exists_and_right, reduceCtorEq, false_and, and_false, exists_false, or_false, false_or, forall_const, false_implies, true_implies, Nat.reduceAdd, Nat.reduceSub, Nat.reduceLeDiff, exists_const, if_true, if_false, Bool.false_eq_true, ne_eq, not_false_eq_true, Nat.sub_self, List.append_nil, PL.isNon_non, PL.isNon_int, PL.isNon_str, PL.isNon_tup, PL.isNon_lst, PL.isNon_bl, pNever, Bool.not_true, Bool.not_false, Int.reduceLT, Int.reduceLE,  PL.pFld, fld_num, fld_mod, ex_rs, isNon_rs, pJs2]
    have tl : ∀ d ∈ menuO, ∀ d2 ∈ ([.int (a : Int), .int (m : Int), d, .int 0, .int 1] : List PL.D), Odd d2 ∧ Kd d2 ∧ gRs d2 = false := fun d hd d2 h2 => by
      have sm : ∀ i : Int, Bd 20 i → Odd (.int i) ∧ Kd (.int i) ∧ gRs (.int i) = false := fun i h => ⟨odd_int i (h.mono (by decide)), trivial, rfl⟩
      simp only [List.mem_cons, List.not_mem_nil, or_false] at h2
      rcases h2 with rfl | rfl | rfl | rfl | rfl
      · exact sm _ (ha.bd hm)
      · exact sm _ hm.bd
      · exact ⟨menu_odd _ hd, menu_kd _ hd, menu_rs _ hd⟩
      · exact sm _ (by unfold Bd; decide)
      · exact sm _ (by unfold Bd; decide)
    refine ⟨a, m, rfl, rfl, fun c => ⟨fun c2 => ?_, fun c2 => ?_⟩, fun c => ?_⟩
    · have hg : Nat.gcd (a : Int).natAbs (m : Int).natAbs = 1 := by
        have : ((Nat.gcd a m : Nat) : Int) = 1 := of_decide_eq_true c
        exact Int.ofNat.inj this
      have m9 : (m : Int) ≤ 1200 := of_decide_eq_true c2
      have m2 := hm.1
      have cp := cu_pos (m := m) (by omega) (by omega)
      have ci := cu_int hm m9 ha hg
      rw [Int.toNat_natCast] at ci
      obtain ⟨o, ol, hI⟩ := least _ _ (Nat.le_refl _) cp.1 ci
      have om : (o : Int) ≤ m := by omega
      refine ⟨_, _, o, rfl, hm, ha, om, hI, ?_⟩
      have oo : ∀ {Φ' : PL.D → Prop}, Φ' (.int (o : Int)) → pfOr [rs (a : Int) m] Φ' noX := fun {Φ'} q => ⟨_, rfl, Kd_rs, .inr ⟨_, _, rfl, hm, ha, .inr ⟨hg, m9, fun o' _ h' => by rw [h'.uniq hI]; exact q⟩⟩⟩
      have g : Shw (.list [.int (o : Int), .int (o : Int)]) := by
        refine (gd_list (m := 0) (n := 2000) (k := 2) (ds := [.int (o : Int), .int (o : Int)]) (fun d hd => ?_) (Nat.le_refl _)).shw (by decide) (by decide)
        simp only [List.mem_cons, List.not_mem_nil, or_false, or_self] at hd
        subst hd
        exact gd_intW (Bd.lg (n := 20) (by unfold Bd; omega) (by decide) (by decide))
      refine oo (oo ⟨_, rfl, g, _, rfl, g, rfl, fun c => ?_, fun _ => ?_⟩)
      · rw [show eqS (PL.D.str (PyData.list [.int (o : Int), .int (o : Int)]).shown) (PL.D.str (PyData.list [.int (o : Int), .int (o : Int)]).shown) = true from decide_eq_true rfl] at c
        cases c
      · refine ⟨rfl, fun d hd => ⟨_, rfl, List.cons_ne_nil _ _, by show 5 ≤ 1000; decide, fun d2 hd2 => ⟨_, rfl, by decide, by decide, fun w w0 w2 => ⟨_, rfl, _, _, ⟨rfl, rfl⟩, ?_⟩⟩⟩⟩
        obtain ⟨o1, o2, o3⟩ := tl d hd d2 hd2
        exact irf_ok o1 (by decide) (fun Φ' Ξ' hx => cal_or w0 w2 ⟨_, rfl, o2, .inl ⟨o3, hx⟩⟩) q
    · refine ⟨rfl, fun d hd => ⟨_, rfl, List.cons_ne_nil _ _, by show 5 ≤ 1000; decide, fun d2 hd2 => ⟨_, rfl, by decide, by decide, fun w w0 w2 => ⟨_, rfl, _, _, ⟨rfl, rfl⟩, ?_⟩⟩⟩⟩
      obtain ⟨o1, o2, o3⟩ := tl d hd d2 hd2
      exact irf_ok o1 (by decide) (fun Φ' Ξ' hx => cal_or w0 w2 ⟨_, rfl, o2, .inl ⟨o3, hx⟩⟩) q
    · refine ⟨rfl, fun d hd => ⟨_, rfl, List.cons_ne_nil _ _, by show 5 ≤ 1000; decide, fun d2 hd2 => ⟨_, rfl, by decide, by decide, fun w w0 w2 => ⟨_, rfl, _, _, ⟨rfl, rfl⟩, ?_⟩⟩⟩⟩
      obtain ⟨o1, o2, o3⟩ := tl d hd d2 hd2
      exact irf_ok o1 (by decide) (fun Φ' Ξ' hx => cal_or w0 w2 ⟨_, rfl, o2, .inl ⟨o3, hx⟩⟩) q
abbrev GOrr (P : Program) (w : World) (K : PySem.W.Frag) (mg : Str → Option Value) (base : Heap) := FnG' P w K mg base "_law_orders_right" 15 ["_law_source_here", "_law_mine", "_law_ours", "_law_by"] pfOrr
theorem eq_un (ne : Bool) {i m j n : Int} (hne : m ≠ n) {Φ : PL.D → Prop} (q : Φ (.bl ne)) : dEqL kRs pfEq ne (rs i m) (rs j n) Φ := by
  refine ⟨⟨_, rfl⟩, .inl ⟨_, rfl⟩, i, m, _, rfl, Kd_rs, .inl ⟨j, n, rfl, _, rfl, ?_⟩⟩
  rw [show decide (m = n) = false from decide_eq_false hne, Bool.and_false]
  cases ne <;> exact q
/-! ### _law_joined_right -/
theorem scJnr : FnScope ["_law_source_here", "_law_mine", "_law_ours", "_law_by", "_law_their_by", "_law_theirs", "_law_mate", "_law_common", "_law_first", "_law_second", "_law_due", "_law_way", "_law_odd_here", "_law_found"] ["_law_source_here", "_law_mine", "_law_ours", "_law_by"] (defScope (top 54)) := ⟨rfl, rfl, rfl, by decide +kernel, rfl, by decide +kernel, by decide +kernel⟩
def pfJnr : PF := fun ds Φ _ => ∃ a m : Int, ds = [.jar, rs a m, .int a, .int m] ∧ Md m ∧ In a m ∧ Φ (.bl true)
theorem ok_jnr (DF : Df K mg "_law_joined_right" 54 f fd) (T : Txt K mg) (B : Cl_ K mg) (N : Sin P w K mg base) (TA : FTake P w K mg base) (PK : FPick P w K mg base) (OD' : FOdd P w K mg base) (BM : FBym P w K mg base) (WH : FWh P w K mg base) (SD : FShd P w K mg base) (EQ : Me P w K mg base kRs "__eq__" 1 ["self", "other"] pfEq) (JN : FJn P w K mg base) (jnK : KwB2 JN.fd ["one", "other"] K "other" "one") (IR : GIrf P w K mg base) (SH : GShown P w K mg base) :
    FnGP P w K mg base 15 f fd ["_law_source_here", "_law_mine", "_law_ours", "_law_by"] pfJnr := by
  refine fnGP DF.fn scJnr (fun ds Φ Ξ h => ?_) fun cdv A outer s H E J Ξ hr hgd wok => ⟨_, (qss_cons (qs_set (i := 4) scJnr.nd rfl (.inl rfl) (q_call BM.ok (hr.mono (by decide)) (by rfl) BM.gl BM.kp BM.bd (qa_cons (qv 0) qa_nil)))
      (qss_cons (qs_if (qt_cmp op_eq rd_eq (q_call TA.ok (hr.mono (by decide)) (by rfl) TA.gl TA.kp TA.bd (qa_cons (qv 0) (qa_cons q_int qa_nil))) q_int (nomark _)) (qss_one (qs_set (i := 4) scJnr.nd rfl (.inl rfl) (q_add q_int (q_call TA.ok (hr.mono (by decide)) (by rfl) TA.gl TA.kp TA.bd (qa_cons (qv 0) (qa_cons (q_add (q_fdiv (q_pow q_int q_int) (qv 3)) q_int) qa_nil)))))) qss_nil)
      (qss_cons (qs_set (i := 5) scJnr.nd rfl (.inl rfl) (q_mod (q_BT call_int1 rc_int1 (T.free "int" (by decide +kernel)) (by rfl) (by decide +kernel) (qa_cons (q_call WH.ok (hr.mono (by decide)) (by rfl) WH.gl WH.kp WH.bd (qa_cons (qv 0) qa_nil)) qa_nil)) (qv 4)))
      (qss_cons (qs_unp (by rfl) (ng_cons (i := 6) scJnr.nd rfl (.inr rfl) (ng_cons (i := 7) scJnr.nd rfl (.inl rfl) ng_nil)) (q_tup (qa_cons (q_make (dvs := []) (dds := []) N.mkr N.ok (hr.mono (by decide)) (by rfl) B.s.gl N.bd .nil (fun _ => .nil) pass00 wok0 (qa_cons (qv 5) (qa_cons (qv 4) qa_nil))) (qa_cons (q_call SD.ok (hr.mono (by decide)) (by rfl) SD.gl SD.kp SD.bd (qa_cons (qv 3) (qa_cons (qv 4) qa_nil))) qa_nil))))
      (qss_cons (qs_if (qt_cmp op_ne rd_ne (qv 3) (qv 4) (nomark _)) (qss_cons (qs_unp (by rfl) (ng_cons (i := 8) scJnr.nd rfl (.inr rfl) (ng_cons (i := 9) scJnr.nd rfl (.inr rfl) ng_nil)) (q_tup (qa_cons (q_adds q_str (q_BT call_str_int rc_str (T.free "str" (by decide +kernel)) (by rfl) (by decide +kernel) (qa_cons (qv 3) qa_nil))) (qa_cons (q_adds q_str (q_BT call_str_int rc_str (T.free "str" (by decide +kernel)) (by rfl) (by decide +kernel) (qa_cons (qv 4) qa_nil))) qa_nil))))
      (qss_cons (qs_lc (j := 10) (i := 11) rfl scJnr.nd rfl rfl (sw_true rfl rfl rfl (by decide +kernel)) (qi_list (q_lst (qa_cons q_int (qa_cons q_int (qa_cons q_int qa_nil))))) (blkOk_by (N := ["_law_source_here", "_law_mine", "_law_ours", "_law_by", "_law_their_by", "_law_theirs", "_law_mate", "_law_common", "_law_first", "_law_second", "_law_due", "_law_way", "_law_odd_here", "_law_found"]) (sc := defScope (top 54)) (by decide +kernel)) (fun _ _ _ _ _ => pg_name (i := 11) scJnr.nd rfl (.inl rfl)) (fun _ _ _ _ _ => (q_callG IR.ok (hr.mono (by decide)) hgd (by rfl) IR.gl IR.kp IR.bd (qa_cons (qv 11) (qa_cons (qv 1) (qa_cons (qv 6) (qa_cons q_str (qa_cons (q_tup (qa_cons (qv 8) (qa_cons (qv 9) qa_nil))) qa_nil))))))))
      (qss_cons (qs_set (i := 10) scJnr.nd rfl (.inl rfl) (q_cat (qv 10) (q_lc (i := 11) rfl scJnr.nd (qi_list (q_lst (qa_cons q_int (qa_cons q_int (qa_cons q_int qa_nil))))) (blkOk_by (N := ["_law_source_here", "_law_mine", "_law_ours", "_law_by", "_law_their_by", "_law_theirs", "_law_mate", "_law_common", "_law_first", "_law_second", "_law_due", "_law_way", "_law_odd_here", "_law_found"]) (sc := defScope (top 54)) (by decide +kernel)) (fun _ _ _ _ _ => pg_name (i := 11) scJnr.nd rfl (.inl rfl)) (fun _ _ _ _ _ => (q_callG IR.ok (hr.mono (by decide)) hgd (by rfl) IR.gl IR.kp IR.bd (qa_cons (qv 11) (qa_cons (qv 6) (qa_cons (qv 1) (qa_cons q_str (qa_cons (q_tup (qa_cons (qv 9) (qa_cons (qv 8) qa_nil))) qa_nil))))))))))
      (qss_one (qs_if (qt_pw (qw_or (qt_cmp (op_neD hr.units) rd_neD (qv 10) (q_rep (q_lst (qa_cons q_bl qa_nil)) q_int) (nomark _)) (qw_or (qt_cmp (op_eqL B.s.oc EQ.met EQ.ok (hr.mono (by decide)) EQ.bd false) rd_eqL (qv 1) (qv 6) (nomark _)) (qw_or (qt_cmp (op_eqL B.s.oc EQ.met EQ.ok (hr.mono (by decide)) EQ.bd false) rd_eqL (qv 6) (qv 1) (nomark _)) (qw_or1 (qt_not (qt_cmp (op_eqL B.s.oc EQ.met EQ.ok (hr.mono (by decide)) EQ.bd true) rd_eqL (qv 1) (qv 6) (nomark _)))))))) (qss_one (qs_ret q_bl)) qss_nil))))) qss_nil)
      (qss_cons (qs_set (i := 11) scJnr.nd rfl (.inl rfl) (q_add q_int (q_call TA.ok (hr.mono (by decide)) (by rfl) TA.gl TA.kp TA.bd (qa_cons (qv 0) (qa_cons q_int qa_nil)))))
      (qss_cons (qs_set (i := 12) scJnr.nd rfl (.inl rfl) (q_call OD'.ok (hr.mono (by decide)) (by rfl) OD'.gl OD'.kp OD'.bd (qa_cons (qv 0) qa_nil)))
      (qss_cons (qs_if (qt_not (qt_val (q_callG IR.ok (hr.mono (by decide)) hgd (by rfl) IR.gl IR.kp IR.bd (qa_cons (qv 11) (qa_cons (qv 12) (qa_cons (q_call PK.ok (hr.mono (by decide)) (by rfl) PK.gl PK.kp PK.bd (qa_cons (qv 0) (qa_cons (q_lst (qa_cons (qv 1) (qa_cons (qv 12) (qa_cons q_non qa_nil)))) qa_nil))) (qa_cons q_str (qa_cons (qv 12) qa_nil)))))))) (qss_one (qs_ret q_bl)) qss_nil)
      (qss_cons (qs_if (qt_not (qt_val (q_callG IR.ok (hr.mono (by decide)) hgd (by rfl) IR.gl IR.kp IR.bd (qa_cons (qv 11) (qa_cons (qv 1) (qa_cons (qv 12) (qa_cons q_str (qa_cons (qv 12) qa_nil)))))))) (qss_one (qs_ret q_bl)) qss_nil)
      (qss_cons (qs_if (qt_cmp op_gt rd_B0 (qv 7) q_int (nomark _)) (qss_one (qs_ret (q_callG IR.ok (hr.mono (by decide)) hgd (by rfl) IR.gl IR.kp IR.bd (qa_cons (qv 11) (qa_cons (qv 1) (qa_cons (qv 6) (qa_cons q_str (qa_cons (qv 7) qa_nil)))))))) qss_nil)
      (qss_cons (qs_if (qt_cmp op_gt rd_B0 (q_mul (qv 3) (qv 4)) (q_pow q_int q_int) (nomark _)) (qss_one (qs_ret (q_callG IR.ok (hr.mono (by decide)) hgd (by rfl) IR.gl IR.kp IR.bd (qa_cons (qv 11) (qa_cons (qv 1) (qa_cons (qv 6) (qa_cons q_str (qa_cons (q_mul (qv 3) (qv 4)) qa_nil)))))))) qss_nil)
      (qss_cons (qs_for (i := 13) (passes_of rfl) rfl (qi_list (q_lst (qa_cons (q_callX JN.ok (hr.mono (by decide)) (by rfl) JN.gl JN.kp JN.bd pass00 wok0 (qa_cons (qv 1) (qa_cons (qv 6) qa_nil))) (qa_cons (q_callK2X JN.ok (hr.mono (by decide)) (by rfl) JN.gl JN.kp jnK pass00 wok0 (qv 6) (qv 1)) (qa_cons (q_callX JN.ok (hr.mono (by decide)) (by rfl) JN.gl JN.kp JN.bd pass00 wok0 (qa_cons (qv 6) (qa_cons (qv 1) qa_nil))) qa_nil))))) scJnr.nd rfl (.inl rfl) (qss_cons (qs_if (qt_pw (qw_or (qt_not (qt_val (q_isi B.ics (T.free "isinstance" (by decide +kernel)) (by rfl) (pe_glob (v := .ref (He.ga K kRs)) (by rfl) B.s.gl rfl) (.own _) B.kRs_ (qv 13)))) (qw_or1 (qt_not (qt_val (q_callG SH.ok (hr.mono (by decide)) hgd (by rfl) SH.gl SH.kp SH.bd (qa_cons (qv 13) (qa_cons (q_fld B.s.cl B.number (qv 13)) (qa_cons (q_mul (qv 3) (qv 4)) qa_nil))))))))) (qss_one (qs_ret q_bl)) qss_nil)
      (qss_one (qs_if (qt_cmp (op_neD hr.units) rd_neD (q_lst (qa_cons (q_mod (q_BT call_int1 rc_int1 (T.free "int" (by decide +kernel)) (by rfl) (by decide +kernel) (qa_cons (q_fld B.s.cl B.number (qv 13)) qa_nil)) (qv 3)) (qa_cons (q_mod (q_BT call_int1 rc_int1 (T.free "int" (by decide +kernel)) (by rfl) (by decide +kernel) (qa_cons (q_fld B.s.cl B.number (qv 13)) qa_nil)) (qv 4)) qa_nil))) (q_lst (qa_cons (qv 2) (qa_cons (qv 5) qa_nil))) (nomark _)) (qss_one (qs_ret q_bl)) qss_nil))))
      (qss_one (qs_ret q_bl)))))))))))))), fun ds Φ h => ?_⟩
  · obtain ⟨_, _, rfl, _⟩ := h
    rfl
  · obtain ⟨a, m, rfl, hm, ha, q⟩ := h
    obtain ⟨a, rfl⟩ : ∃ x : Nat, a = (x : Int) := ⟨a.toNat, by have := ha.1; omega⟩
    obtain ⟨m, rfl⟩ : ∃ x : Nat, m = (x : Int) := ⟨m.toNat, by have := hm.1; omega⟩
    simp only [startD, pSeq, pNext, pSet, pRet, pRetN, pVar, pC, pNil, pCons, pTup, pLst, pOp, dI, dI0, pTest, dEq, dNe, pAnd, pOr, pNot, pIf, pIfS, pAndV, pOrV, pCall, pMeth, pFld, pB, pChain, pNoPart, pPart, pSl, dSlS, dSlC, dM1, pFmt, pJs3, pPar, pPar3, pUnp, pJarIx, pJarSet, dIxT, dIxL, dIxS, dIxC, dCat, dRep, dAddS, dOwn2, dOwnI, dOwnR, setAll, noX, List.map_cons, List.map_nil, List.length_cons, List.length_nil, List.cons_append, List.nil_append, List.replicate, List.getElem?_cons_succ, List.getElem?_cons_zero, List.set_cons_zero, List.set_cons_succ, List.zip_cons_cons, List.zip_nil_right, List.foldl_cons, List.foldl_nil, Option.some.injEq, exists_eq_left', exists_eq_left, exists_eq_right, exists_eq, exists_eq', PL.D.int.injEq, PL.D.bl.injEq, PL.D.str.injEq, PL.D.tup.injEq, PL.D.lst.injEq, PL.D.ins.injEq, PL.D.scr.injEq, List.cons.injEq, and_true, true_and, and_self, exists_and_left, exists_and_right, reduceCtorEq, false_and, and_false, exists_false, or_false, false_or, forall_const, false_implies, true_implies, Nat.reduceAdd, Nat.reduceSub, Nat.reduceLeDiff, exists_const, if_true, if_false, Bool.false_eq_true, ne_eq, not_false_eq_true, Nat.sub_self, List.append_nil, PL.isNon_non, PL.isNon_int, PL.isNon_str, PL.isNon_tup, PL.isNon_lst, PL.isNon_bl, pNever, Bool.not_true, Bool.not_false, Int.reduceLT, Int.reduceLE,  PL.pFld, fld_num, fld_mod, ex_rs, isNon_rs, pJs2]
    have cp6 : CPow 10 6 := ⟨by decide, by decide, by decide⟩
    have e6 : (10 : Int) ^ Int.toNat 6 = 1000000 := by decide
    have m2 := hm.1
    have lg : ∀ {m : Int}, Md m → m.natAbs.log2 < 1920 := fun h => h.bd.lg (by decide) (by decide)
    have ls : ∀ {m : Int}, Md m → (("rest " : String) : Str).length + (((toString m : String) : Str)).length ≤ 100000 := fun h => by
      have l := PyProof.Rows.int_text_len_1921 (lg h)
      have : (("rest " : String) : Str).length = 5 := rfl
      omega
    have ways : ∀ {Φ' : PL.D → Prop} {i j m n : Int} (d : PL.D), d ∈ ([.int 2, .int 3, .int 4] : List PL.D) → Md m → Md n → n ≠ m → Φ' (.bl true) → pfIrf [d, rs i m, rs j n, .str ("Unlike" : Str), .tup [.str (kn m), .str (kn n)]] Φ' noX := fun {Φ' i j m n} d hd hm hn hne q => by
      have go : ∀ k : Int, k = 2 ∨ k = 3 ∨ k = 4 → pfIrf [.int k, rs i m, rs j n, .str ("Unlike" : Str), .tup [.str (kn m), .str (kn n)]] Φ' noX := fun k hk => irf_ok (odd_kn hm hn) (by decide) (fun Φ' Ξ' hx => cal_ul hk ⟨i, m, j, n, rfl, rfl, hm, hn, hne, hx⟩) q
      simp only [List.mem_cons, List.not_mem_nil, or_false] at hd
      rcases hd with rfl | rfl | rfl
      · exact go 2 (.inl rfl)
      · exact go 3 (.inr (.inl rfl))
      · exact go 4 (.inr (.inr rfl))
    rw [e6]
    refine ⟨rfl, fun y hy => ⟨_, rfl, by decide, by decide, fun r r0 r2 => ⟨rfl, fun c => ⟨cp6, ?_, ?_⟩, fun c => ?_⟩⟩⟩
    · exact wide_div (b := 20) (by omega) (by have := hm.2; omega) (by decide) (by decide)
    · have q0 : 0 ≤ (1000000 : Int) / m := Int.ediv_nonneg (by decide) (by omega)
      have q9 : (1000000 : Int) / m ≤ 500000 := by
        refine Int.ediv_le_of_le_mul (by omega) ?_
        omega
      refine ⟨_, rfl, by omega, by omega, fun z z0 z9 => ⟨_, rfl, ?_⟩⟩
      have hn : Md (2 + z) := ⟨by omega, by omega⟩
      generalize 2 + z = n at hn ⊢
      obtain ⟨n, rfl⟩ : ∃ x : Nat, n = (x : Int) := ⟨n.toNat, by have := hn.1; omega⟩
      have n0 : 0 < (n : Int) := by have := hn.1; omega
      try simp only [startD, pSeq, pNext, pSet, pRet, pRetN, pVar, pC, pNil, pCons, pTup, pLst, pOp, dI, dI0, pTest, dEq, dNe, pAnd, pOr, pNot, pIf, pIfS, pAndV, pOrV, pCall, pMeth, pFld, pB, pChain, pNoPart, pPart, pSl, dSlS, dSlC, dM1, pFmt, pJs3, pPar, pPar3, pUnp, pJarIx, pJarSet, dIxT, dIxL, dIxS, dIxC, dCat, dRep, dAddS, dOwn2, dOwnI, dOwnR, setAll, noX, List.map_cons, List.map_nil, List.length_cons, List.length_nil, List.cons_append, List.nil_append, List.replicate, List.getElem?_cons_succ, List.getElem?_cons_zero, List.set_cons_zero, List.set_cons_succ, List.zip_cons_cons, List.zip_nil_right, List.foldl_cons, List.foldl_nil, Option.some.injEq, exists_eq_left', exists_eq_left, exists_eq_right, exists_eq, exists_eq', PL.D.int.injEq, PL.D.bl.injEq, PL.D.str.injEq, PL.D.tup.injEq, PL.D.lst.injEq, PL.D.ins.injEq, PL.D.scr.injEq, List.cons.injEq, and_true, true_and, and_self, exists_and_left, exists_and_right, reduceCtorEq, false_and, and_false, exists_false, or_false, false_or, forall_const, false_implies, true_implies, Nat.reduceAdd, Nat.reduceSub, Nat.reduceLeDiff, exists_const, if_true, if_false, Bool.false_eq_true, ne_eq, not_false_eq_true, Nat.sub_self, List.append_nil, PL.isNon_non, PL.isNon_int, PL.isNon_str, PL.isNon_tup, PL.isNon_lst, PL.isNon_bl, pNever, Bool.not_true, Bool.not_false, Int.reduceLT, Int.reduceLE,  PL.pFld, fld_num, fld_mod, ex_rs, isNon_rs, pJs2]
      refine ⟨rfl, fun i hi => ⟨_, rfl, n0, sin_ok hn ?_⟩⟩
      rw [Int.emod_emod]
      generalize hb' : i % (n : Int) = b
      have hb : In b n := by rw [← hb']; exact in_mod hn
      refine ⟨m, n, rfl, rfl, fun c => ?_, fun c => ?_⟩
      · have hne : (n : Int) ≠ m := fun z => by
          rw [z, show eqS (PL.D.int (m : Int)) (PL.D.int (m : Int)) = true from decide_eq_true rfl] at c
          cases c
        refine ⟨lg hm, ls hm, lg hn, ls hn, by show 3 ≤ 1000; decide, fun _ y => y = .bl true, fun _ _ e => by rw [e]; trivial, fun j d hj => ?_, fun ys hl hy => ?_⟩
        · simp only [startD, pSeq, pNext, pSet, pRet, pRetN, pVar, pC, pNil, pCons, pTup, pLst, pOp, dI, dI0, pTest, dEq, dNe, pAnd, pOr, pNot, pIf, pIfS, pAndV, pOrV, pCall, pMeth, pFld, pB, pChain, pNoPart, pPart, pSl, dSlS, dSlC, dM1, pFmt, pJs3, pPar, pPar3, pUnp, pJarIx, pJarSet, dIxT, dIxL, dIxS, dIxC, dCat, dRep, dAddS, dOwn2, dOwnI, dOwnR, setAll, noX, List.map_cons, List.map_nil, List.length_cons, List.length_nil, List.cons_append, List.nil_append, List.replicate, List.getElem?_cons_succ, List.getElem?_cons_zero, List.set_cons_zero, List.set_cons_succ, List.zip_cons_cons, List.zip_nil_right, List.foldl_cons, List.foldl_nil, Option.some.injEq, exists_eq_left', exists_eq_left, exists_eq_right, exists_eq, exists_eq', PL.D.int.injEq, PL.D.bl.injEq, PL.D.str.injEq, PL.D.tup.injEq, PL.D.lst.injEq, PL.D.ins.injEq, PL.D.scr.injEq, List.cons.injEq, and_true, true_and, and_self, exists_and_left, exists_and_right, reduceCtorEq, false_and, and_false, exists_false, or_false, false_or, forall_const, false_implies, true_implies, Nat.reduceAdd, Nat.reduceSub, Nat.reduceLeDiff, exists_const, if_true, if_false, Bool.false_eq_true, ne_eq, not_false_eq_true, Nat.sub_self, List.append_nil, PL.isNon_non, PL.isNon_int, PL.isNon_str, PL.isNon_tup, PL.isNon_lst, PL.isNon_bl, pNever, Bool.not_true, Bool.not_false, Int.reduceLT, Int.reduceLE,  PL.pFld, fld_num, fld_mod, ex_rs, isNon_rs, pJs2]
          exact ways d (List.mem_of_getElem? hj) hm hn hne rfl
        rw [all_true hl hy]
        refine ⟨by show 3 ≤ 1000; decide, fun _ y => y = .bl true, fun _ _ e => by rw [e]; trivial, fun j d hj => ?_, fun ys hl hy => ?_⟩
        · simp only [startD, pSeq, pNext, pSet, pRet, pRetN, pVar, pC, pNil, pCons, pTup, pLst, pOp, dI, dI0, pTest, dEq, dNe, pAnd, pOr, pNot, pIf, pIfS, pAndV, pOrV, pCall, pMeth, pFld, pB, pChain, pNoPart, pPart, pSl, dSlS, dSlC, dM1, pFmt, pJs3, pPar, pPar3, pUnp, pJarIx, pJarSet, dIxT, dIxL, dIxS, dIxC, dCat, dRep, dAddS, dOwn2, dOwnI, dOwnR, setAll, noX, List.map_cons, List.map_nil, List.length_cons, List.length_nil, List.cons_append, List.nil_append, List.replicate, List.getElem?_cons_succ, List.getElem?_cons_zero, List.set_cons_zero, List.set_cons_succ, List.zip_cons_cons, List.zip_nil_right, List.foldl_cons, List.foldl_nil, Option.some.injEq, exists_eq_left', exists_eq_left, exists_eq_right, exists_eq, exists_eq', PL.D.int.injEq, PL.D.bl.injEq, PL.D.str.injEq, PL.D.tup.injEq, PL.D.lst.injEq, PL.D.ins.injEq, PL.D.scr.injEq, List.cons.injEq, and_true, true_and, and_self, exists_and_left, exists_and_right, reduceCtorEq, false_and, and_false, exists_false, or_false, false_or, forall_const, false_implies, true_implies, Nat.reduceAdd, Nat.reduceSub, Nat.reduceLeDiff, exists_const, if_true, if_false, Bool.false_eq_true, ne_eq, not_false_eq_true, Nat.sub_self, List.append_nil, PL.isNon_non, PL.isNon_int, PL.isNon_str, PL.isNon_tup, PL.isNon_lst, PL.isNon_bl, pNever, Bool.not_true, Bool.not_false, Int.reduceLT, Int.reduceLE,  PL.pFld, fld_num, fld_mod, ex_rs, isNon_rs, pJs2]
          exact ways d (List.mem_of_getElem? hj) hn hm (Ne.symm hne) rfl
        rw [all_true hl hy]
        refine ⟨_, rfl, _, rfl, by show 6 ≤ 1000; decide, by decide, _, _, rfl, rfl, rfl, rfl, false, rfl, fun c => (by cases c), fun _ => ?_⟩
        refine eq_un false (Ne.symm hne) ⟨_, rfl, fun c => (by cases c), fun _ => eq_un false hne ⟨_, rfl, fun c => (by cases c), fun _ => eq_un true (Ne.symm hne) ⟨_, rfl, fun c => (by cases c), fun _ => ?_⟩⟩⟩
        simp only [startD, pSeq, pNext, pSet, pRet, pRetN, pVar, pC, pNil, pCons, pTup, pLst, pOp, dI, dI0, pTest, dEq, dNe, pAnd, pOr, pNot, pIf, pIfS, pAndV, pOrV, pCall, pMeth, pFld, pB, pChain, pNoPart, pPart, pSl, dSlS, dSlC, dM1, pFmt, pJs3, pPar, pPar3, pUnp, pJarIx, pJarSet, dIxT, dIxL, dIxS, dIxC, dCat, dRep, dAddS, dOwn2, dOwnI, dOwnR, setAll, noX, List.map_cons, List.map_nil, List.length_cons, List.length_nil, List.cons_append, List.nil_append, List.replicate, List.getElem?_cons_succ, List.getElem?_cons_zero, List.set_cons_zero, List.set_cons_succ, List.zip_cons_cons, List.zip_nil_right, List.foldl_cons, List.foldl_nil, Option.some.injEq, exists_eq_left', exists_eq_left, exists_eq_right, exists_eq, exists_eq', PL.D.int.injEq, PL.D.bl.injEq, PL.D.str.injEq, PL.D.tup.injEq, PL.D.lst.injEq, PL.D.ins.injEq, PL.D.scr.injEq, List.cons.injEq, and_true, true_and, and_self, exists_and_left, exists_and_right, reduceCtorEq, false_and, and_false, exists_false, or_false, false_or, forall_const, false_implies, true_implies, Nat.reduceAdd, Nat.reduceSub, Nat.reduceLeDiff, exists_const, if_true, if_false, Bool.false_eq_true, ne_eq, not_false_eq_true, Nat.sub_self, List.append_nil, PL.isNon_non, PL.isNon_int, PL.isNon_str, PL.isNon_tup, PL.isNon_lst, PL.isNon_bl, pNever, Bool.not_true, Bool.not_false, Int.reduceLT, Int.reduceLE,  PL.pFld, fld_num, fld_mod, ex_rs, isNon_rs, pJs2, pFor]
        have mn : CMulW (m : Int) (n : Int) := hm.bd.mulW hn.bd (by decide) (by decide) (by decide)
        refine ⟨_, rfl, by decide, by decide, fun w w0 w2 => ⟨_, rfl, rfl, fun d3 hd3 => ⟨_, rfl, List.cons_ne_nil _ _, by show 3 ≤ 1000; decide, fun d4 hd4 => ?_⟩⟩⟩
        have k4 : Kd d4 := by
          simp only [List.mem_cons, List.not_mem_nil, or_false] at hd4
          rcases hd4 with rfl | rfl | rfl
          · exact Kd_rs
          · exact menu_kd _ hd3
          · trivial
        refine irf_ok (menu_odd d3 hd3) (by decide) (fun Φ' Ξ' hx => cal_jn w0 w2 ⟨_, _, rfl, menu_kd d3 hd3, k4, .inl ⟨menu_rs d3 hd3, hx⟩⟩) ⟨_, rfl, fun c => (by cases c), fun _ => ?_⟩
        refine irf_ok (menu_odd d3 hd3) (by decide) (fun Φ' Ξ' hx => cal_jn w0 w2 ⟨_, _, rfl, Kd_rs, menu_kd d3 hd3, .inr (.inl ⟨rfl, menu_rs d3 hd3, hx⟩)⟩) ⟨_, rfl, fun c => (by cases c), fun _ => ?_⟩
        have g9 : Nat.gcd m n ≤ m := Nat.gcd_le_left _ (by omega)
        have g0 : 0 < Nat.gcd m n := Nat.gcd_pos_of_pos_left _ (by omega)
        have m9 := hm.2
        refine ⟨fun c1 => ?_, fun c1 => ⟨mn, cp6, fun c2 => ⟨mn, ?_⟩, fun c2 => ?_⟩⟩
        · have c1 : (1 : Int) < ((Nat.gcd m n : Nat) : Int) := of_decide_eq_true c1
          exact irf_ok (odd_int _ (by unfold Bd; rw [Int.natAbs_natCast]; exact Nat.lt_of_le_of_lt (show Nat.gcd m n ≤ 1000000 by omega) (by decide))) (by decide) (fun Φ' Ξ' hx => cal_jn w0 w2 ⟨_, _, rfl, Kd_rs, Kd_rs, .inr (.inr ⟨_, _, _, _, rfl, rfl, hm, hn, ha, hb, .inl ⟨Int.ofNat_lt.mp c1, hx⟩⟩)⟩) q
        · have c1 : ¬ (1 : Int) < ((Nat.gcd m n : Nat) : Int) := of_decide_eq_false c1
          have g1 : Nat.gcd m n = 1 := by omega
          exact irf_ok (odd_int _ ((hm.bd.mul hn.bd).mono (by decide))) (by decide) (fun Φ' Ξ' hx => cal_jn w0 w2 ⟨_, _, rfl, Kd_rs, Kd_rs, .inr (.inr ⟨_, _, _, _, rfl, rfl, hm, hn, ha, hb, .inr (.inl ⟨g1, of_decide_eq_true c2, hx⟩)⟩)⟩) q
        have c1 : ¬ (1 : Int) < ((Nat.gcd m n : Nat) : Int) := of_decide_eq_false c1
        have g1 : Nat.gcd m n = 1 := by omega
        have mn9 : (m : Int) * n ≤ 1000000 := Int.not_lt.mp (of_decide_eq_false c2)
        have hmn := hm.mul hn mn9
        have jn : ∀ {Φ' : PL.D → Prop}, (∀ x, In x ((m : Int) * n) → x % m = a → x % n = b → Φ' (rs x ((m : Int) * n))) → pfJn [rs (a : Int) m, rs b n] Φ' noX := fun h => ⟨_, _, rfl, Kd_rs, Kd_rs, .inr (.inr ⟨_, _, _, _, rfl, rfl, hm, hn, ha, hb, .inr (.inr ⟨g1, mn9, h⟩)⟩)⟩
        have jn2 : ∀ {Φ' : PL.D → Prop}, (∀ x, In x ((m : Int) * n) → x % m = a → x % n = b → Φ' (rs x ((m : Int) * n))) → pfJn [rs b n, rs (a : Int) m] Φ' noX := fun h => ⟨_, _, rfl, Kd_rs, Kd_rs, .inr (.inr ⟨_, _, _, _, rfl, rfl, hn, hm, hb, ha, .inr (.inr ⟨by rw [Nat.gcd_comm]; exact g1, by rw [Int.mul_comm]; exact mn9, fun x x0 x1 x2 => by rw [Int.mul_comm] at x0 ⊢; exact h x x0 x2 x1⟩)⟩)⟩
        refine jn fun x1 h1 a1 b1 => jn fun x2 h2 a2 b2 => jn2 fun x3 h3 a3 b3 => ?_
        refine ⟨fun j ρ => ∃ z, ρ = [some .jar, some (rs (a : Int) m), some (.int (a : Int)), some (.int (m : Int)), some (.int (n : Int)), some (.int b), some (rs b n), some (.int (Nat.gcd m n : Nat)), some (.str (("rest " : Str) ++ ((toString (m : Int) : String) : Str))), some (.str (("rest " : Str) ++ ((toString (n : Int) : String) : Str))), some (.lst [.bl true, .bl true, .bl true, .bl true, .bl true, .bl true]), some (.int (9 + w)), some d3, z], ⟨_, rfl⟩, fun j d ρ hd hρ => ?_, fun ρ _ => q⟩
        obtain ⟨x, rfl, hx, ax, bx⟩ : ∃ x, d = rs x ((m : Int) * n) ∧ In x ((m : Int) * n) ∧ x % m = a ∧ x % n = b := by
          have := List.mem_of_getElem? hd
          simp only [List.mem_cons, List.not_mem_nil, or_false] at this
          rcases this with rfl | rfl | rfl
          · exact ⟨_, rfl, h1, a1, b1⟩
          · exact ⟨_, rfl, h2, a2, b2⟩
          · exact ⟨_, rfl, h3, a3, b3⟩
        obtain ⟨z, rfl⟩ := hρ
        simp only [startD, pSeq, pNext, pSet, pRet, pRetN, pVar, pC, pNil, pCons, pTup, pLst, pOp, dI, dI0, pTest, dEq, dNe, pAnd, pOr, pNot, pIf, pIfS, pAndV, pOrV, pCall, pMeth, pFld, pB, pChain, pNoPart, pPart, pSl, dSlS, dSlC, dM1, pFmt, pJs3, pPar, pPar3, pUnp, pJarIx, pJarSet, dIxT, dIxL, dIxS, dIxC, dCat, dRep, dAddS, dOwn2, dOwnI, dOwnR, setAll, noX, List.map_cons, List.map_nil, List.length_cons, List.length_nil, List.cons_append, List.nil_append, List.replicate, List.getElem?_cons_succ, List.getElem?_cons_zero, List.set_cons_zero, List.set_cons_succ, List.zip_cons_cons, List.zip_nil_right, List.foldl_cons, List.foldl_nil, Option.some.injEq, exists_eq_left', exists_eq_left, exists_eq_right, exists_eq, exists_eq', PL.D.int.injEq, PL.D.bl.injEq, PL.D.str.injEq, PL.D.tup.injEq, PL.D.lst.injEq, PL.D.ins.injEq, PL.D.scr.injEq, List.cons.injEq, and_true, true_and, and_self, exists_and_left, exists_and_right, reduceCtorEq, false_and, and_false, exists_false, or_false, false_or, forall_const, false_implies, true_implies, Nat.reduceAdd, Nat.reduceSub, Nat.reduceLeDiff, exists_const, if_true, if_false, Bool.false_eq_true, ne_eq, not_false_eq_true, Nat.sub_self, List.append_nil, PL.isNon_non, PL.isNon_int, PL.isNon_str, PL.isNon_tup, PL.isNon_lst, PL.isNon_bl, pNever, Bool.not_true, Bool.not_false, Int.reduceLT, Int.reduceLE,  PL.pFld, fld_num, fld_mod, ex_rs, isNon_rs, pJs2]
        rw [ax, bx]
        refine ⟨Kd_rs.ty, fun c => (by cases c), fun _ => ⟨mn, _, _, rfl, hmn, hx, _, rfl, fun c => (by cases c), fun _ => ⟨by omega, n0, _, _, rfl, rfl, rfl, rfl, _, rfl, fun c => ?_, fun _ => trivial⟩⟩⟩
        simp only [PyData.eqv, PyData.eqvAll, beq_self_eq_true, Bool.and_self, Bool.not_true, Bool.false_eq_true] at c
      · simp only [startD, pSeq, pNext, pSet, pRet, pRetN, pVar, pC, pNil, pCons, pTup, pLst, pOp, dI, dI0, pTest, dEq, dNe, pAnd, pOr, pNot, pIf, pIfS, pAndV, pOrV, pCall, pMeth, pFld, pB, pChain, pNoPart, pPart, pSl, dSlS, dSlC, dM1, pFmt, pJs3, pPar, pPar3, pUnp, pJarIx, pJarSet, dIxT, dIxL, dIxS, dIxC, dCat, dRep, dAddS, dOwn2, dOwnI, dOwnR, setAll, noX, List.map_cons, List.map_nil, List.length_cons, List.length_nil, List.cons_append, List.nil_append, List.replicate, List.getElem?_cons_succ, List.getElem?_cons_zero, List.set_cons_zero, List.set_cons_succ, List.zip_cons_cons, List.zip_nil_right, List.foldl_cons, List.foldl_nil, Option.some.injEq, exists_eq_left', exists_eq_left, exists_eq_right, exists_eq, exists_eq', PL.D.int.injEq, PL.D.bl.injEq, PL.D.str.injEq, PL.D.tup.injEq, PL.D.lst.injEq, PL.D.ins.injEq, PL.D.scr.injEq, List.cons.injEq, and_true, true_and, and_self, exists_and_left, exists_and_right, reduceCtorEq, false_and, and_false, exists_false, or_false, false_or, forall_const, false_implies, true_implies, Nat.reduceAdd, Nat.reduceSub, Nat.reduceLeDiff, exists_const, if_true, if_false, Bool.false_eq_true, ne_eq, not_false_eq_true, Nat.sub_self, List.append_nil, PL.isNon_non, PL.isNon_int, PL.isNon_str, PL.isNon_tup, PL.isNon_lst, PL.isNon_bl, pNever, Bool.not_true, Bool.not_false, Int.reduceLT, Int.reduceLE,  PL.pFld, fld_num, fld_mod, ex_rs, isNon_rs, pJs2, pFor]
        have mn : CMulW (m : Int) (n : Int) := hm.bd.mulW hn.bd (by decide) (by decide) (by decide)
        refine ⟨_, rfl, by decide, by decide, fun w w0 w2 => ⟨_, rfl, rfl, fun d3 hd3 => ⟨_, rfl, List.cons_ne_nil _ _, by show 3 ≤ 1000; decide, fun d4 hd4 => ?_⟩⟩⟩
        have k4 : Kd d4 := by
          simp only [List.mem_cons, List.not_mem_nil, or_false] at hd4
          rcases hd4 with rfl | rfl | rfl
          · exact Kd_rs
          · exact menu_kd _ hd3
          · trivial
        refine irf_ok (menu_odd d3 hd3) (by decide) (fun Φ' Ξ' hx => cal_jn w0 w2 ⟨_, _, rfl, menu_kd d3 hd3, k4, .inl ⟨menu_rs d3 hd3, hx⟩⟩) ⟨_, rfl, fun c => (by cases c), fun _ => ?_⟩
        refine irf_ok (menu_odd d3 hd3) (by decide) (fun Φ' Ξ' hx => cal_jn w0 w2 ⟨_, _, rfl, Kd_rs, menu_kd d3 hd3, .inr (.inl ⟨rfl, menu_rs d3 hd3, hx⟩)⟩) ⟨_, rfl, fun c => (by cases c), fun _ => ?_⟩
        have g9 : Nat.gcd m n ≤ m := Nat.gcd_le_left _ (by omega)
        have g0 : 0 < Nat.gcd m n := Nat.gcd_pos_of_pos_left _ (by omega)
        have m9 := hm.2
        refine ⟨fun c1 => ?_, fun c1 => ⟨mn, cp6, fun c2 => ⟨mn, ?_⟩, fun c2 => ?_⟩⟩
        · have c1 : (1 : Int) < ((Nat.gcd m n : Nat) : Int) := of_decide_eq_true c1
          exact irf_ok (odd_int _ (by unfold Bd; rw [Int.natAbs_natCast]; exact Nat.lt_of_le_of_lt (show Nat.gcd m n ≤ 1000000 by omega) (by decide))) (by decide) (fun Φ' Ξ' hx => cal_jn w0 w2 ⟨_, _, rfl, Kd_rs, Kd_rs, .inr (.inr ⟨_, _, _, _, rfl, rfl, hm, hn, ha, hb, .inl ⟨Int.ofNat_lt.mp c1, hx⟩⟩)⟩) q
        · have c1 : ¬ (1 : Int) < ((Nat.gcd m n : Nat) : Int) := of_decide_eq_false c1
          have g1 : Nat.gcd m n = 1 := by omega
          exact irf_ok (odd_int _ ((hm.bd.mul hn.bd).mono (by decide))) (by decide) (fun Φ' Ξ' hx => cal_jn w0 w2 ⟨_, _, rfl, Kd_rs, Kd_rs, .inr (.inr ⟨_, _, _, _, rfl, rfl, hm, hn, ha, hb, .inr (.inl ⟨g1, of_decide_eq_true c2, hx⟩)⟩)⟩) q
        have c1 : ¬ (1 : Int) < ((Nat.gcd m n : Nat) : Int) := of_decide_eq_false c1
        have g1 : Nat.gcd m n = 1 := by omega
        have mn9 : (m : Int) * n ≤ 1000000 := Int.not_lt.mp (of_decide_eq_false c2)
        have hmn := hm.mul hn mn9
        have jn : ∀ {Φ' : PL.D → Prop}, (∀ x, In x ((m : Int) * n) → x % m = a → x % n = b → Φ' (rs x ((m : Int) * n))) → pfJn [rs (a : Int) m, rs b n] Φ' noX := fun h => ⟨_, _, rfl, Kd_rs, Kd_rs, .inr (.inr ⟨_, _, _, _, rfl, rfl, hm, hn, ha, hb, .inr (.inr ⟨g1, mn9, h⟩)⟩)⟩
        have jn2 : ∀ {Φ' : PL.D → Prop}, (∀ x, In x ((m : Int) * n) → x % m = a → x % n = b → Φ' (rs x ((m : Int) * n))) → pfJn [rs b n, rs (a : Int) m] Φ' noX := fun h => ⟨_, _, rfl, Kd_rs, Kd_rs, .inr (.inr ⟨_, _, _, _, rfl, rfl, hn, hm, hb, ha, .inr (.inr ⟨by rw [Nat.gcd_comm]; exact g1, by rw [Int.mul_comm]; exact mn9, fun x x0 x1 x2 => by rw [Int.mul_comm] at x0 ⊢; exact h x x0 x2 x1⟩)⟩)⟩
        refine jn fun x1 h1 a1 b1 => jn fun x2 h2 a2 b2 => jn2 fun x3 h3 a3 b3 => ?_
        refine ⟨fun j ρ => ∃ z, ρ = [some .jar, some (rs (a : Int) m), some (.int (a : Int)), some (.int (m : Int)), some (.int (n : Int)), some (.int b), some (rs b n), some (.int (Nat.gcd m n : Nat)), none, none, none, some (.int (9 + w)), some d3, z], ⟨_, rfl⟩, fun j d ρ hd hρ => ?_, fun ρ _ => q⟩
        obtain ⟨x, rfl, hx, ax, bx⟩ : ∃ x, d = rs x ((m : Int) * n) ∧ In x ((m : Int) * n) ∧ x % m = a ∧ x % n = b := by
          have := List.mem_of_getElem? hd
          simp only [List.mem_cons, List.not_mem_nil, or_false] at this
          rcases this with rfl | rfl | rfl
          · exact ⟨_, rfl, h1, a1, b1⟩
          · exact ⟨_, rfl, h2, a2, b2⟩
          · exact ⟨_, rfl, h3, a3, b3⟩
        obtain ⟨z, rfl⟩ := hρ
        simp only [startD, pSeq, pNext, pSet, pRet, pRetN, pVar, pC, pNil, pCons, pTup, pLst, pOp, dI, dI0, pTest, dEq, dNe, pAnd, pOr, pNot, pIf, pIfS, pAndV, pOrV, pCall, pMeth, pFld, pB, pChain, pNoPart, pPart, pSl, dSlS, dSlC, dM1, pFmt, pJs3, pPar, pPar3, pUnp, pJarIx, pJarSet, dIxT, dIxL, dIxS, dIxC, dCat, dRep, dAddS, dOwn2, dOwnI, dOwnR, setAll, noX, List.map_cons, List.map_nil, List.length_cons, List.length_nil, List.cons_append, List.nil_append, List.replicate, List.getElem?_cons_succ, List.getElem?_cons_zero, List.set_cons_zero, List.set_cons_succ, List.zip_cons_cons, List.zip_nil_right, List.foldl_cons, List.foldl_nil, Option.some.injEq, exists_eq_left', exists_eq_left, exists_eq_right, exists_eq, exists_eq', PL.D.int.injEq, PL.D.bl.injEq, PL.D.str.injEq, PL.D.tup.injEq, PL.D.lst.injEq, PL.D.ins.injEq, PL.D.scr.injEq, List.cons.injEq, and_true, true_and, and_self, exists_and_left, exists_and_right, reduceCtorEq, false_and, and_false, exists_false, or_false, false_or, forall_const, false_implies, true_implies, Nat.reduceAdd, Nat.reduceSub, Nat.reduceLeDiff, exists_const, if_true, if_false, Bool.false_eq_true, ne_eq, not_false_eq_true, Nat.sub_self, List.append_nil, PL.isNon_non, PL.isNon_int, PL.isNon_str, PL.isNon_tup, PL.isNon_lst, PL.isNon_bl, pNever, Bool.not_true, Bool.not_false, Int.reduceLT, Int.reduceLE,  PL.pFld, fld_num, fld_mod, ex_rs, isNon_rs, pJs2]
        rw [ax, bx]
        refine ⟨Kd_rs.ty, fun c => (by cases c), fun _ => ⟨mn, _, _, rfl, hmn, hx, _, rfl, fun c => (by cases c), fun _ => ⟨by omega, n0, _, _, rfl, rfl, rfl, rfl, _, rfl, fun c => ?_, fun _ => trivial⟩⟩⟩
        simp only [PyData.eqv, PyData.eqvAll, beq_self_eq_true, Bool.and_self, Bool.not_true, Bool.false_eq_true] at c
    · have hn := hy
      obtain ⟨n, rfl⟩ : ∃ x : Nat, y = (x : Int) := ⟨y.toNat, by have := hn.1; omega⟩
      have n0 : 0 < (n : Int) := by have := hn.1; omega
      try simp only [startD, pSeq, pNext, pSet, pRet, pRetN, pVar, pC, pNil, pCons, pTup, pLst, pOp, dI, dI0, pTest, dEq, dNe, pAnd, pOr, pNot, pIf, pIfS, pAndV, pOrV, pCall, pMeth, pFld, pB, pChain, pNoPart, pPart, pSl, dSlS, dSlC, dM1, pFmt, pJs3, pPar, pPar3, pUnp, pJarIx, pJarSet, dIxT, dIxL, dIxS, dIxC, dCat, dRep, dAddS, dOwn2, dOwnI, dOwnR, setAll, noX, List.map_cons, List.map_nil, List.length_cons, List.length_nil, List.cons_append, List.nil_append, List.replicate, List.getElem?_cons_succ, List.getElem?_cons_zero, List.set_cons_zero, List.set_cons_succ, List.zip_cons_cons, List.zip_nil_right, List.foldl_cons, List.foldl_nil, Option.some.injEq, exists_eq_left', exists_eq_left, exists_eq_right, exists_eq, exists_eq', PL.D.int.injEq, PL.D.bl.injEq, PL.D.str.injEq, PL.D.tup.injEq, PL.D.lst.injEq, PL.D.ins.injEq, PL.D.scr.injEq, List.cons.injEq, and_true, true_and, and_self, exists_and_left, exists_and_right, reduceCtorEq, false_and, and_false, exists_false, or_false, false_or, forall_const, false_implies, true_implies, Nat.reduceAdd, Nat.reduceSub, Nat.reduceLeDiff, exists_const, if_true, if_false, Bool.false_eq_true, ne_eq, not_false_eq_true, Nat.sub_self, List.append_nil, PL.isNon_non, PL.isNon_int, PL.isNon_str, PL.isNon_tup, PL.isNon_lst, PL.isNon_bl, pNever, Bool.not_true, Bool.not_false, Int.reduceLT, Int.reduceLE,  PL.pFld, fld_num, fld_mod, ex_rs, isNon_rs, pJs2]
      refine ⟨rfl, fun i hi => ⟨_, rfl, n0, sin_ok hn ?_⟩⟩
      rw [Int.emod_emod]
      generalize hb' : i % (n : Int) = b
      have hb : In b n := by rw [← hb']; exact in_mod hn
      refine ⟨m, n, rfl, rfl, fun c => ?_, fun c => ?_⟩
      · have hne : (n : Int) ≠ m := fun z => by
          rw [z, show eqS (PL.D.int (m : Int)) (PL.D.int (m : Int)) = true from decide_eq_true rfl] at c
          cases c
        refine ⟨lg hm, ls hm, lg hn, ls hn, by show 3 ≤ 1000; decide, fun _ y => y = .bl true, fun _ _ e => by rw [e]; trivial, fun j d hj => ?_, fun ys hl hy => ?_⟩
        · simp only [startD, pSeq, pNext, pSet, pRet, pRetN, pVar, pC, pNil, pCons, pTup, pLst, pOp, dI, dI0, pTest, dEq, dNe, pAnd, pOr, pNot, pIf, pIfS, pAndV, pOrV, pCall, pMeth, pFld, pB, pChain, pNoPart, pPart, pSl, dSlS, dSlC, dM1, pFmt, pJs3, pPar, pPar3, pUnp, pJarIx, pJarSet, dIxT, dIxL, dIxS, dIxC, dCat, dRep, dAddS, dOwn2, dOwnI, dOwnR, setAll, noX, List.map_cons, List.map_nil, List.length_cons, List.length_nil, List.cons_append, List.nil_append, List.replicate, List.getElem?_cons_succ, List.getElem?_cons_zero, List.set_cons_zero, List.set_cons_succ, List.zip_cons_cons, List.zip_nil_right, List.foldl_cons, List.foldl_nil, Option.some.injEq, exists_eq_left', exists_eq_left, exists_eq_right, exists_eq, exists_eq', PL.D.int.injEq, PL.D.bl.injEq, PL.D.str.injEq, PL.D.tup.injEq, PL.D.lst.injEq, PL.D.ins.injEq, PL.D.scr.injEq, List.cons.injEq, and_true, true_and, and_self, exists_and_left, exists_and_right, reduceCtorEq, false_and, and_false, exists_false, or_false, false_or, forall_const, false_implies, true_implies, Nat.reduceAdd, Nat.reduceSub, Nat.reduceLeDiff, exists_const, if_true, if_false, Bool.false_eq_true, ne_eq, not_false_eq_true, Nat.sub_self, List.append_nil, PL.isNon_non, PL.isNon_int, PL.isNon_str, PL.isNon_tup, PL.isNon_lst, PL.isNon_bl, pNever, Bool.not_true, Bool.not_false, Int.reduceLT, Int.reduceLE,  PL.pFld, fld_num, fld_mod, ex_rs, isNon_rs, pJs2]
          exact ways d (List.mem_of_getElem? hj) hm hn hne rfl
        rw [all_true hl hy]
        refine ⟨by show 3 ≤ 1000; decide, fun _ y => y = .bl true, fun _ _ e => by rw [e]; trivial, fun j d hj => ?_, fun ys hl hy => ?_⟩
        · simp only [startD, pSeq, pNext, pSet, pRet, pRetN, pVar, pC, pNil, pCons, pTup, pLst, pOp, dI, dI0, pTest, dEq, dNe, pAnd, pOr, pNot, pIf, pIfS, pAndV, pOrV, pCall, pMeth, pFld, pB, pChain, pNoPart, pPart, pSl, dSlS, dSlC, dM1, pFmt, pJs3, pPar, pPar3, pUnp, pJarIx, pJarSet, dIxT, dIxL, dIxS, dIxC, dCat, dRep, dAddS, dOwn2, dOwnI, dOwnR, setAll, noX, List.map_cons, List.map_nil, List.length_cons, List.length_nil, List.cons_append, List.nil_append, List.replicate, List.getElem?_cons_succ, List.getElem?_cons_zero, List.set_cons_zero, List.set_cons_succ, List.zip_cons_cons, List.zip_nil_right, List.foldl_cons, List.foldl_nil, Option.some.injEq, exists_eq_left', exists_eq_left, exists_eq_right, exists_eq, exists_eq', PL.D.int.injEq, PL.D.bl.injEq, PL.D.str.injEq, PL.D.tup.injEq, PL.D.lst.injEq, PL.D.ins.injEq, PL.D.scr.injEq, List.cons.injEq, and_true, true_and, and_self, exists_and_left, exists_and_right, reduceCtorEq, false_and, and_false, exists_false, or_false, false_or, forall_const, false_implies, true_implies, Nat.reduceAdd, Nat.reduceSub, Nat.reduceLeDiff, exists_const, if_true, if_false, Bool.false_eq_true, ne_eq, not_false_eq_true, Nat.sub_self, List.append_nil, PL.isNon_non, PL.isNon_int, PL.isNon_str, PL.isNon_tup, PL.isNon_lst, PL.isNon_bl, pNever, Bool.not_true, Bool.not_false, Int.reduceLT, Int.reduceLE,  PL.pFld, fld_num, fld_mod, ex_rs, isNon_rs, pJs2]
          exact ways d (List.mem_of_getElem? hj) hn hm (Ne.symm hne) rfl
        rw [all_true hl hy]
        refine ⟨_, rfl, _, rfl, by show 6 ≤ 1000; decide, by decide, _, _, rfl, rfl, rfl, rfl, false, rfl, fun c => (by cases c), fun _ => ?_⟩
        refine eq_un false (Ne.symm hne) ⟨_, rfl, fun c => (by cases c), fun _ => eq_un false hne ⟨_, rfl, fun c => (by cases c), fun _ => eq_un true (Ne.symm hne) ⟨_, rfl, fun c => (by cases c), fun _ => ?_⟩⟩⟩
        simp only [startD, pSeq, pNext, pSet, pRet, pRetN, pVar, pC, pNil, pCons, pTup, pLst, pOp, dI, dI0, pTest, dEq, dNe, pAnd, pOr, pNot, pIf, pIfS, pAndV, pOrV, pCall, pMeth, pFld, pB, pChain, pNoPart, pPart, pSl, dSlS, dSlC, dM1, pFmt, pJs3, pPar, pPar3, pUnp, pJarIx, pJarSet, dIxT, dIxL, dIxS, dIxC, dCat, dRep, dAddS, dOwn2, dOwnI, dOwnR, setAll, noX, List.map_cons, List.map_nil, List.length_cons, List.length_nil, List.cons_append, List.nil_append, List.replicate, List.getElem?_cons_succ, List.getElem?_cons_zero, List.set_cons_zero, List.set_cons_succ, List.zip_cons_cons, List.zip_nil_right, List.foldl_cons, List.foldl_nil, Option.some.injEq, exists_eq_left', exists_eq_left, exists_eq_right, exists_eq, exists_eq', PL.D.int.injEq, PL.D.bl.injEq, PL.D.str.injEq, PL.D.tup.injEq, PL.D.lst.injEq, PL.D.ins.injEq, PL.D.scr.injEq, List.cons.injEq, and_true, true_and, and_self, exists_and_left, exists_and_right, reduceCtorEq, false_and, and_false, exists_false, or_false, false_or, forall_const, false_implies, true_implies, Nat.reduceAdd, Nat.reduceSub, Nat.reduceLeDiff, exists_const, if_true, if_false, Bool.false_eq_true, ne_eq, not_false_eq_true, Nat.sub_self, List.append_nil, PL.isNon_non, PL.isNon_int, PL.isNon_str, PL.isNon_tup, PL.isNon_lst, PL.isNon_bl, pNever, Bool.not_true, Bool.not_false, Int.reduceLT, Int.reduceLE,  PL.pFld, fld_num, fld_mod, ex_rs, isNon_rs, pJs2, pFor]
        have mn : CMulW (m : Int) (n : Int) := hm.bd.mulW hn.bd (by decide) (by decide) (by decide)
        refine ⟨_, rfl, by decide, by decide, fun w w0 w2 => ⟨_, rfl, rfl, fun d3 hd3 => ⟨_, rfl, List.cons_ne_nil _ _, by show 3 ≤ 1000; decide, fun d4 hd4 => ?_⟩⟩⟩
        have k4 : Kd d4 := by
          simp only [List.mem_cons, List.not_mem_nil, or_false] at hd4
          rcases hd4 with rfl | rfl | rfl
          · exact Kd_rs
          · exact menu_kd _ hd3
          · trivial
        refine irf_ok (menu_odd d3 hd3) (by decide) (fun Φ' Ξ' hx => cal_jn w0 w2 ⟨_, _, rfl, menu_kd d3 hd3, k4, .inl ⟨menu_rs d3 hd3, hx⟩⟩) ⟨_, rfl, fun c => (by cases c), fun _ => ?_⟩
        refine irf_ok (menu_odd d3 hd3) (by decide) (fun Φ' Ξ' hx => cal_jn w0 w2 ⟨_, _, rfl, Kd_rs, menu_kd d3 hd3, .inr (.inl ⟨rfl, menu_rs d3 hd3, hx⟩)⟩) ⟨_, rfl, fun c => (by cases c), fun _ => ?_⟩
        have g9 : Nat.gcd m n ≤ m := Nat.gcd_le_left _ (by omega)
        have g0 : 0 < Nat.gcd m n := Nat.gcd_pos_of_pos_left _ (by omega)
        have m9 := hm.2
        refine ⟨fun c1 => ?_, fun c1 => ⟨mn, cp6, fun c2 => ⟨mn, ?_⟩, fun c2 => ?_⟩⟩
        · have c1 : (1 : Int) < ((Nat.gcd m n : Nat) : Int) := of_decide_eq_true c1
          exact irf_ok (odd_int _ (by unfold Bd; rw [Int.natAbs_natCast]; exact Nat.lt_of_le_of_lt (show Nat.gcd m n ≤ 1000000 by omega) (by decide))) (by decide) (fun Φ' Ξ' hx => cal_jn w0 w2 ⟨_, _, rfl, Kd_rs, Kd_rs, .inr (.inr ⟨_, _, _, _, rfl, rfl, hm, hn, ha, hb, .inl ⟨Int.ofNat_lt.mp c1, hx⟩⟩)⟩) q
        · have c1 : ¬ (1 : Int) < ((Nat.gcd m n : Nat) : Int) := of_decide_eq_false c1
          have g1 : Nat.gcd m n = 1 := by omega
          exact irf_ok (odd_int _ ((hm.bd.mul hn.bd).mono (by decide))) (by decide) (fun Φ' Ξ' hx => cal_jn w0 w2 ⟨_, _, rfl, Kd_rs, Kd_rs, .inr (.inr ⟨_, _, _, _, rfl, rfl, hm, hn, ha, hb, .inr (.inl ⟨g1, of_decide_eq_true c2, hx⟩)⟩)⟩) q
        have c1 : ¬ (1 : Int) < ((Nat.gcd m n : Nat) : Int) := of_decide_eq_false c1
        have g1 : Nat.gcd m n = 1 := by omega
        have mn9 : (m : Int) * n ≤ 1000000 := Int.not_lt.mp (of_decide_eq_false c2)
        have hmn := hm.mul hn mn9
        have jn : ∀ {Φ' : PL.D → Prop}, (∀ x, In x ((m : Int) * n) → x % m = a → x % n = b → Φ' (rs x ((m : Int) * n))) → pfJn [rs (a : Int) m, rs b n] Φ' noX := fun h => ⟨_, _, rfl, Kd_rs, Kd_rs, .inr (.inr ⟨_, _, _, _, rfl, rfl, hm, hn, ha, hb, .inr (.inr ⟨g1, mn9, h⟩)⟩)⟩
        have jn2 : ∀ {Φ' : PL.D → Prop}, (∀ x, In x ((m : Int) * n) → x % m = a → x % n = b → Φ' (rs x ((m : Int) * n))) → pfJn [rs b n, rs (a : Int) m] Φ' noX := fun h => ⟨_, _, rfl, Kd_rs, Kd_rs, .inr (.inr ⟨_, _, _, _, rfl, rfl, hn, hm, hb, ha, .inr (.inr ⟨by rw [Nat.gcd_comm]; exact g1, by rw [Int.mul_comm]; exact mn9, fun x x0 x1 x2 => by rw [Int.mul_comm] at x0 ⊢; exact h x x0 x2 x1⟩)⟩)⟩
        refine jn fun x1 h1 a1 b1 => jn fun x2 h2 a2 b2 => jn2 fun x3 h3 a3 b3 => ?_
        refine ⟨fun j ρ => ∃ z, ρ = [some .jar, some (rs (a : Int) m), some (.int (a : Int)), some (.int (m : Int)), some (.int (n : Int)), some (.int b), some (rs b n), some (.int (Nat.gcd m n : Nat)), some (.str (("rest " : Str) ++ ((toString (m : Int) : String) : Str))), some (.str (("rest " : Str) ++ ((toString (n : Int) : String) : Str))), some (.lst [.bl true, .bl true, .bl true, .bl true, .bl true, .bl true]), some (.int (9 + w)), some d3, z], ⟨_, rfl⟩, fun j d ρ hd hρ => ?_, fun ρ _ => q⟩
        obtain ⟨x, rfl, hx, ax, bx⟩ : ∃ x, d = rs x ((m : Int) * n) ∧ In x ((m : Int) * n) ∧ x % m = a ∧ x % n = b := by
          have := List.mem_of_getElem? hd
          simp only [List.mem_cons, List.not_mem_nil, or_false] at this
          rcases this with rfl | rfl | rfl
          · exact ⟨_, rfl, h1, a1, b1⟩
          · exact ⟨_, rfl, h2, a2, b2⟩
          · exact ⟨_, rfl, h3, a3, b3⟩
        obtain ⟨z, rfl⟩ := hρ
        simp only [startD, pSeq, pNext, pSet, pRet, pRetN, pVar, pC, pNil, pCons, pTup, pLst, pOp, dI, dI0, pTest, dEq, dNe, pAnd, pOr, pNot, pIf, pIfS, pAndV, pOrV, pCall, pMeth, pFld, pB, pChain, pNoPart, pPart, pSl, dSlS, dSlC, dM1, pFmt, pJs3, pPar, pPar3, pUnp, pJarIx, pJarSet, dIxT, dIxL, dIxS, dIxC, dCat, dRep, dAddS, dOwn2, dOwnI, dOwnR, setAll, noX, List.map_cons, List.map_nil, List.length_cons, List.length_nil, List.cons_append, List.nil_append, List.replicate, List.getElem?_cons_succ, List.getElem?_cons_zero, List.set_cons_zero, List.set_cons_succ, List.zip_cons_cons, List.zip_nil_right, List.foldl_cons, List.foldl_nil, Option.some.injEq, exists_eq_left', exists_eq_left, exists_eq_right, exists_eq, exists_eq', PL.D.int.injEq, PL.D.bl.injEq, PL.D.str.injEq, PL.D.tup.injEq, PL.D.lst.injEq, PL.D.ins.injEq, PL.D.scr.injEq, List.cons.injEq, and_true, true_and, and_self, exists_and_left, exists_and_right, reduceCtorEq, false_and, and_false, exists_false, or_false, false_or, forall_const, false_implies, true_implies, Nat.reduceAdd, Nat.reduceSub, Nat.reduceLeDiff, exists_const, if_true, if_false, Bool.false_eq_true, ne_eq, not_false_eq_true, Nat.sub_self, List.append_nil, PL.isNon_non, PL.isNon_int, PL.isNon_str, PL.isNon_tup, PL.isNon_lst, PL.isNon_bl, pNever, Bool.not_true, Bool.not_false, Int.reduceLT, Int.reduceLE,  PL.pFld, fld_num, fld_mod, ex_rs, isNon_rs, pJs2]
        rw [ax, bx]
        refine ⟨Kd_rs.ty, fun c => (by cases c), fun _ => ⟨mn, _, _, rfl, hmn, hx, _, rfl, fun c => (by cases c), fun _ => ⟨by omega, n0, _, _, rfl, rfl, rfl, rfl, _, rfl, fun c => ?_, fun _ => trivial⟩⟩⟩
        simp only [PyData.eqv, PyData.eqvAll, beq_self_eq_true, Bool.and_self, Bool.not_true, Bool.false_eq_true] at c
      · simp only [startD, pSeq, pNext, pSet, pRet, pRetN, pVar, pC, pNil, pCons, pTup, pLst, pOp, dI, dI0, pTest, dEq, dNe, pAnd, pOr, pNot, pIf, pIfS, pAndV, pOrV, pCall, pMeth, pFld, pB, pChain, pNoPart, pPart, pSl, dSlS, dSlC, dM1, pFmt, pJs3, pPar, pPar3, pUnp, pJarIx, pJarSet, dIxT, dIxL, dIxS, dIxC, dCat, dRep, dAddS, dOwn2, dOwnI, dOwnR, setAll, noX, List.map_cons, List.map_nil, List.length_cons, List.length_nil, List.cons_append, List.nil_append, List.replicate, List.getElem?_cons_succ, List.getElem?_cons_zero, List.set_cons_zero, List.set_cons_succ, List.zip_cons_cons, List.zip_nil_right, List.foldl_cons, List.foldl_nil, Option.some.injEq, exists_eq_left', exists_eq_left, exists_eq_right, exists_eq, exists_eq', PL.D.int.injEq, PL.D.bl.injEq, PL.D.str.injEq, PL.D.tup.injEq, PL.D.lst.injEq, PL.D.ins.injEq, PL.D.scr.injEq, List.cons.injEq, and_true, true_and, and_self, exists_and_left, exists_and_right, reduceCtorEq, false_and, and_false, exists_false, or_false, false_or, forall_const, false_implies, true_implies, Nat.reduceAdd, Nat.reduceSub, Nat.reduceLeDiff, exists_const, if_true, if_false, Bool.false_eq_true, ne_eq, not_false_eq_true, Nat.sub_self, List.append_nil, PL.isNon_non, PL.isNon_int, PL.isNon_str, PL.isNon_tup, PL.isNon_lst, PL.isNon_bl, pNever, Bool.not_true, Bool.not_false, Int.reduceLT, Int.reduceLE,  PL.pFld, fld_num, fld_mod, ex_rs, isNon_rs, pJs2, pFor]
        have mn : CMulW (m : Int) (n : Int) := hm.bd.mulW hn.bd (by decide) (by decide) (by decide)
        refine ⟨_, rfl, by decide, by decide, fun w w0 w2 => ⟨_, rfl, rfl, fun d3 hd3 => ⟨_, rfl, List.cons_ne_nil _ _, by show 3 ≤ 1000; decide, fun d4 hd4 => ?_⟩⟩⟩
        have k4 : Kd d4 := by
          simp only [List.mem_cons, List.not_mem_nil, or_false] at hd4
          rcases hd4 with rfl | rfl | rfl
          · exact Kd_rs
          · exact menu_kd _ hd3
          · trivial
        refine irf_ok (menu_odd d3 hd3) (by decide) (fun Φ' Ξ' hx => cal_jn w0 w2 ⟨_, _, rfl, menu_kd d3 hd3, k4, .inl ⟨menu_rs d3 hd3, hx⟩⟩) ⟨_, rfl, fun c => (by cases c), fun _ => ?_⟩
        refine irf_ok (menu_odd d3 hd3) (by decide) (fun Φ' Ξ' hx => cal_jn w0 w2 ⟨_, _, rfl, Kd_rs, menu_kd d3 hd3, .inr (.inl ⟨rfl, menu_rs d3 hd3, hx⟩)⟩) ⟨_, rfl, fun c => (by cases c), fun _ => ?_⟩
        have g9 : Nat.gcd m n ≤ m := Nat.gcd_le_left _ (by omega)
        have g0 : 0 < Nat.gcd m n := Nat.gcd_pos_of_pos_left _ (by omega)
        have m9 := hm.2
        refine ⟨fun c1 => ?_, fun c1 => ⟨mn, cp6, fun c2 => ⟨mn, ?_⟩, fun c2 => ?_⟩⟩
        · have c1 : (1 : Int) < ((Nat.gcd m n : Nat) : Int) := of_decide_eq_true c1
          exact irf_ok (odd_int _ (by unfold Bd; rw [Int.natAbs_natCast]; exact Nat.lt_of_le_of_lt (show Nat.gcd m n ≤ 1000000 by omega) (by decide))) (by decide) (fun Φ' Ξ' hx => cal_jn w0 w2 ⟨_, _, rfl, Kd_rs, Kd_rs, .inr (.inr ⟨_, _, _, _, rfl, rfl, hm, hn, ha, hb, .inl ⟨Int.ofNat_lt.mp c1, hx⟩⟩)⟩) q
        · have c1 : ¬ (1 : Int) < ((Nat.gcd m n : Nat) : Int) := of_decide_eq_false c1
          have g1 : Nat.gcd m n = 1 := by omega
          exact irf_ok (odd_int _ ((hm.bd.mul hn.bd).mono (by decide))) (by decide) (fun Φ' Ξ' hx => cal_jn w0 w2 ⟨_, _, rfl, Kd_rs, Kd_rs, .inr (.inr ⟨_, _, _, _, rfl, rfl, hm, hn, ha, hb, .inr (.inl ⟨g1, of_decide_eq_true c2, hx⟩)⟩)⟩) q
        have c1 : ¬ (1 : Int) < ((Nat.gcd m n : Nat) : Int) := of_decide_eq_false c1
        have g1 : Nat.gcd m n = 1 := by omega
        have mn9 : (m : Int) * n ≤ 1000000 := Int.not_lt.mp (of_decide_eq_false c2)
        have hmn := hm.mul hn mn9
        have jn : ∀ {Φ' : PL.D → Prop}, (∀ x, In x ((m : Int) * n) → x % m = a → x % n = b → Φ' (rs x ((m : Int) * n))) → pfJn [rs (a : Int) m, rs b n] Φ' noX := fun h => ⟨_, _, rfl, Kd_rs, Kd_rs, .inr (.inr ⟨_, _, _, _, rfl, rfl, hm, hn, ha, hb, .inr (.inr ⟨g1, mn9, h⟩)⟩)⟩
        have jn2 : ∀ {Φ' : PL.D → Prop}, (∀ x, In x ((m : Int) * n) → x % m = a → x % n = b → Φ' (rs x ((m : Int) * n))) → pfJn [rs b n, rs (a : Int) m] Φ' noX := fun h => ⟨_, _, rfl, Kd_rs, Kd_rs, .inr (.inr ⟨_, _, _, _, rfl, rfl, hn, hm, hb, ha, .inr (.inr ⟨by rw [Nat.gcd_comm]; exact g1, by rw [Int.mul_comm]; exact mn9, fun x x0 x1 x2 => by rw [Int.mul_comm] at x0 ⊢; exact h x x0 x2 x1⟩)⟩)⟩
        refine jn fun x1 h1 a1 b1 => jn fun x2 h2 a2 b2 => jn2 fun x3 h3 a3 b3 => ?_
        refine ⟨fun j ρ => ∃ z, ρ = [some .jar, some (rs (a : Int) m), some (.int (a : Int)), some (.int (m : Int)), some (.int (n : Int)), some (.int b), some (rs b n), some (.int (Nat.gcd m n : Nat)), none, none, none, some (.int (9 + w)), some d3, z], ⟨_, rfl⟩, fun j d ρ hd hρ => ?_, fun ρ _ => q⟩
        obtain ⟨x, rfl, hx, ax, bx⟩ : ∃ x, d = rs x ((m : Int) * n) ∧ In x ((m : Int) * n) ∧ x % m = a ∧ x % n = b := by
          have := List.mem_of_getElem? hd
          simp only [List.mem_cons, List.not_mem_nil, or_false] at this
          rcases this with rfl | rfl | rfl
          · exact ⟨_, rfl, h1, a1, b1⟩
          · exact ⟨_, rfl, h2, a2, b2⟩
          · exact ⟨_, rfl, h3, a3, b3⟩
        obtain ⟨z, rfl⟩ := hρ
        simp only [startD, pSeq, pNext, pSet, pRet, pRetN, pVar, pC, pNil, pCons, pTup, pLst, pOp, dI, dI0, pTest, dEq, dNe, pAnd, pOr, pNot, pIf, pIfS, pAndV, pOrV, pCall, pMeth, pFld, pB, pChain, pNoPart, pPart, pSl, dSlS, dSlC, dM1, pFmt, pJs3, pPar, pPar3, pUnp, pJarIx, pJarSet, dIxT, dIxL, dIxS, dIxC, dCat, dRep, dAddS, dOwn2, dOwnI, dOwnR, setAll, noX, List.map_cons, List.map_nil, List.length_cons, List.length_nil, List.cons_append, List.nil_append, List.replicate, List.getElem?_cons_succ, List.getElem?_cons_zero, List.set_cons_zero, List.set_cons_succ, List.zip_cons_cons, List.zip_nil_right, List.foldl_cons, List.foldl_nil, Option.some.injEq, exists_eq_left', exists_eq_left, exists_eq_right, exists_eq, exists_eq', PL.D.int.injEq, PL.D.bl.injEq, PL.D.str.injEq, PL.D.tup.injEq, PL.D.lst.injEq, PL.D.ins.injEq, PL.D.scr.injEq, List.cons.injEq, and_true, true_and, and_self, exists_and_left, exists_and_right, reduceCtorEq, false_and, and_false, exists_false, or_false, false_or, forall_const, false_implies, true_implies, Nat.reduceAdd, Nat.reduceSub, Nat.reduceLeDiff, exists_const, if_true, if_false, Bool.false_eq_true, ne_eq, not_false_eq_true, Nat.sub_self, List.append_nil, PL.isNon_non, PL.isNon_int, PL.isNon_str, PL.isNon_tup, PL.isNon_lst, PL.isNon_bl, pNever, Bool.not_true, Bool.not_false, Int.reduceLT, Int.reduceLE,  PL.pFld, fld_num, fld_mod, ex_rs, isNon_rs, pJs2]
        rw [ax, bx]
        refine ⟨Kd_rs.ty, fun c => (by cases c), fun _ => ⟨mn, _, _, rfl, hmn, hx, _, rfl, fun c => (by cases c), fun _ => ⟨by omega, n0, _, _, rfl, rfl, rfl, rfl, _, rfl, fun c => ?_, fun _ => trivial⟩⟩⟩
        simp only [PyData.eqv, PyData.eqvAll, beq_self_eq_true, Bool.and_self, Bool.not_true, Bool.false_eq_true] at c
abbrev GJnr (P : Program) (w : World) (K : PySem.W.Frag) (mg : Str → Option Value) (base : Heap) := FnG' P w K mg base "_law_joined_right" 15 ["_law_source_here", "_law_mine", "_law_ours", "_law_by"] pfJnr
end
end K3
set_option Elab.async false
set_option linter.all false
set_option maxRecDepth 100000
set_option maxHeartbeats 4000000

namespace K3
open PySem PySem.Spec PyProof.Rows L2 GX HX PL
section
variable {P : Program} {w : World} {K : PySem.W.Frag} {mg : Str → Option Value} {base : Heap} {f : Addr} {fd : FuncData}
theorem sinA {a b : PL.D} {Φ : PL.D → Prop} {Ξ : Str → PL.D → Prop} (h : wh a = false) (ka : Kd a) (kb : Kd b) (hx : Ξ "InvalidNumber" a) : pfSin [a, b] Φ Ξ := ⟨a, b, rfl, ka, kb, .inr (.inl ⟨h, hx⟩)⟩
theorem sinB {i : Int} {b : PL.D} {Φ : PL.D → Prop} {Ξ : Str → PL.D → Prop} (kb : Kd b) (h : btw b 2 1000000 = false) (hx : Ξ "InvalidNumber" b) : pfSin [.int i, b] Φ Ξ := ⟨_, b, rfl, trivial, kb, .inr (.inr ⟨rfl, h, hx⟩)⟩
theorem cal_sin {n : Int} {a b : PL.D} {Φ : PL.D → Prop} {Ξ : Str → PL.D → Prop} (n0 : 0 ≤ n) (n2 : n < 2) (h : pfSin [a, b] Φ Ξ) : pfCal [.int n, a, b] Φ Ξ := ⟨n, a, b, rfl, by
  rcases (show n = 0 ∨ n = 1 by omega) with rfl | rfl
  · exact .inl ⟨rfl, h⟩
  · exact .inr (.inl ⟨rfl, h⟩)⟩
/-! ### _law_refusals_right -/
theorem scRfs : FnScope ["_law_source_here", "_law_whole_here", "_law_by", "_law_odd_here", "_law_other_odd", "_law_way", "_law_less", "_law_due"] ["_law_source_here", "_law_whole_here", "_law_by"] (defScope (top 55)) := ⟨rfl, rfl, rfl, by decide +kernel, rfl, by decide +kernel, by decide +kernel⟩
def pfRfs : PF := fun ds Φ _ => ∃ i m : Int, ds = [.jar, .int i, .int m] ∧ Md m ∧ Bd 181 i ∧ Φ (.bl true)
theorem ok_rfs (DF : Df K mg "_law_refusals_right" 55 f fd) (T : Txt K mg) (B : Cl_ K mg) (TA : FTake P w K mg base) (PK : FPick P w K mg base) (OD' : FOdd P w K mg base) (IR : GIrf P w K mg base) :
    FnGP P w K mg base 15 f fd ["_law_source_here", "_law_whole_here", "_law_by"] pfRfs := by
  refine fnGP DF.fn scRfs (fun ds Φ Ξ h => ?_) fun cdv A outer s H E J Ξ hr hgd wok => ⟨_, (qss_cons (qs_par (i := 3) (j := 4) (by rfl) scRfs.nd rfl rfl (by decide) rfl rfl (qa_cons (q_call OD'.ok (hr.mono (by decide)) (by rfl) OD'.gl OD'.kp OD'.bd (qa_cons (qv 0) qa_nil)) (qa_cons (q_call OD'.ok (hr.mono (by decide)) (by rfl) OD'.gl OD'.kp OD'.bd (qa_cons (qv 0) qa_nil)) qa_nil)) (by rfl))
      (qss_cons (qs_par (i := 5) (j := 6) (by rfl) scRfs.nd rfl rfl (by decide) rfl rfl (qa_cons (q_call TA.ok (hr.mono (by decide)) (by rfl) TA.gl TA.kp TA.bd (qa_cons (qv 0) (qa_cons q_int qa_nil))) (qa_cons (q_call PK.ok (hr.mono (by decide)) (by rfl) PK.gl PK.kp PK.bd (qa_cons (qv 0) (qa_cons (q_lst (qa_cons q_int (qa_cons q_int (qa_cons (q_neg q_int) (qa_cons (q_neg (qv 2)) (qa_cons (q_add (q_pow q_int q_int) q_int) (qa_cons (q_pow q_int q_int) qa_nil))))))) qa_nil))) qa_nil)) (by rfl))
      (qss_cons (qs_set (i := 7) scRfs.nd rfl (.inl rfl) (q_lst (qa_cons (q_callG IR.ok (hr.mono (by decide)) hgd (by rfl) IR.gl IR.kp IR.bd (qa_cons (qv 5) (qa_cons (qv 3) (qa_cons (qv 4) (qa_cons q_str (qa_cons (qv 3) qa_nil)))))) qa_nil)))
      (qss_cons (qs_set (i := 7) scRfs.nd rfl (.inl rfl) (q_cat (qv 7) (q_lst (qa_cons (q_callG IR.ok (hr.mono (by decide)) hgd (by rfl) IR.gl IR.kp IR.bd (qa_cons (qv 5) (qa_cons (qv 3) (qa_cons (q_call PK.ok (hr.mono (by decide)) (by rfl) PK.gl PK.kp PK.bd (qa_cons (qv 0) (qa_cons (q_lst (qa_cons (qv 2) (qa_cons (qv 6) qa_nil))) qa_nil))) (qa_cons q_str (qa_cons (qv 3) qa_nil)))))) qa_nil))))
      (qss_cons (qs_set (i := 7) scRfs.nd rfl (.inl rfl) (q_cat (qv 7) (q_lst (qa_cons (q_callG IR.ok (hr.mono (by decide)) hgd (by rfl) IR.gl IR.kp IR.bd (qa_cons (qv 5) (qa_cons (qv 1) (qa_cons (qv 4) (qa_cons q_str (qa_cons (qv 4) qa_nil)))))) qa_nil))))
      (qss_one (qs_ret (q_cmp (op_eqD hr.units) rd_eqD (q_cat (qv 7) (q_lst (qa_cons (q_callG IR.ok (hr.mono (by decide)) hgd (by rfl) IR.gl IR.kp IR.bd (qa_cons (qv 5) (qa_cons (qv 1) (qa_cons (qv 6) (qa_cons q_str (qa_cons (qv 6) qa_nil)))))) qa_nil))) (q_rep (q_lst (qa_cons q_bl qa_nil)) q_int) (nomark _))))))))), fun ds Φ h => ?_⟩
  · obtain ⟨_, _, rfl, _⟩ := h
    rfl
  · obtain ⟨i, m, rfl, hm, hi, q⟩ := h
    simp only [startD, pSeq, pNext, pSet, pRet, pRetN, pVar, pC, pNil, pCons, pTup, pLst, pOp, dI, dI0, pTest, dEq, dNe, pAnd, pOr, pNot, pIf, pIfS, pAndV, pOrV, pCall, pMeth, pFld, pB, pChain, pNoPart, pPart, pSl, dSlS, dSlC, dM1, pFmt, pJs3, pPar, pPar3, pUnp, pJarIx, pJarSet, dIxT, dIxL, dIxS, dIxC, dCat, dRep, dAddS, dOwn2, dOwnI, dOwnR, setAll, noX, List.map_cons, List.map_nil, List.length_cons, List.length_nil, List.cons_append, List.nil_append, List.replicate, List.getElem?_cons_succ, List.getElem?_cons_zero, List.set_cons_zero, List.set_cons_succ, List.zip_cons_cons, List.zip_nil_right, List.foldl_cons, List.foldl_nil, Option.some.injEq, exists_eq_left', exists_eq_left, exists_eq_right, exists_eq, exists_eq', PL.D.int.injEq, PL.D.bl.injEq, PL.D.str.injEq, PL.D.tup.injEq, PL.D.lst.injEq, PL.D.ins.injEq, PL.D.scr.injEq, List.cons.injEq, and_true, true_and, and_self, exists_and_left, exists_and_right, reduceCtorEq, false_and, and_false, exists_false, or_false, false_or, forall_const, false_implies, true_implies, Nat.reduceAdd, Nat.reduceSub, Nat.reduceLeDiff, exists_const, if_true, if_false, Bool.false_eq_true, ne_eq, not_false_eq_true, Nat.sub_self, List.append_nil, PL.isNon_non, PL.isNon_int, PL.isNon_str, PL.isNon_tup, PL.isNon_lst, PL.isNon_bl, pNever, Bool.not_true, Bool.not_false, Int.reduceLT, Int.reduceLE,  PL.pFld, fld_num, fld_mod, ex_rs, isNon_rs, pJs2, ex2eq]
    have cp6 : CPow 10 6 := ⟨by decide, by decide, by decide⟩
    have cp20 : CPow 10 20 := ⟨by decide, by decide, by decide⟩
    have e6 : (10 : Int) ^ Int.toNat 6 = 1000000 := by decide
    have e20 : (10 : Int) ^ Int.toNat 20 = 100000000000000000000 := by decide
    have less : ∀ d ∈ ([.int 1, .int 0, .int (-1), .int (-m), .int (10 ^ Int.toNat 6 + 1), .int (10 ^ Int.toNat 20)] : List PL.D), Kd d ∧ btw d 2 1000000 = false ∧ Odd d := fun d hd => by
      have go : ∀ i : Int, Bd 100 i → (i < 2 ∨ 1000000 < i) → Kd (.int i) ∧ btw (.int i) 2 1000000 = false ∧ Odd (.int i) := fun i hb hi => by
        refine ⟨trivial, ?_, odd_int i (hb.mono (by decide))⟩
        show (decide (2 ≤ i) && decide (i ≤ 1000000)) = false
        rcases hi with h | h
        · rw [decide_eq_false (show ¬ 2 ≤ i by omega), Bool.false_and]
        · rw [decide_eq_false (show ¬ i ≤ 1000000 by omega), Bool.and_false]
      rw [e6, e20] at hd
      have m2 := hm.1
      simp only [List.mem_cons, List.not_mem_nil, or_false] at hd
      rcases hd with rfl | rfl | rfl | rfl | rfl | rfl
      · exact go _ (by unfold Bd; decide) (by omega)
      · exact go _ (by unfold Bd; decide) (by omega)
      · exact go _ (by unfold Bd; decide) (by omega)
      · exact go _ (hm.bd.neg.mono (by decide)) (by omega)
      · exact go _ (by unfold Bd; decide) (by omega)
      · exact go _ (by unfold Bd; decide) (by omega)
    refine ⟨rfl, fun d1 h1 => ⟨rfl, fun d2 h2 => ⟨_, rfl, by decide, by decide, fun n n0 n2 => ⟨cp6, cp20, _, rfl, List.cons_ne_nil _ _, by show 6 ≤ 1000; decide, fun d3 h3 => ?_⟩⟩⟩⟩
    obtain ⟨k3, b3, o3⟩ := less d3 h3
    refine irf_ok (menu_odd _ h1) (by decide) (fun Φ' Ξ' hx => cal_sin n0 n2 (sinA (menu_wh _ h1) (menu_kd _ h1) (menu_kd _ h2) hx)) ⟨_, rfl, List.cons_ne_nil _ _, by show 2 ≤ 1000; decide, fun d5 h5 => ?_⟩
    have k5 : Kd d5 := by
      simp only [List.mem_cons, List.not_mem_nil, or_false] at h5
      rcases h5 with rfl | rfl
      · trivial
      · exact k3
    refine irf_ok (menu_odd _ h1) (by decide) (fun Φ' Ξ' hx => cal_sin n0 n2 (sinA (menu_wh _ h1) (menu_kd _ h1) k5 hx)) ?_
    refine irf_ok (menu_odd _ h2) (by decide) (fun Φ' Ξ' hx => cal_sin n0 n2 (sinB (menu_kd _ h2) (btw_no (menu_wh _ h2)) hx)) ?_
    refine irf_ok o3 (by decide) (fun Φ' Ξ' hx => cal_sin n0 n2 (sinB k3 b3 hx)) ?_
    exact ⟨by decide, _, _, rfl, rfl, rfl, rfl, q⟩
abbrev GRfs (P : Program) (w : World) (K : PySem.W.Frag) (mg : Str → Option Value) (base : Heap) := FnG' P w K mg base "_law_refusals_right" 15 ["_law_source_here", "_law_whole_here", "_law_by"] pfRfs
/-! ### _law_right -/
theorem scRgt : FnScope ["_law_source_here", "_law_turn", "_law_by", "_law_first", "_law_second", "_law_whole_here", "_law_ours", "_law_theirs", "_law_mine", "_law_mate"] ["_law_source_here"] (defScope (top 56)) := ⟨rfl, rfl, rfl, by decide +kernel, rfl, by decide +kernel, by decide +kernel⟩
def pfRgt : PF := fun ds Φ _ => ds = [.jar] ∧ Φ (.bl true)
theorem ok_rgt (DF : Df K mg "_law_right" 56 f fd) (T : Txt K mg) (B : Cl_ K mg) (N : Sin P w K mg base) (TA : FTake P w K mg base) (BM : FBym P w K mg base) (WH : FWh P w K mg base) (SH : GShown P w K mg base) (SI : GSig P w K mg base) (PW' : GPwr P w K mg base) (OR' : GOrr P w K mg base) (JN' : GJnr P w K mg base) (RF' : GRfs P w K mg base) :
    FnGP P w K mg base 16 f fd ["_law_source_here"] pfRgt := by
  refine fnGP DF.fn scRgt (fun ds Φ Ξ h => ?_) fun cdv A outer s H E J Ξ hr hgd wok => ⟨_, (qss_cons (qs_for (i := 1) (passes_of rfl) rfl (qi_range (T.free "range" (by decide +kernel)) (by rfl) (qa_cons q_int qa_nil)) scRgt.nd rfl (.inl rfl) (qss_cons (qs_par (i := 2) (j := 3) (by rfl) scRgt.nd rfl rfl (by decide) rfl rfl (qa_cons (q_call BM.ok (hr.mono (by decide)) (by rfl) BM.gl BM.kp BM.bd (qa_cons (qv 0) qa_nil)) (qa_cons (q_call WH.ok (hr.mono (by decide)) (by rfl) WH.gl WH.kp WH.bd (qa_cons (qv 0) qa_nil)) qa_nil)) (by rfl))
      (qss_cons (qs_par (i := 4) (j := 5) (by rfl) scRgt.nd rfl rfl (by decide) rfl rfl (qa_cons (q_call WH.ok (hr.mono (by decide)) (by rfl) WH.gl WH.kp WH.bd (qa_cons (qv 0) qa_nil)) (qa_cons (q_call WH.ok (hr.mono (by decide)) (by rfl) WH.gl WH.kp WH.bd (qa_cons (qv 0) qa_nil)) qa_nil)) (by rfl))
      (qss_cons (qs_if (qt_cmp op_eq rd_eq (q_call TA.ok (hr.mono (by decide)) (by rfl) TA.gl TA.kp TA.bd (qa_cons (qv 0) (qa_cons q_int qa_nil))) q_int (nomark _)) (qss_one (qs_set (i := 4) scRgt.nd rfl (.inl rfl) (q_add (qv 3) (q_mul (qv 2) (q_sub (q_call TA.ok (hr.mono (by decide)) (by rfl) TA.gl TA.kp TA.bd (qa_cons (qv 0) (qa_cons q_int qa_nil))) q_int))))) qss_nil)
      (qss_cons (qs_par (i := 6) (j := 7) (by rfl) scRgt.nd rfl rfl (by decide) rfl rfl (qa_cons (q_mod (q_BT call_int1 rc_int1 (T.free "int" (by decide +kernel)) (by rfl) (by decide +kernel) (qa_cons (qv 3) qa_nil)) (qv 2)) (qa_cons (q_mod (q_BT call_int1 rc_int1 (T.free "int" (by decide +kernel)) (by rfl) (by decide +kernel) (qa_cons (qv 4) qa_nil)) (qv 2)) qa_nil)) (by rfl))
      (qss_cons (qs_par (i := 8) (j := 9) (by rfl) scRgt.nd rfl rfl (by decide) rfl rfl (qa_cons (q_make (dvs := []) (dds := []) N.mkr N.ok (hr.mono (by decide)) (by rfl) B.s.gl N.bd .nil (fun _ => .nil) pass00 wok0 (qa_cons (qv 3) (qa_cons (qv 2) qa_nil))) (qa_cons (q_make2 N.mkr N.ok (hr.mono (by decide)) (by rfl) B.s.gl N.kb (fun _ _ _ => rfl) pass00 wok0 (qv 2) (qv 4)) qa_nil)) (by rfl))
      (qss_cons (qs_if (qt_pw (qw_or (qt_not (qt_val (q_callG SH.ok (hr.mono (by decide)) hgd (by rfl) SH.gl SH.kp SH.bd (qa_cons (qv 8) (qa_cons (qv 6) (qa_cons (qv 2) qa_nil)))))) (qw_or1 (qt_not (qt_val (q_callG SH.ok (hr.mono (by decide)) hgd (by rfl) SH.gl SH.kp SH.bd (qa_cons (qv 9) (qa_cons (qv 7) (qa_cons (qv 2) qa_nil))))))))) (qss_one (qs_ret q_bl)) qss_nil)
      (qss_cons (qs_if (qt_not (qt_val (q_callG SI.ok (hr.mono (by decide)) hgd (by rfl) SI.gl SI.kp SI.bd (qa_cons (qv 8) (qa_cons (qv 9) (qa_cons (qv 6) (qa_cons (qv 7) (qa_cons (qv 2) (qa_cons (qv 5) qa_nil))))))))) (qss_one (qs_ret q_bl)) qss_nil)
      (qss_cons (qs_if (qt_pw (qw_or (qt_not (qt_val (q_callG PW'.ok (hr.mono (by decide)) hgd (by rfl) PW'.gl PW'.kp PW'.bd (qa_cons (qv 0) (qa_cons (qv 8) (qa_cons (qv 6) (qa_cons (qv 2) qa_nil))))))) (qw_or1 (qt_not (qt_val (q_callG OR'.ok (hr.mono (by decide)) hgd (by rfl) OR'.gl OR'.kp OR'.bd (qa_cons (qv 0) (qa_cons (qv 9) (qa_cons (qv 7) (qa_cons (qv 2) qa_nil)))))))))) (qss_one (qs_ret q_bl)) qss_nil)
      (qss_cons (qs_if (qt_pw (qw_or (qt_not (qt_val (q_callG JN'.ok (hr.mono (by decide)) hgd (by rfl) JN'.gl JN'.kp JN'.bd (qa_cons (qv 0) (qa_cons (qv 8) (qa_cons (qv 6) (qa_cons (qv 2) qa_nil))))))) (qw_or1 (qt_not (qt_val (q_callG RF'.ok (hr.mono (by decide)) hgd (by rfl) RF'.gl RF'.kp RF'.bd (qa_cons (qv 0) (qa_cons (qv 5) (qa_cons (qv 2) qa_nil))))))))) (qss_one (qs_ret q_bl)) qss_nil)
      (qss_one (qs_if (qt_pw (qw_or (qt_not (qt_val (q_callG SH.ok (hr.mono (by decide)) hgd (by rfl) SH.gl SH.kp SH.bd (qa_cons (qv 8) (qa_cons (qv 6) (qa_cons (qv 2) qa_nil)))))) (qw_or1 (qt_not (qt_val (q_callG SH.ok (hr.mono (by decide)) hgd (by rfl) SH.gl SH.kp SH.bd (qa_cons (qv 9) (qa_cons (qv 7) (qa_cons (qv 2) qa_nil))))))))) (qss_one (qs_ret q_bl)) qss_nil))))))))))))
      (qss_one (qs_ret q_bl))), fun ds Φ h => ?_⟩
  · obtain ⟨rfl, _⟩ := h
    rfl
  · obtain ⟨rfl, q⟩ := h
    simp only [startD, pSeq, pNext, pSet, pRet, pRetN, pVar, pC, pNil, pCons, pTup, pLst, pOp, dI, dI0, pTest, dEq, dNe, pAnd, pOr, pNot, pIf, pIfS, pAndV, pOrV, pCall, pMeth, pFld, pB, pChain, pNoPart, pPart, pSl, dSlS, dSlC, dM1, pFmt, pJs3, pPar, pPar3, pUnp, pJarIx, pJarSet, dIxT, dIxL, dIxS, dIxC, dCat, dRep, dAddS, dOwn2, dOwnI, dOwnR, setAll, noX, List.map_cons, List.map_nil, List.length_cons, List.length_nil, List.cons_append, List.nil_append, List.replicate, List.getElem?_cons_succ, List.getElem?_cons_zero, List.set_cons_zero, List.set_cons_succ, List.zip_cons_cons, List.zip_nil_right, List.foldl_cons, List.foldl_nil, Option.some.injEq, exists_eq_left', exists_eq_left, exists_eq_right, exists_eq, exists_eq', PL.D.int.injEq, PL.D.bl.injEq, PL.D.str.injEq, PL.D.tup.injEq, PL.D.lst.injEq, PL.D.ins.injEq, PL.D.scr.injEq, List.cons.injEq, and_true, true_and, and_self, exists_and_left, exists_and_right, reduceCtorEq, false_and, and_false, exists_false, or_false, false_or, forall_const, false_implies, true_implies, Nat.reduceAdd, Nat.reduceSub, Nat.reduceLeDiff, exists_const, if_true, if_false, Bool.false_eq_true, ne_eq, not_false_eq_true, Nat.sub_self, List.append_nil, PL.isNon_non, PL.isNon_int, PL.isNon_str, PL.isNon_tup, PL.isNon_lst, PL.isNon_bl, pNever, Bool.not_true, Bool.not_false, Int.reduceLT, Int.reduceLE,  PL.pFld, fld_num, fld_mod, ex_rs, isNon_rs, pJs2, pFor, ex2eq]
    refine ⟨3, rfl, by decide, fun _ ρ => ∃ a1 a2 a3 a4 a5 a6 a7 a8 a9 : Option PL.D, ρ = [some .jar, a1, a2, a3, a4, a5, a6, a7, a8, a9], ⟨_, _, _, _, _, _, _, _, _, rfl⟩, fun j d ρ _ hρ => ?_, fun _ _ => q⟩
    obtain ⟨a1, a2, a3, a4, a5, a6, a7, a8, a9, rfl⟩ := hρ
    simp only [startD, pSeq, pNext, pSet, pRet, pRetN, pVar, pC, pNil, pCons, pTup, pLst, pOp, dI, dI0, pTest, dEq, dNe, pAnd, pOr, pNot, pIf, pIfS, pAndV, pOrV, pCall, pMeth, pFld, pB, pChain, pNoPart, pPart, pSl, dSlS, dSlC, dM1, pFmt, pJs3, pPar, pPar3, pUnp, pJarIx, pJarSet, dIxT, dIxL, dIxS, dIxC, dCat, dRep, dAddS, dOwn2, dOwnI, dOwnR, setAll, noX, List.map_cons, List.map_nil, List.length_cons, List.length_nil, List.cons_append, List.nil_append, List.replicate, List.getElem?_cons_succ, List.getElem?_cons_zero, List.set_cons_zero, List.set_cons_succ, List.zip_cons_cons, List.zip_nil_right, List.foldl_cons, List.foldl_nil, Option.some.injEq, exists_eq_left', exists_eq_left, exists_eq_right, exists_eq, exists_eq', PL.D.int.injEq, PL.D.bl.injEq, PL.D.str.injEq, PL.D.tup.injEq, PL.D.lst.injEq, PL.D.ins.injEq, PL.D.scr.injEq, List.cons.injEq, and_true, true_and, and_self, exists_and_left, exists_and_right, reduceCtorEq, false_and, and_false, exists_false, or_false, false_or, forall_const, false_implies, true_implies, Nat.reduceAdd, Nat.reduceSub, Nat.reduceLeDiff, exists_const, if_true, if_false, Bool.false_eq_true, ne_eq, not_false_eq_true, Nat.sub_self, List.append_nil, PL.isNon_non, PL.isNon_int, PL.isNon_str, PL.isNon_tup, PL.isNon_lst, PL.isNon_bl, pNever, Bool.not_true, Bool.not_false, Int.reduceLT, Int.reduceLE,  PL.pFld, fld_num, fld_mod, ex_rs, isNon_rs, pJs2, ex2eq]
    refine ⟨rfl, fun m hm => ⟨rfl, fun i hi => ⟨rfl, fun j hj => ⟨rfl, fun k hk => ⟨4, rfl, by decide, by decide, fun c c0 c1 => ?_⟩⟩⟩⟩⟩
    simp only [startD, pSeq, pNext, pSet, pRet, pRetN, pVar, pC, pNil, pCons, pTup, pLst, pOp, dI, dI0, pTest, dEq, dNe, pAnd, pOr, pNot, pIf, pIfS, pAndV, pOrV, pCall, pMeth, pFld, pB, pChain, pNoPart, pPart, pSl, dSlS, dSlC, dM1, pFmt, pJs3, pPar, pPar3, pUnp, pJarIx, pJarSet, dIxT, dIxL, dIxS, dIxC, dCat, dRep, dAddS, dOwn2, dOwnI, dOwnR, setAll, noX, List.map_cons, List.map_nil, List.length_cons, List.length_nil, List.cons_append, List.nil_append, List.replicate, List.getElem?_cons_succ, List.getElem?_cons_zero, List.set_cons_zero, List.set_cons_succ, List.zip_cons_cons, List.zip_nil_right, List.foldl_cons, List.foldl_nil, Option.some.injEq, exists_eq_left', exists_eq_left, exists_eq_right, exists_eq, exists_eq', PL.D.int.injEq, PL.D.bl.injEq, PL.D.str.injEq, PL.D.tup.injEq, PL.D.lst.injEq, PL.D.ins.injEq, PL.D.scr.injEq, List.cons.injEq, and_true, true_and, and_self, exists_and_left, exists_and_right, reduceCtorEq, false_and, and_false, exists_false, or_false, false_or, forall_const, false_implies, true_implies, Nat.reduceAdd, Nat.reduceSub, Nat.reduceLeDiff, exists_const, if_true, if_false, Bool.false_eq_true, ne_eq, not_false_eq_true, Nat.sub_self, List.append_nil, PL.isNon_non, PL.isNon_int, PL.isNon_str, PL.isNon_tup, PL.isNon_lst, PL.isNon_bl, pNever, Bool.not_true, Bool.not_false, Int.reduceLT, Int.reduceLE,  PL.pFld, fld_num, fld_mod, ex_rs, isNon_rs, pJs2, ex2eq]
    have m0 : 0 < m := by have := hm.1; omega
    have hx : In (i % m) m := in_mod hm
    refine ⟨rfl, fun _ => ⟨5, rfl, by decide, by decide, fun u u0 u5 => ⟨u, rfl, hm.bd.mulW (show Bd 3 (u - 2) by unfold Bd; omega) (by decide) (by decide) (by decide), m0, m0, sin_ok hm (sin_ok hm ?_)⟩⟩, fun _ => ⟨m0, m0, sin_ok hm (sin_ok hm ?_)⟩⟩
    · have hy : In ((i + m * (u - 2)) % m) m := in_mod hm
      generalize i % m = x at hx ⊢
      generalize (i + m * (u - 2)) % m = y at hy ⊢
      refine ⟨x, m, rfl, hm, hx, _, rfl, fun c => (by cases c), fun _ => ?_⟩
      refine ⟨y, m, rfl, hm, hy, _, rfl, fun c => (by cases c), fun _ => ?_⟩
      refine ⟨x, y, m, k, rfl, hm, hx, hy, hk, _, rfl, fun c => (by cases c), fun _ => ?_⟩
      refine ⟨x, m, rfl, hm, hx, _, rfl, fun c => (by cases c), fun _ => ?_⟩
      refine ⟨y, m, rfl, hm, hy, _, rfl, fun c => (by cases c), fun _ => ?_⟩
      refine ⟨x, m, rfl, hm, hx, _, rfl, fun c => (by cases c), fun _ => ?_⟩
      refine ⟨k, m, rfl, hm, hk, _, rfl, fun c => (by cases c), fun _ => ?_⟩
      refine ⟨x, m, rfl, hm, hx, _, rfl, fun c => (by cases c), fun _ => ?_⟩
      refine ⟨y, m, rfl, hm, hy, _, rfl, fun c => (by cases c), fun _ => ?_⟩
      trivial
    · have hy : In (j % m) m := in_mod hm
      generalize i % m = x at hx ⊢
      generalize j % m = y at hy ⊢
      refine ⟨x, m, rfl, hm, hx, _, rfl, fun c => (by cases c), fun _ => ?_⟩
      refine ⟨y, m, rfl, hm, hy, _, rfl, fun c => (by cases c), fun _ => ?_⟩
      refine ⟨x, y, m, k, rfl, hm, hx, hy, hk, _, rfl, fun c => (by cases c), fun _ => ?_⟩
      refine ⟨x, m, rfl, hm, hx, _, rfl, fun c => (by cases c), fun _ => ?_⟩
      refine ⟨y, m, rfl, hm, hy, _, rfl, fun c => (by cases c), fun _ => ?_⟩
      refine ⟨x, m, rfl, hm, hx, _, rfl, fun c => (by cases c), fun _ => ?_⟩
      refine ⟨k, m, rfl, hm, hk, _, rfl, fun c => (by cases c), fun _ => ?_⟩
      refine ⟨x, m, rfl, hm, hx, _, rfl, fun c => (by cases c), fun _ => ?_⟩
      refine ⟨y, m, rfl, hm, hy, _, rfl, fun c => (by cases c), fun _ => ?_⟩
      trivial
abbrev GRgt (P : Program) (w : World) (K : PySem.W.Frag) (mg : Str → Option Value) (base : Heap) := FnG' P w K mg base "_law_right" 16 ["_law_source_here"] pfRgt
end
end K3
set_option Elab.async false
set_option linter.all false
set_option maxRecDepth 100000
set_option maxHeartbeats 4000000
namespace K3
open PySem PySem.Spec PyProof.Rows L2 GX HX PL
/-- two statements with a word of one's own between them -/
def tMid (t u : TS) : TS := fun D σ H => ∃ M : L2.St → Hp → Prop, t { D with nx := M } σ H ∧ ∀ σ' H', M σ' H' → u D σ' H'
theorem pss_cut {X : Cx} {st : Stmt} {rest : List Stmt} {t u : TS} (h1 : PS X st t) (h2 : PSs X rest u) : PSs X (st :: rest) (tMid t u) := by
  refine ⟨fun pins s σ H D I ⟨M, hm, hu⟩ => wpAny_execs_cons (thn (h1.run pins s σ H { D with nx := M } I hm) (fun f s1 q => ?_))⟩
  cases f with
  | next => obtain ⟨σ', H', J, q⟩ := q; exact h2.run pins s1 σ' H' D J (hu σ' H' q)
  | ret u => exact q
  | brk => exact q
  | cont => exact q
theorem same_new2 {H : Hp} {p : Addr} {o : HO} (h : H p = none) : Same H (upd H p o) := fun c u e => by
  rw [upd_ne (ne_of_none e h)]
  exact e
/-! ### _law_source -/
theorem scSrc : FnScope ["_law_script", "_law_turn", "_law_own", "_law_mixed", "_law_cell"] ["_law_script", "_law_turn"] (defScope (top 35)) := ⟨rfl, rfl, rfl, by decide +kernel, rfl, by decide +kernel, by decide +kernel⟩
def spSrc (K : PySem.W.Frag) : Sp := fun vs H Q _ => ∃ (a : Addr) (ns : List Int) (t : Int), vs = [.ref a, .int t] ∧ SqL K H a (ns.map V.int) ∧ ns.length ≤ 63 ∧ 0 ≤ t ∧ t ≤ 10 ∧
  ∀ (p : Addr) (H' : Hp), H p = none → PL.Jar H' p → Same H H' → Q (.ref p) H'
section
variable {P : Program} {w : World} {K : PySem.W.Frag} {mg : Str → Option Value} {base : Heap} {f : Addr} {fd : FuncData}
theorem cut_ints (ns : List Int) (lo hi : Option Int) : ∃ ms : List Int, cutV (ns.map V.int) lo hi = ms.map V.int := by
  unfold cutV
  rw [← List.map_drop, ← List.map_take]
  exact ⟨_, rfl⟩
theorem ok_src (D : Df K mg "_law_source" 35 f fd) (T : Txt K mg) : FnOk P w K mg base (L2.CX P w) 1 f fd ["_law_script", "_law_turn"] (spSrc K) := by
  refine D.fn.okX scSrc (fun vs H Q E h => ?_) (fun cdv A outer s H vs Q E hr h => ?_)
  · obtain ⟨a, ns, t, rfl, _⟩ := h
    rfl
  · obtain ⟨a, ns, t, rfl, hS, hn, ht0, ht1, k⟩ := h
    refine ⟨_, (pss_cut (ps_set (i := 2) scSrc.nd rfl (.inl rfl) (pe_ifExp (pt_cmpR op_lt (pv 1) (pe_callB call_len_seq (by rfl) (T.free "len" (by decide +kernel)) (by decide +kernel) (pa_cons (pv 0) pa_nil)) (nomark _)) (pe_callTy call_int1 (by rfl) (T.free "int" (by decide +kernel)) (by decide +kernel) (pa_cons (pe_ix ix_list (pv 0) (pv 1) (fun _ _ => rfl)) pa_nil)) (pe_op op_add (pe_op op_mul pe_int (pv 1)) pe_int)))
      (pss_cons (ps_set (i := 3) scSrc.nd rfl (.inl rfl) (pe_op op_add pe_int (pe_op op_mul pe_int (pv 1))))
      (pss_cons (ps_for (passes_of rfl) rfl (pi_list (pe_slice sl_list (pv 0) po_none (po_some pe_int))) (pg_name (i := 4) scSrc.nd rfl (.inl rfl)) (pss_one (ps_set (i := 3) scSrc.nd rfl (.inl rfl) (pe_op op_modN (pe_callTy call_int1 (by rfl) (T.free "int" (by decide +kernel)) (by decide +kernel) (pa_cons (pe_op op_add (pe_op op_add (pe_op op_mul (pv 3) pe_int) (pe_op op_modN (pe_callTy call_int1 (by rfl) (T.free "int" (by decide +kernel)) (by decide +kernel) (pa_cons (pv 4) pa_nil)) pe_int)) pe_int) pa_nil)) pe_int))))
      (pss_one (ps_ret (pe_lst (pa_cons (pe_ifExp (PW.pt (pw_or (pt_cmpR op_lt (pv 2) pe_int (nomark _)) (pw_or1 (pt_cmpR op_ge (pv 2) (pe_op op_pow pe_int pe_int) (nomark _))))) (pe_callB call_abs (by rfl) (T.free "abs" (by decide +kernel)) (by decide +kernel) (pa_cons (pv 2) pa_nil)) pe_int) (pa_cons (pe_op op_modN (pe_callTy call_int1 (by rfl) (T.free "int" (by decide +kernel)) (by decide +kernel) (pa_cons (pe_op op_add (pe_op op_mul (pv 3) pe_int) (pe_op op_mul (pe_op op_modN (pv 2) pe_int) pe_int)) pa_nil)) pe_int) (pa_cons pe_int pa_nil))))))))), ?_⟩
    refine ⟨fun σ' H' => ∃ i : Int, σ' = [some (.ref a), some (.int t), some (.int i), none, none] ∧ H' = H, ?_, ?_⟩
    · simp only [L2.start, tSeq, tNext, tAsg, tIf, tIfS, tTest, tOp, rI0, rI, tVar, tCB, tCons, tNil, tC, gName, tRet, tRetN, cxOf, List.map_cons, List.map_nil, List.length_cons, List.length_nil, List.cons_append, List.nil_append, List.replicate, List.getElem?_cons_succ, List.getElem?_cons_zero, Option.some.injEq, exists_eq_left', exists_eq_left, V.int.injEq, V.bl.injEq, V.ref.injEq, V.str.injEq, List.cons.injEq, and_true, true_and, exists_and_left, exists_and_right, reduceCtorEq, false_and, exists_false, or_false, false_or, List.set_cons_zero, List.set_cons_succ, tSl, rSlL, tNoPart, tPart, tOr, tAnd, tNot, rIxL, rIxT, gTup, gCons, gNil, gSub, rSetL, tLst, tTup, iList, iRng1, tPar, exists_const, Int.reduceEq, Int.reduceNe, Nat.reduceAdd, exists_eq_right, exists_eq, exists_eq', if_true, if_false, ite_true, ite_false, Bool.false_eq_true, ne_eq, not_false_eq_true, tB, tNotV, tIsN]
      refine ⟨_, .inl hS, ?_⟩
      by_cases hlt : t < ((ns.map V.int).length : Int)
      · rw [if_pos (decide_eq_true hlt)]
        have hlt2 : t.toNat < ns.length := by
          rw [List.length_map] at hlt
          omega
        refine ⟨_, hS, .int (ns[t.toNat]), ?_, ?_⟩
        · have := atI_nat (xs := ns.map V.int) (j := t.toNat) (v := .int (ns[t.toNat])) (by rw [List.getElem?_map, List.getElem?_eq_getElem hlt2]; rfl)
          rw [Int.toNat_of_nonneg ht0] at this
          exact this
        · simp only [L2.start, tSeq, tNext, tAsg, tIf, tIfS, tTest, tOp, rI0, rI, tVar, tCB, tCons, tNil, tC, gName, tRet, tRetN, cxOf, List.map_cons, List.map_nil, List.length_cons, List.length_nil, List.cons_append, List.nil_append, List.replicate, List.getElem?_cons_succ, List.getElem?_cons_zero, Option.some.injEq, exists_eq_left', exists_eq_left, V.int.injEq, V.bl.injEq, V.ref.injEq, V.str.injEq, List.cons.injEq, and_true, true_and, exists_and_left, exists_and_right, reduceCtorEq, false_and, exists_false, or_false, false_or, List.set_cons_zero, List.set_cons_succ, tSl, rSlL, tNoPart, tPart, tOr, tAnd, tNot, rIxL, rIxT, gTup, gCons, gNil, gSub, rSetL, tLst, tTup, iList, iRng1, tPar, exists_const, Int.reduceEq, Int.reduceNe, Nat.reduceAdd, exists_eq_right, exists_eq, exists_eq', if_true, if_false, ite_true, ite_false, Bool.false_eq_true, ne_eq, not_false_eq_true, tB, tNotV, tIsN]
      · rw [if_neg (by simpa using hlt)]
        exact .inl (by decide)
    rintro σ' H' ⟨own, rfl, rfl⟩
    simp only [L2.start, tSeq, tNext, tAsg, tIf, tIfS, tTest, tOp, rI0, rI, tVar, tCB, tCons, tNil, tC, gName, tRet, tRetN, cxOf, List.map_cons, List.map_nil, List.length_cons, List.length_nil, List.cons_append, List.nil_append, List.replicate, List.getElem?_cons_succ, List.getElem?_cons_zero, Option.some.injEq, exists_eq_left', exists_eq_left, V.int.injEq, V.bl.injEq, V.ref.injEq, V.str.injEq, List.cons.injEq, and_true, true_and, exists_and_left, exists_and_right, reduceCtorEq, false_and, exists_false, or_false, false_or, List.set_cons_zero, List.set_cons_succ, tSl, rSlL, tNoPart, tPart, tOr, tAnd, tNot, rIxL, rIxT, gTup, gCons, gNil, gSub, rSetL, tLst, tTup, iList, iRng1, tPar, exists_const, Int.reduceEq, Int.reduceNe, Nat.reduceAdd, exists_eq_right, exists_eq, exists_eq', if_true, if_false, ite_true, ite_false, Bool.false_eq_true, ne_eq, not_false_eq_true, tB, tNotV, tIsN]
    refine ⟨.inl (by decide), ?_⟩
    obtain ⟨ms, hms⟩ := cut_ints ns none (some 7)
    refine ⟨_, rfl, _, rfl, a, _, rfl, hS, fun p hp => ⟨p, rfl, ⟨_, SqL.of upd_same⟩, ?_⟩⟩
    refine for_list (xs := cutV (ns.map V.int) none (some 7)) (fun _ σ H1 => ∃ (m : Int) (c : Option V), σ = [some (.ref a), some (.int t), some (.int own), some (.int m), c] ∧ H1 = upd H' p (.lst (cutV (ns.map V.int) none (some 7)))) ⟨_, _, rfl, rfl⟩
      (fun i σ H1 _ h => ?_) (fun i x σ H1 hx h => ?_) (fun σ H1 h => ?_)
    · obtain ⟨m, c, rfl, rfl⟩ := h
      exact SqL.of upd_same
    · obtain ⟨m, c, rfl, rfl⟩ := h
      rw [hms] at hx
      obtain ⟨v, _, rfl⟩ := List.mem_map.mp (List.mem_of_getElem? hx)
      simp only [L2.start, tSeq, tNext, tAsg, tIf, tIfS, tTest, tOp, rI0, rI, tVar, tCB, tCons, tNil, tC, gName, tRet, tRetN, cxOf, List.map_cons, List.map_nil, List.length_cons, List.length_nil, List.cons_append, List.nil_append, List.replicate, List.getElem?_cons_succ, List.getElem?_cons_zero, Option.some.injEq, exists_eq_left', exists_eq_left, V.int.injEq, V.bl.injEq, V.ref.injEq, V.str.injEq, List.cons.injEq, and_true, true_and, exists_and_left, exists_and_right, reduceCtorEq, false_and, exists_false, or_false, false_or, List.set_cons_zero, List.set_cons_succ, tSl, rSlL, tNoPart, tPart, tOr, tAnd, tNot, rIxL, rIxT, gTup, gCons, gNil, gSub, rSetL, tLst, tTup, iList, iRng1, tPar, exists_const, Int.reduceEq, Int.reduceNe, Nat.reduceAdd, exists_eq_right, exists_eq, exists_eq', if_true, if_false, ite_true, ite_false, Bool.false_eq_true, ne_eq, not_false_eq_true, tB, tNotV, tIsN]
      exact .inr (by decide)
    · obtain ⟨m, c, rfl, rfl⟩ := h
      have nq : ∀ {q : Addr}, upd H' p (.lst (cutV (ns.map V.int) none (some 7))) q = none → H' q = none := fun {q} hq => (same_new2 hp).free hq
      have fin : ∀ x : Int, CMul m 61 ∧ CMul (own.fmod 2147480009) 20021 ∧ (3 ≤ sizeLine) ∧ ∀ (q : Addr), upd H' p (.lst (cutV (ns.map V.int) none (some 7))) q = none →
          Q (.ref q) (upd (upd H' p (.lst (cutV (ns.map V.int) none (some 7)))) q (.lst [.int x, .int ((m * 61 + own.fmod 2147480009 * 20021).fmod 2147483029), .int 0])) := fun x =>
        ⟨.inr (by decide), .inr (by decide), by show 3 ≤ sizeLine; decide, fun q hq => k q _ (nq hq) ⟨_, _, _, upd_same⟩ ((same_new2 hp).trans (same_new2 hq))⟩
      simp only [L2.start, tSeq, tNext, tAsg, tIf, tIfS, tTest, tOp, rI0, rI, tVar, tCB, tCons, tNil, tC, gName, tRet, tRetN, cxOf, List.map_cons, List.map_nil, List.length_cons, List.length_nil, List.cons_append, List.nil_append, List.replicate, List.getElem?_cons_succ, List.getElem?_cons_zero, Option.some.injEq, exists_eq_left', exists_eq_left, V.int.injEq, V.bl.injEq, V.ref.injEq, V.str.injEq, List.cons.injEq, and_true, true_and, exists_and_left, exists_and_right, reduceCtorEq, false_and, exists_false, or_false, false_or, List.set_cons_zero, List.set_cons_succ, tSl, rSlL, tNoPart, tPart, tOr, tAnd, tNot, rIxL, rIxT, gTup, gCons, gNil, gSub, rSetL, tLst, tTup, iList, iRng1, tPar, exists_const, Int.reduceEq, Int.reduceNe, Nat.reduceAdd, exists_eq_right, exists_eq, exists_eq', if_true, if_false, ite_true, ite_false, Bool.false_eq_true, ne_eq, not_false_eq_true, tB, tNotV, tIsN]
      split
      · exact fin _
      · refine ⟨⟨by decide, by decide, by decide⟩, ?_⟩
        split
        · exact fin _
        · exact fin _
end
end K3
set_option Elab.async false
set_option linter.all false
set_option maxRecDepth 100000
set_option maxHeartbeats 4000000
namespace K3
open PySem PySem.Spec PyProof.Rows L2 GX HX PL
theorem wipe_one {σ : L2.St} {i : Nat} {x : Option V} : wipe ((wipe σ [i]).set i x) [i] = wipe σ [i] := by
  rw [wipe1, wipe1, List.set_set, List.set_set]
theorem rd_ret {te : TE} {D : Ends} {σ : L2.St} {H : Hp} (h : te σ H D.rt) : tRet te D σ H := h
theorem rd_cb1 {r : List V → Hp → VK → Prop} {te : TE} {σ : L2.St} {H : Hp} {Q : VK} (h : te σ H fun x H1 => r [x] H1 Q) : tCB r (tCons te tNil) σ H Q := h
theorem rd_lcRS {t : TA} {te : TE} {i : Nat} {σ : L2.St} {H : Hp} {Q : VK} (h : t σ H fun vs H1 => ∃ j : Int, vs = [.int j] ∧ -(2 ^ 62) ≤ j ∧ j < 2 ^ 62 ∧ ∀ D, H1 D = none → ∃ Pv : Nat → Hp → Prop, Pv 0 (upd H1 D (.lst [])) ∧
      (∀ (m : Nat) H', (m : Int) < j → Pv m H' → te ((wipe σ [i]).set i (some (.int (0 + (m : Int))))) H' fun y H4 => ∃ acc, H4 D = some (.lst acc) ∧ acc.length < sizeLine ∧ Pv (m + 1) (upd H4 D (.lst (acc ++ [y])))) ∧ ∀ H', Pv j.toNat H' → Q (.ref D) H') :
    ∀ (_ : ∀ {Q1 Q2 : List V → Hp → Prop}, (∀ vs H1, Q1 vs H1 → Q2 vs H1) → t σ H Q1 → t σ H Q2), tLc (iRng1 t) (gName i) tYes te [i] σ H Q := fun mono => by
  refine mono (fun vs H1 h => ?_) h
  obtain ⟨j, e, b1, b2, h⟩ := h
  refine ⟨j, e, b1, b2, fun D hD => ?_⟩
  obtain ⟨Pv, h0, hs, hd⟩ := h D hD
  refine lc_range Pv h0 (fun m H' hm p => ?_) hd
  refine ⟨wipe_one, ?_⟩
  simp only [tYes, ↓reduceIte]
  exact hs m H' (by omega) p
def spLaw (K : PySem.W.Frag) : Sp := fun vs H Q _ => ∃ (a : Addr) (ns : List Int), vs = [.ref a] ∧ SqL K H a (ns.map V.int) ∧ ns.length ≤ 63 ∧ ∀ H', Q (.bl true) H'
theorem scLw : FnScope ["_law_script", "_law_turn"] ["_law_script"] (defScope (top 57)) := ⟨rfl, rfl, rfl, by decide +kernel, rfl, by decide +kernel, by decide +kernel⟩
section
variable {P : Program} {w : World} {K : PySem.W.Frag} {mg : Str → Option Value} {base : Heap} {f fS : Addr} {fd fdS : FuncData}
theorem ok_law (D : Df K mg "law" 57 f fd) (T : Txt K mg) (DS : Df K mg "_law_source" 35 fS fdS) (GR : GRgt P w K mg base) : FnG P w K mg base (L2.CX P w) 17 f fd ["_law_script"] (spLaw K) := by
  have GS : FnOk P w K mg base (L2.CX P w) 1 fS fdS ["_law_script", "_law_turn"] (spSrc K) := ok_src DS T
  have bS := DS.fn.binds (ps := ["_law_script", "_law_turn"]) fun _ _ _ _ _ _ us hl => match us, hl with | [_, _], _ => rfl
  refine fnG_of D.fn scLw (fun vs H Q E h => ?_) (fun cdv A outer s H vs Q E hr hgd h => ?_)
  · obtain ⟨a, ns, rfl, _⟩ := h
    rfl
  · obtain ⟨a, ns, rfl, hS, hn, k⟩ := h
    have hr1 : Room 1 (A.deeper (envOfC "law" (defScope (top 57)) s.heap.objs.size f cdv)) := hr.mono (by decide)
    refine ⟨_, (pss_one (ps_ret (pe_callB (cr_all rfl) (by rfl) (T.free "all" (by decide +kernel)) (by decide +kernel) (pa_cons (pe_lc (own := [("_law_turn", 1)]) (g := gName 1) (tt := tYes) rfl scLw.nd (pi_range1 rfl (T.free "range" (by decide +kernel)) (pa_cons (pe_callB (call_max2 rfl) (by rfl) (T.free "max" (by decide +kernel)) (by decide +kernel) (pa_cons pe_int (pa_cons (pe_callB (call_min2 rfl) (by rfl) (T.free "min" (by decide +kernel)) (by decide +kernel) (pa_cons (pe_callB call_len_seq (by rfl) (T.free "len" (by decide +kernel)) (by decide +kernel) (pa_cons (pv 0) pa_nil)) (pa_cons pe_int pa_nil))) pa_nil))) pa_nil)) (blkOk_by (N := ["_law_script", "_law_turn"]) (sc := defScope (top 57)) (by decide +kernel)) (fun _ _ _ _ _ => pg_name (i := 1) scLw.nd rfl (.inl rfl)) (fun _ _ _ _ _ => pts_nil) (fun _ _ _ _ _ => (pe_callG GR.ok hr hgd (by rfl) GR.gl GR.kp GR.bd pass00 (pa_cons (pe_call GS hr1 (by rfl) DS.gl DS.fn.kp bS .nil pass00 (pa_cons (pv 0) (pa_cons (pv 1) pa_nil))) pa_nil)))) pa_nil)))), ?_⟩
    have bnd : ∀ l : Int, 2 ≤ (if (if (3 : Int) < l then (3 : Int) else l) > 2 then (if (3 : Int) < l then (3 : Int) else l) else 2) ∧ (if (if (3 : Int) < l then (3 : Int) else l) > 2 then (if (3 : Int) < l then (3 : Int) else l) else 2) ≤ 3 := by
      intro l
      split
      · rename_i h
        revert h
        split <;> intro h <;> omega
      · omega
    have bl := bnd ((ns.map V.int).length : Int)
    refine rd_ret (rd_cb1 (rd_lcRS ⟨.ref a, rfl, a, ns.map V.int, rfl, .inl hS, _, _, rfl, _, _, rfl, _, rfl, by omega, by omega, fun D8 hD => ⟨fun i H1 => Same H H1 ∧ H1 D8 = some (.lst ((List.replicate i true).map V.bl)), ⟨same_new2 hD, upd_same⟩, fun i H1 hi h => ?_, fun H1 h => ?_⟩⟩ ?_))
    rotate_left 2
    · intro Q1 Q2 hq h
      obtain ⟨v, e1, p, ys, e2, e3, i, j, e4, i2, j2, e5, q⟩ := h
      exact ⟨v, e1, p, ys, e2, e3, i, j, e4, i2, j2, e5, hq _ _ q⟩
    · obtain ⟨s8, h8⟩ := h
      refine ⟨.ref a, rfl, .int (0 + (i : Int)), rfl, a, ns, 0 + (i : Int), rfl, s8.seq hS, hn, by omega, by omega, fun j H9 hj jar s9 => ?_⟩
      have dj : D8 ≠ j := ne_of_none h8 hj
      refine ⟨some j, [.jar], fun d => d = .bl true, noX, fun q e => by cases e; exact jar, .cons (.jar rfl) .nil, ⟨rfl, rfl⟩, fun v d H10 w10 i10 q10 => ?_, wok0⟩
      subst q10
      cases i10
      have st : ∀ b o, b ≠ j → H9 b = some o → H10 b = some o := fun b o n h => w10.st b o (fun z => n (by cases z; rfl)) h
      refine ⟨_, st _ _ dj (s9 _ _ h8), ?_, fun b o hb => ?_, ?_⟩
      · rw [List.length_map, List.length_replicate]
        exact small1000 (by omega)
      · rw [upd_ne (ne_of_none hb hD)]
        exact st _ _ (ne_of_none (s8 _ _ hb) hj) (s9 _ _ (s8 _ _ hb))
      · rw [upd_same, List.replicate_succ', List.map_append]
        rfl
    · obtain ⟨s8, h8⟩ := h
      refine ⟨D8, _, rfl, SqL.of h8, ?_⟩
      have e : ∀ n : Nat, (List.replicate n true).all id = true := fun n => by
        rw [List.all_replicate]
        simp
      rw [e]
      exact k _
end
end K3
set_option Elab.async false
set_option linter.all false
set_option maxRecDepth 100000
set_option maxHeartbeats 4000000
namespace GX
open PySem PySem.Spec PyProof.Rows L2
/-- a law whose def asks that no repr runs around it -/
theorem walkG2 {l : PySem.W.OpenLaw} {n k : Nat} {q : Program} {loose : List Str} {XP : (Str → Option Value) → Heap → Prop} {YP : World → Heap → Prop} {d : DefRec} {CX : World → CXT} {x : Str}
    (hn : l.most = some n) (hn2 : n ≤ sizeLine) (hdf : d.params.defaults = []) (hr : Room k callerA)
    (F : ∀ (w : World) (mg : Str → Option Value) (fa : Addr) (h : Heap), YP w h → h.Ns mainGlobals mg → mg d.name = some (.ref fa) →
      ∃ (K : PySem.W.Frag) (fd : FuncData) (sp : Sp), K.In h ∧ (∀ (s : Shared) (u : Value), BindsTo s fd ⟨[u], []⟩ [(x, u)]) ∧
        (∀ (H : Hp) (a : Addr) (ns : List Int), ns.length ≤ n → Only H → SqL K H a (ns.map V.int) → sp [.ref a] H (fun v _ => v = .bl true) fun _ _ _ => False) ∧
        ∀ base : Heap, K.In base → base.Ns mainGlobals mg → FnG l.prog w K mg base (CX w) k fa fd [x] sp)
    (hCX : ∀ (w : World) (H : Hp) (s : Shared) (e : Value) (s' : Shared), CX w [] H s (fun _ _ _ => False) e s' → False) :
    PySem.W.WalkO q loose XP YP l.row.toRowW d [] (fun f vs => PySem.call f vs) :=
  Att.attach_call hn hdf fun w s₀ s₁ mg mb fa o pm cd doc a vs ns G Y ho hd hcd hmg hobj hints hlen hg => by
    obtain ⟨K, fd, sp, KX, hb, hsp, hF⟩ := F w mg fa _ Y G.T.g hmg
    exact lawG KX G.T.g G.T.b G.T.builtins G.T.nolimit hg hobj hints (Nat.le_trans hlen hn2) hr hF hb (fun H hO hS => hsp H a ns hlen hO hS) fun H e s' => hCX w H s₁ e s'
end GX
namespace K3
open PySem PySem.Spec PyProof.Rows L2 GX HX PL
theorem fun_of {K : PySem.W.Frag} {x q : Str} {st : Stmt} {f : Addr} {fd : FuncData} (F : FunD K x q (defArgs st) (defBody st) (defScope st) [] [] f fd) : Fun K x q st f fd := by
  obtain ⟨⟨oc, od, dV, kV, doc, pm, an, cdv, ct, osl, rfl, lk, hcd, hD, hK⟩, kp⟩ := F
  rcases hD with ⟨_, rfl⟩ | ⟨h, _⟩
  · exact ⟨⟨oc, od, kV, doc, pm, an, cdv, ct, osl, rfl, lk, hcd⟩, kp⟩
  · exact absurd rfl h
section
variable {P : Program} {w : World} {K : PySem.W.Frag} {h : Heap} {mg : Str → Option Value}
/-- what the three looks say -/
structure Says (K : PySem.W.Frag) : Prop where
  a : p1.says K
  b : p2.says K
  c : p3.says K
theorem rows_of (c : Says K) : ∀ x ∈ tab, RowOk K x := fun x hx => row_ok (List.all_eq_true.mp (show (tab.all fun c => rowB K c) = true from c.a.1) x hx)
theorem txt_of (X : K.In h) (G : h.Ns mainGlobals mg) (c : Says K) : Txt K mg := by
  obtain ⟨c1, c2⟩ := ba (show okM K = true from c.b.1)
  obtain ⟨c3, c4⟩ := ba c2
  obtain ⟨c5, c6⟩ := ba c4
  obtain ⟨c7, c8⟩ := ba c6
  obtain ⟨c9, c10⟩ := ba c8
  have rows := rows_of c
  exact ⟨rows, of_decide_eq_true c10, fun c hc => PySem.W.mg_of X G (rows c hc).gl, fun b hb => He.free_ok X G (List.all_eq_true.mp c3 b hb), He.int_ok X G c5, He.int_ok X G c7, PySem.W.mg_of X G (He.eqO_ok c9)⟩
theorem df_of (X : K.In h) (G : h.Ns mainGlobals mg) (c : Says K) {x : Str} {i : Nat} (hm : dOf x i ∈ fnsL) : ∃ fd, Df K mg x i (He.ga K x) fd := by
  obtain ⟨fd, F⟩ := HQ.Part.def_ c.b (x := dOf x i) hm
  obtain ⟨c1, _⟩ := ba (show okM K = true from c.b.1)
  exact ⟨fd, fun_of F, He.glo_ok X G (List.all_eq_true.mp c1 _ hm)⟩
theorem sf_of (c : Says K) {m q : Str} {j : Nat} (hm : sOf m j ∈ fnsR) (hq : ("Rest." : Str) ++ m = q) : ∃ fd, Sf K m q j (He.ma K (He.ga K kRs) m) fd := by
  obtain ⟨fd, F⟩ := HQ.Part.def_ c.c (x := sOf m j) hm
  subst hq
  exact ⟨fd, fun_of F⟩
theorem sv_of (c : Says K) {m q : Str} {T : String} {j : Nat} (hm : sVia T m j ∈ fnsR) (hq : ("Rest." : Str) ++ m = q) : ∃ fd, Sf K m q j (HQ.recG K (He.ma K (He.ga K kRs) m) T) fd := by
  obtain ⟨fd, F⟩ := HQ.Part.def_ c.c (x := sVia T m j) hm
  subst hq
  exact ⟨fd, fun_of F⟩
theorem rf_of (c : Says K) {m q : Str} {j : Nat} (hm : rOf m j ∈ fnsR) (hq : ("Ratio." : Str) ++ m = q) : ∃ fd, Rf K m q j (He.ma K (He.ga K kRat) m) fd := by
  obtain ⟨fd, F⟩ := HQ.Part.def_ c.c (x := rOf m j) hm
  subst hq
  exact ⟨fd, fun_of F⟩
theorem rv_of (c : Says K) {m q : Str} {T : String} {j : Nat} (hm : rVia T m j ∈ fnsR) (hq : ("Ratio." : Str) ++ m = q) : ∃ fd, Rf K m q j (HQ.recG K (He.ma K (He.ga K kRat) m) T) fd := by
  obtain ⟨fd, F⟩ := HQ.Part.def_ c.c (x := rVia T m j) hm
  subst hq
  exact ⟨fd, fun_of F⟩
theorem ow_of (X : K.In h) (G : h.Ns mainGlobals mg) {x : Str} (own : HQ.ownB K x = true) (gl : (He.Fa.glo x).ok K = true) : Ow K mg x := by
  obtain ⟨o1, o⟩ := ba own
  obtain ⟨o2, o⟩ := ba o
  obtain ⟨o3, o⟩ := ba o
  obtain ⟨o4, o⟩ := ba o
  obtain ⟨o5, o⟩ := ba o
  obtain ⟨o6, o⟩ := ba o
  obtain ⟨o7, o⟩ := ba o
  obtain ⟨o8, o⟩ := ba o
  obtain ⟨o9, o⟩ := ba o
  obtain ⟨o10, o⟩ := ba o
  obtain ⟨o11, o⟩ := ba o
  obtain ⟨o12, o13⟩ := ba o
  have cl := He.cls_ok o1
  exact ⟨⟨cl, He.eqO_ok o6, He.eqO_ok o7, of_decide_eq_true o8, of_decide_eq_true o9, of_decide_eq_true o10⟩, ⟨cl, o2, of_decide_eq_true o3, o4, He.eqO_ok o5⟩, He.glo_ok X G gl, He.mkr_ok o13, fun T hT => of_decide_eq_true (List.all_eq_true.mp o11 T hT), fun T hT => of_decide_eq_true (List.all_eq_true.mp o12 T hT)⟩
theorem cl_of (X : K.In h) (G : h.Ns mainGlobals mg) (c : Says K) : Cl_ K mg := by
  obtain ⟨own, d⟩ := ba (show okR K = true from c.c.1)
  obtain ⟨met, d⟩ := ba d
  obtain ⟨un, d⟩ := ba d
  obtain ⟨tx, d⟩ := ba d
  obtain ⟨n1, d⟩ := ba d
  obtain ⟨n2, d⟩ := ba d
  obtain ⟨n3, d⟩ := ba d
  obtain ⟨gl, d⟩ := ba d
  obtain ⟨own2, d⟩ := ba d
  obtain ⟨eq2, d⟩ := ba d
  obtain ⟨tx2, d⟩ := ba d
  obtain ⟨m1, d⟩ := ba d
  obtain ⟨m2, d⟩ := ba d
  obtain ⟨gl2, d⟩ := ba d
  obtain ⟨a1, a2⟩ := ba d
  obtain ⟨a3, a4⟩ := ba a1
  obtain ⟨a5, a6⟩ := ba a2
  exact ⟨ow_of X G own gl, ow_of X G own2 gl2, He.noat_ok n1, He.noat_ok n2, He.noat_ok m1, He.noat_ok m2, fun m hm => HQ.met_ok (List.all_eq_true.mp met m hm), He.eqO_ok n3, HQ.prop_ok un, HQ.prop_ok tx, HQ.prop_ok tx2, HQ.met_ok eq2, of_decide_eq_true a3, of_decide_eq_true a5, of_decide_eq_true a4, of_decide_eq_true a6⟩
theorem inits_of (c : Says K) : Inits K := by
  intro r hr ne
  have go : ∀ (x : Str) (i : Nat), iOf x i ∈ fnsE → ∃ fd, Fun K "__init__" (x ++ ".__init__") (inClass (top i) 0) (He.ma K (ga K x) "__init__") fd := fun x i hm => by
    obtain ⟨fd, F⟩ := HQ.Part.def_ c.a (x := iOf x i) hm
    exact ⟨fd, fun_of F⟩
  simp only [tab, List.mem_cons, List.not_mem_nil, or_false] at hr
  rcases hr with rfl | rfl | rfl | rfl | rfl | rfl | rfl | rfl | rfl | rfl
  · exact ⟨go "InvalidNumber" 4 (by simp [fnsE]), by decide +kernel, by decide +kernel⟩
  · exact ⟨go "InvalidText" 5 (by simp [fnsE]), by decide +kernel, by decide +kernel⟩
  · exact ⟨go "NotANumber" 6 (by simp [fnsE]), by decide +kernel, by decide +kernel⟩
  · exact ⟨go "Unlike" 7 (by simp [fnsE]), by decide +kernel, by decide +kernel⟩
  · exact ⟨go "NotAUnit" 10 (by simp [fnsE]), by decide +kernel, by decide +kernel⟩
  · exact ⟨go "NotApart" 11 (by simp [fnsE]), by decide +kernel, by decide +kernel⟩
  · exact ⟨go "TooMany" 12 (by simp [fnsE]), by decide +kernel, by decide +kernel⟩
  · exact absurd rfl ne
  · exact absurd rfl ne
  · exact absurd rfl ne
end
end K3
set_option Elab.async false
set_option linter.all false
set_option maxRecDepth 100000
set_option maxHeartbeats 4000000
namespace K3
open PySem PySem.Spec PyProof.Rows L2 GX HX PL
section
variable {P : Program} {w : World} {K : PySem.W.Frag} {h : Heap} {mg : Str → Option Value} {base : Heap}
theorem kwb {x q : Str} {st : Stmt} {f : Addr} {fd : FuncData} {ps : List Str} {kn : Str} (F : Fun K x q st f fd)
    (hk : ∀ (kV doc pm : Value) (an : Option Addr) (cdv ct : Value) (us : List Value) (u : Value), us.length + 1 = ps.length → bindArgs (PySem.W.fnOf x q (defArgs st) (defBody st) (defScope st) .none kV doc pm an cdv ct) ⟨us, [(kn, u)]⟩ = pure (ps.zip (us ++ [u]))) : KwB K fd ps kn := by
  obtain ⟨oc, od, kV, doc, pm, an, cdv, ct, osl, rfl, lk, hcd⟩ := F.ex
  exact fun s us u _ hl => .of_eq (hk kV doc pm an cdv ct us u hl)
theorem vals_rev : ∀ {vs : List V} {us : List Value}, Vals vs us → Vals vs.reverse us.reverse
  | _, _, .nil => .nil
  | _, _, .cons h t => by
    rw [List.reverse_cons, List.reverse_cons]
    exact (vals_rev t).append (.cons h .nil)
theorem kwb2 {x q : Str} {st : Stmt} {f : Addr} {fd : FuncData} {ps : List Str} {k1 k2 : Str} (F : Fun K x q st f fd)
    (hk : ∀ (kV doc pm : Value) (an : Option Addr) (cdv ct : Value) (u v : Value), bindArgs (PySem.W.fnOf x q (defArgs st) (defBody st) (defScope st) .none kV doc pm an cdv ct) ⟨[], [(k1, u), (k2, v)]⟩ = pure (ps.zip [v, u])) : KwB2 fd ps K k1 k2 := by
  obtain ⟨oc, od, kV, doc, pm, an, cdv, ct, osl, rfl, lk, hcd⟩ := F.ex
  exact fun s u v _ => .of_eq (hk kV doc pm an cdv ct u v)
theorem sin_of (c : Says K) (T : Txt K mg) (B : Cl_ K mg) (M : Inits K) (I : FIwn P w K mg base) (L : FLb P w K mg base) : Nonempty (Sin P w K mg base) := by
  obtain ⟨fd, F⟩ := sf_of c (m := "__init__") (q := "Rest.__init__") (j := 0) (by simp [fnsR]) rfl
  have kb : KBn K fd ["self", "number", "modulus"] 1 ["modulus", "number"] (fun us ws => us ++ ws.reverse) (fun vs zs => vs ++ zs.reverse) := by
    obtain ⟨oc, od, kV, doc, pm, an, cdv, ct, osl, rfl, lk, hcd⟩ := F.ex
    exact ⟨fun s us ws X l1 l2 => match us, ws, l1, l2 with | [_], [_, _], _, _ => .of_eq rfl, fun r1 r2 => r1.append (vals_rev r2)⟩
  exact ⟨⟨_, fd, B.s.mkr, F.binds (fun _ _ _ _ _ _ us hl => match us, hl with | [_, _, _], _ => rfl), kb, ok_sin F T B M I L⟩⟩
theorem ini_of (c : Says K) (T : Txt K mg) (B : Cl_ K mg) (M : Inits K) (I : FIwn P w K mg base) : Nonempty (Ini P w K mg base) := by
  obtain ⟨fd, F0⟩ := HQ.Part.def_ c.c (x := rIni) (List.mem_of_getElem? (i := 15) rfl)
  have F : FunD K "__init__" "Ratio.__init__" (defArgs (rt 0)) (defBody (rt 0)) (defScope (rt 0)) [.int 1] [] (He.ma K (He.ga K kRat) "__init__") fd := F0
  obtain ⟨d2, v2, b2⟩ := F.binds1 (ps := ["self", "top", "bottom"]) 3 1 (List.cons_ne_nil _ _) rfl fun T kV doc pm an cdv ct us its hu hi => match us, hu, its, hi with
    | [_, _, _], _, [_], _ => ⟨_, rfl, rfl⟩
  obtain ⟨d1, v1, b1⟩ := F.binds1 (ps := ["self", "top", "bottom"]) 2 0 (List.cons_ne_nil _ _) rfl fun T kV doc pm an cdv ct us its hu hi => match us, hu, its, hi with
    | [_, _], _, [_], _ => ⟨_, rfl, rfl⟩
  obtain ⟨its, kb⟩ := F.kbindsD (ps := ["self", "top", "bottom"]) 1 ["bottom", "top"] (fun us _ ws => us ++ ws.reverse) (List.cons_ne_nil _ _) (fun a _ b => a.append (vals_rev b)) fun T kV doc pm an cdv ct us its ws hu hi hw => match us, hu, its, hi, ws, hw with
    | [_], _, [_], _, [_, _], _ => ⟨_, rfl, rfl⟩
  cases v2
  exact ⟨⟨_, fd, B.r.mkr, b2, d1, v1, b1, its, kb, ok_ini F T B M I⟩⟩
theorem facts (X : K.In h) (G : h.Ns mainGlobals mg) (c : Says K) {f : Addr} (hfa : mg ("law" : Str) = some (.ref f)) :
    ∃ fd : FuncData, (∀ (s : Shared) (v : Value), BindsTo s fd ⟨[v], []⟩ [("_law_script", v)]) ∧ ∀ base : Heap, K.In base → base.Ns mainGlobals mg → FnG P w K mg base (L2.CX P w) 17 f fd ["_law_script"] (spLaw K) := by
  have T := txt_of X G c
  have M := inits_of c
  have B := cl_of X G c
  obtain ⟨fd17, D17⟩ := df_of X G c (x := "is_whole_number") (i := 17) (by simp [fnsL])
  obtain ⟨fd18, D18⟩ := df_of X G c (x := "lies_between") (i := 18) (by simp [fnsL])
  obtain ⟨fd21, D21⟩ := df_of X G c (x := "primes_of") (i := 21) (by simp [fnsL])
  obtain ⟨fd22, D22⟩ := df_of X G c (x := "inverse_by_whole") (i := 22) (by simp [fnsL])
  obtain ⟨fd23, D23⟩ := df_of X G c (x := "raised") (i := 23) (by simp [fnsL])
  obtain ⟨fd26, D26⟩ := df_of X G c (x := "_number_beside") (i := 26) (by simp [fnsL])
  obtain ⟨fd27, D27⟩ := df_of X G c (x := "order_of") (i := 27) (by simp [fnsL])
  obtain ⟨fd28, D28⟩ := df_of X G c (x := "_count_units") (i := 28) (by simp [fnsL])
  obtain ⟨fd29, D29⟩ := df_of X G c (x := "joined") (i := 29) (by simp [fnsL])
  obtain ⟨fd35, D35⟩ := df_of X G c (x := "_law_source") (i := 35) (by simp [fnsL])
  obtain ⟨fd36, D36⟩ := df_of X G c (x := "_law_take") (i := 36) (by simp [fnsL])
  obtain ⟨fd37, D37⟩ := df_of X G c (x := "_law_pick") (i := 37) (by simp [fnsL])
  obtain ⟨fd38, D38⟩ := df_of X G c (x := "_law_great") (i := 38) (by simp [fnsL])
  obtain ⟨fd39, D39⟩ := df_of X G c (x := "_law_by_modulus") (i := 39) (by simp [fnsL])
  obtain ⟨fd40, D40⟩ := df_of X G c (x := "_law_whole") (i := 40) (by simp [fnsL])
  obtain ⟨fd41, D41⟩ := df_of X G c (x := "_law_shared") (i := 41) (by simp [fnsL])
  obtain ⟨fd42, D42⟩ := df_of X G c (x := "_law_turned") (i := 42) (by simp [fnsL])
  obtain ⟨fd43, D43⟩ := df_of X G c (x := "_law_raised") (i := 43) (by simp [fnsL])
  obtain ⟨fd44, D44⟩ := df_of X G c (x := "_law_round") (i := 44) (by simp [fnsL])
  obtain ⟨fd45, D45⟩ := df_of X G c (x := "_law_shown") (i := 45) (by simp [fnsL])
  obtain ⟨fd46, D46⟩ := df_of X G c (x := "_law_called") (i := 46) (by simp [fnsL])
  obtain ⟨fd47, D47⟩ := df_of X G c (x := "_law_by_sign") (i := 47) (by simp [fnsL])
  obtain ⟨fd48, D48⟩ := df_of X G c (x := "_law_refused") (i := 48) (by simp [fnsL])
  obtain ⟨fd49, D49⟩ := df_of X G c (x := "_law_is_refused") (i := 49) (by simp [fnsL])
  obtain ⟨fd50, D50⟩ := df_of X G c (x := "_law_odd") (i := 50) (by simp [fnsL])
  obtain ⟨fd51, D51⟩ := df_of X G c (x := "_law_signs_right") (i := 51) (by simp [fnsL])
  obtain ⟨fd52, D52⟩ := df_of X G c (x := "_law_powers_right") (i := 52) (by simp [fnsL])
  obtain ⟨fd53, D53⟩ := df_of X G c (x := "_law_orders_right") (i := 53) (by simp [fnsL])
  obtain ⟨fd54, D54⟩ := df_of X G c (x := "_law_joined_right") (i := 54) (by simp [fnsL])
  obtain ⟨fd55, D55⟩ := df_of X G c (x := "_law_refusals_right") (i := 55) (by simp [fnsL])
  obtain ⟨fd56, D56⟩ := df_of X G c (x := "_law_right") (i := 56) (by simp [fnsL])
  obtain ⟨fd57, D57⟩ := df_of X G c (x := "law") (i := 57) (by simp [fnsL])
  have e := hfa.symm.trans D57.gl
  cases e
  have hb : ∀ (s : Shared) (v : Value), BindsTo s fd57 ⟨[v], []⟩ [("_law_script", v)] := fun s v => by
    obtain ⟨oc, od, kV, doc, pm, an, cdv, ct, osl, rfl, lk, hcd⟩ := D57.fn.ex
    exact .of_eq rfl
  refine ⟨fd57, hb, fun base _ _ => ?_⟩
  have I : FIwn P w K mg base := ⟨_, fd17, D17.gl, D17.fn.kp, D17.fn.binds (fun _ _ _ _ _ _ us hl => match us, hl with | [_], _ => rfl), ok_iwn D17 T B⟩
  have L : FLb P w K mg base := ⟨_, fd18, D18.gl, D18.fn.kp, D18.fn.binds (fun _ _ _ _ _ _ us hl => match us, hl with | [_, _, _], _ => rfl), ok_lb D18 I⟩
  have PR : FPr P w K mg base := ⟨_, fd21, D21.gl, D21.fn.kp, D21.fn.binds (fun _ _ _ _ _ _ us hl => match us, hl with | [_], _ => rfl), ok_pr D21 T⟩
  have IW : FIw P w K mg base := ⟨_, fd22, D22.gl, D22.fn.kp, D22.fn.binds (fun _ _ _ _ _ _ us hl => match us, hl with | [_, _], _ => rfl), ok_iw D22⟩
  obtain ⟨N⟩ := sin_of (P := P) (w := w) (base := base) c T B M I L
  obtain ⟨NR⟩ := ini_of (P := P) (w := w) (base := base) c T B M I
  have NB : FNb P w K mg base := ⟨_, fd26, D26.gl, D26.fn.kp, D26.fn.binds (fun _ _ _ _ _ _ us hl => match us, hl with | [_, _], _ => rfl), ok_nb D26 T B M I⟩
  obtain ⟨fm5, R5⟩ := sf_of c (m := "__add__") (q := "Rest.__add__") (j := 5) (by simp [fnsR]) rfl
  have AD : MM P w K mg base "__add__" pfAdd := ⟨_, fm5, B.met _ (by decide), R5.binds (fun _ _ _ _ _ _ us hl => match us, hl with | [_, _], _ => rfl), ok_add R5 T B NB N⟩
  obtain ⟨fm6, R6⟩ := sf_of c (m := "__radd__") (q := "Rest.__radd__") (j := 6) (by simp [fnsR]) rfl
  have RA : MM P w K mg base "__radd__" pfRad := ⟨_, fm6, B.met _ (by decide), R6.binds (fun _ _ _ _ _ _ us hl => match us, hl with | [_, _], _ => rfl), ok_rad R6 T B NB N⟩
  obtain ⟨fm7, R7⟩ := sf_of c (m := "__sub__") (q := "Rest.__sub__") (j := 7) (by simp [fnsR]) rfl
  have SU : MM P w K mg base "__sub__" pfSub := ⟨_, fm7, B.met _ (by decide), R7.binds (fun _ _ _ _ _ _ us hl => match us, hl with | [_, _], _ => rfl), ok_sub R7 T B NB N⟩
  obtain ⟨fm8, R8⟩ := sf_of c (m := "__rsub__") (q := "Rest.__rsub__") (j := 8) (by simp [fnsR]) rfl
  have RB : MM P w K mg base "__rsub__" pfRsu := ⟨_, fm8, B.met _ (by decide), R8.binds (fun _ _ _ _ _ _ us hl => match us, hl with | [_, _], _ => rfl), ok_rsu R8 T B NB N⟩
  obtain ⟨fm9, R9⟩ := sf_of c (m := "__mul__") (q := "Rest.__mul__") (j := 9) (by simp [fnsR]) rfl
  have MU : MM P w K mg base "__mul__" pfMul := ⟨_, fm9, B.met _ (by decide), R9.binds (fun _ _ _ _ _ _ us hl => match us, hl with | [_, _], _ => rfl), ok_mul R9 T B NB N⟩
  obtain ⟨fm10, R10⟩ := sf_of c (m := "__rmul__") (q := "Rest.__rmul__") (j := 10) (by simp [fnsR]) rfl
  have RM : MM P w K mg base "__rmul__" pfRmu := ⟨_, fm10, B.met _ (by decide), R10.binds (fun _ _ _ _ _ _ us hl => match us, hl with | [_, _], _ => rfl), ok_rmu R10 T B NB N⟩
  obtain ⟨fm3, R3⟩ := sf_of c (m := "__eq__") (q := "Rest.__eq__") (j := 3) (by simp [fnsR]) rfl
  have EQ : Me P w K mg base kRs "__eq__" 1 ["self", "other"] pfEq := ⟨_, fm3, B.met _ (by decide), R3.binds (fun _ _ _ _ _ _ us hl => match us, hl with | [_, _], _ => rfl), ok_eq R3 T B⟩
  obtain ⟨fm4, R4⟩ := sf_of c (m := "__bool__") (q := "Rest.__bool__") (j := 4) (by simp [fnsR]) rfl
  have BO : Me P w K mg base kRs "__bool__" 1 ["self"] pfBool := ⟨_, fm4, B.met _ (by decide), R4.binds (fun _ _ _ _ _ _ us hl => match us, hl with | [_], _ => rfl), ok_bool R4 T B⟩
  obtain ⟨fm12, R12⟩ := sf_of c (m := "__neg__") (q := "Rest.__neg__") (j := 12) (by simp [fnsR]) rfl
  have NG : Me P w K mg base kRs "__neg__" 7 ["self"] pfNeg := ⟨_, fm12, B.met _ (by decide), R12.binds (fun _ _ _ _ _ _ us hl => match us, hl with | [_], _ => rfl), ok_neg R12 T B N⟩
  obtain ⟨fm14, R14⟩ := sf_of c (m := "inverse") (q := "Rest.inverse") (j := 14) (by simp [fnsR]) rfl
  have V : Me P w K mg base kRs "inverse" 7 ["self"] pfInv := ⟨_, fm14, B.met _ (by decide), R14.binds (fun _ _ _ _ _ _ us hl => match us, hl with | [_], _ => rfl), ok_inv R14 T B M IW N⟩
  have RS : FRs P w K mg base := ⟨_, fd23, D23.gl, D23.fn.kp, D23.fn.binds (fun _ _ _ _ _ _ us hl => match us, hl with | [_, _, _], _ => rfl), ok_rs D23 B MU⟩
  obtain ⟨fm13, R13⟩ := sf_of c (m := "power") (q := "Rest.power") (j := 13) (by simp [fnsR]) rfl
  obtain ⟨PO, poK⟩ : ∃ PO : MPow P w K mg base, KwB K PO.fd ["self", "exponent"] "exponent" := ⟨⟨_, fm13, B.met _ (by decide), R13.binds (fun _ _ _ _ _ _ us hl => match us, hl with | [_, _], _ => rfl), ok_pow R13 T B M L RS V N⟩, kwb R13 fun _ _ _ _ _ _ us u hl => match us, hl with | [_], _ => rfl⟩
  obtain ⟨fm11, R11⟩ := sf_of c (m := "__pow__") (q := "Rest.__pow__") (j := 11) (by simp [fnsR]) rfl
  have PW : MPw2 P w K mg base := ⟨_, fm11, B.met _ (by decide), R11.binds (fun _ _ _ _ _ _ us hl => match us, hl with | [_, _], _ => rfl), ok_pw2 R11 B PO⟩
  obtain ⟨fm1, R1⟩ := sv_of c (m := "is_unit") (q := "Rest.is_unit") (T := "property") (j := 1) (by simp [fnsR]) rfl
  have UN : Pp P w K mg base kRs "is_unit" 1 pfUn := ⟨_, _, fm1, B.unit, R1.binds (fun _ _ _ _ _ _ us hl => match us, hl with | [_], _ => rfl), ok_un R1 T B⟩
  obtain ⟨fm2, R2⟩ := sv_of c (m := "text") (q := "Rest.text") (T := "property") (j := 2) (by simp [fnsR]) rfl
  have TX : Pp P w K mg base kRs "text" 1 pfTx := ⟨_, _, fm2, B.text, R2.binds (fun _ _ _ _ _ _ us hl => match us, hl with | [_], _ => rfl), ok_tx R2 T B⟩
  obtain ⟨gm3, S3⟩ := rv_of c (m := "text") (q := "Ratio.text") (T := "property") (j := 3) (by simp [fnsR]) rfl
  have RT : Pp P w K mg base kRat "text" 1 pfRtx := ⟨_, _, gm3, B.rtext, S3.binds (fun _ _ _ _ _ _ us hl => match us, hl with | [_], _ => rfl), ok_rtx S3 B⟩
  obtain ⟨gm4, S4⟩ := rf_of c (m := "__eq__") (q := "Ratio.__eq__") (j := 4) (by simp [fnsR]) rfl
  have RQ : Me P w K mg base kRat "__eq__" 1 ["self", "other"] pfReq := ⟨_, gm4, B.req, S4.binds (fun _ _ _ _ _ _ us hl => match us, hl with | [_, _], _ => rfl), ok_req S4 T B⟩
  have CU : FCu P w K mg base := ⟨_, fd28, D28.gl, D28.fn.kp, D28.fn.binds (fun _ _ _ _ _ _ us hl => match us, hl with | [_], _ => rfl), ok_cu D28 PR⟩
  obtain ⟨OR, orK⟩ : ∃ OR : FOr P w K mg base, KwB K OR.fd ["number"] "number" := ⟨⟨_, fd27, D27.gl, D27.fn.kp, D27.fn.binds (fun _ _ _ _ _ _ us hl => match us, hl with | [_], _ => rfl), ok_or D27 T B M PR CU UN PO⟩, kwb D27.fn fun _ _ _ _ _ _ us u hl => match us, hl with | [], _ => rfl⟩
  obtain ⟨JN, jnK⟩ : ∃ JN : FJn P w K mg base, KwB2 JN.fd ["one", "other"] K "other" "one" := ⟨⟨_, fd29, D29.gl, D29.fn.kp, D29.fn.binds (fun _ _ _ _ _ _ us hl => match us, hl with | [_, _], _ => rfl), ok_jn D29 T B M IW N⟩, kwb2 D29.fn fun _ _ _ _ _ _ u v => rfl⟩
  have TA : FTake P w K mg base := ⟨_, fd36, D36.gl, D36.fn.kp, D36.fn.binds (fun _ _ _ _ _ _ us hl => match us, hl with | [_, _], _ => rfl), ok_take D36 T⟩
  have PK : FPick P w K mg base := ⟨_, fd37, D37.gl, D37.fn.kp, D37.fn.binds (fun _ _ _ _ _ _ us hl => match us, hl with | [_, _], _ => rfl), ok_pick D37 T TA⟩
  have GR : FGreat P w K mg base := ⟨_, fd38, D38.gl, D38.fn.kp, D38.fn.binds (fun _ _ _ _ _ _ us hl => match us, hl with | [_, _], _ => rfl), ok_great D38 T TA⟩
  have BM : FBym P w K mg base := ⟨_, fd39, D39.gl, D39.fn.kp, D39.fn.binds (fun _ _ _ _ _ _ us hl => match us, hl with | [_], _ => rfl), ok_bym D39 T TA PK⟩
  have WH : FWh P w K mg base := ⟨_, fd40, D40.gl, D40.fn.kp, D40.fn.binds (fun _ _ _ _ _ _ us hl => match us, hl with | [_], _ => rfl), ok_wh D40 T TA GR⟩
  have SD : FShd P w K mg base := ⟨_, fd41, D41.gl, D41.fn.kp, D41.fn.binds (fun _ _ _ _ _ _ us hl => match us, hl with | [_, _], _ => rfl), ok_shd D41 T⟩
  have TU : FTur P w K mg base := ⟨_, fd42, D42.gl, D42.fn.kp, D42.fn.binds (fun _ _ _ _ _ _ us hl => match us, hl with | [_, _], _ => rfl), ok_tur D42 T⟩
  have LR : FLrs P w K mg base := ⟨_, fd43, D43.gl, D43.fn.kp, D43.fn.binds (fun _ _ _ _ _ _ us hl => match us, hl with | [_, _, _], _ => rfl), ok_lrs D43 T⟩
  have RN : FRnd P w K mg base := ⟨_, fd44, D44.gl, D44.fn.kp, D44.fn.binds (fun _ _ _ _ _ _ us hl => match us, hl with | [_, _], _ => rfl), ok_rnd D44 T⟩
  have SH : GShown P w K mg base := ⟨_, fd45, D45.gl, D45.fn.kp, D45.fn.binds (fun _ _ _ _ _ _ us hl => match us, hl with | [_, _, _], _ => rfl), ok_shown D45 T B SD UN TX BO⟩
  have CA : FCal P w K mg base := ⟨_, fd46, D46.gl, D46.fn.kp, D46.fn.binds (fun _ _ _ _ _ _ us hl => match us, hl with | [_, _, _], _ => rfl), ok_cal D46 T B N AD SU MU PO V OR orK JN jnK⟩
  have BY : FBys P w K mg base := ⟨_, fd47, D47.gl, D47.fn.kp, D47.fn.binds (fun _ _ _ _ _ _ us hl => match us, hl with | [_, _], _ => rfl), ok_bys D47 T B PO PW⟩
  have RF : FRef P w K mg base := ⟨_, fd48, D48.gl, D48.fn.kp, D48.fn.binds (fun _ _ _ _ _ _ us hl => match us, hl with | [_, _, _], _ => rfl), ok_ref D48 T CA⟩
  have IR : GIrf P w K mg base := ⟨_, fd49, D49.gl, D49.fn.kp, D49.fn.binds (fun _ _ _ _ _ _ us hl => match us, hl with | [_, _, _, _, _], _ => rfl), ok_irf D49 T B RF SH RT⟩
  have OD : FOdd P w K mg base := ⟨_, fd50, D50.gl, D50.fn.kp, D50.fn.binds (fun _ _ _ _ _ _ us hl => match us, hl with | [_], _ => rfl), ok_odd D50 T B NR PK⟩
  have SI : GSig P w K mg base := ⟨_, fd51, D51.gl, D51.fn.kp, D51.fn.binds (fun _ _ _ _ _ _ us hl => match us, hl with | [_, _, _, _, _, _], _ => rfl), ok_sig D51 T B N NR AD SU MU RA RB RM NG EQ RQ TX SH⟩
  have PRR : GPwr P w K mg base := ⟨_, fd52, D52.gl, D52.fn.kp, D52.fn.binds (fun _ _ _ _ _ _ us hl => match us, hl with | [_, _, _, _], _ => rfl), ok_pwr D52 T B TA PK GR OD BY PO poK V LR TU SD IR SH⟩
  have ORR : GOrr P w K mg base := ⟨_, fd53, D53.gl, D53.fn.kp, D53.fn.binds (fun _ _ _ _ _ _ us hl => match us, hl with | [_, _, _, _], _ => rfl), ok_orr D53 T B TA PK OD RN SD OR orK IR⟩
  have JNR : GJnr P w K mg base := ⟨_, fd54, D54.gl, D54.fn.kp, D54.fn.binds (fun _ _ _ _ _ _ us hl => match us, hl with | [_, _, _, _], _ => rfl), ok_jnr D54 T B N TA PK OD BM WH SD EQ JN jnK IR SH⟩
  have RFS : GRfs P w K mg base := ⟨_, fd55, D55.gl, D55.fn.kp, D55.fn.binds (fun _ _ _ _ _ _ us hl => match us, hl with | [_, _, _], _ => rfl), ok_rfs D55 T B TA PK OD IR⟩
  have RG : GRgt P w K mg base := ⟨_, fd56, D56.gl, D56.fn.kp, D56.fn.binds (fun _ _ _ _ _ _ us hl => match us, hl with | [_], _ => rfl), ok_rgt D56 T B N TA BM WH SH SI PRR ORR JNR RFS⟩
  exact ok_law D57 T D35 RG
end
end K3
set_option Elab.async false
set_option linter.all false
set_option maxRecDepth 100000
set_option maxHeartbeats 0
section
open PySem PySem.W PySem.Calls PyProof.Rows HandSHeadRun
namespace K3
abbrev qv57 : Program := view K3.R.prog [0, 57]
theorem c1 : defOf qv57 K3.R.name = some (topDef K3.R.prog 57, []) := by kernel_rfl
theorem c2 : K3.R.prog.theDef K3.R.name = some ((topDef K3.R.prog 57).params, (topDef K3.R.prog 57).body, (topDef K3.R.prog 57).scope) := by kernel_rfl
theorem c3 : kwWritten? (topDef K3.R.prog 57).params.kwonlyargs (topDef K3.R.prog 57).params.kw_defaults = some [] := by kernel_rfl
theorem c4 : (!K3.R.writes || K3.R.records.isEmpty) = true := by rfl
theorem c5 : K3.R.wellSaid = true := by decide +kernel
theorem c6 : (chainsOk qv57 && opensWell K3.R.prog && (frees K3.R.toRowW && K3.R.within.isEmpty)) = true := by decide +kernel
theorem c7 : K3.R.prog.bare := ⟨rfl, rfl, rfl, rfl, rfl, by decide +kernel⟩
theorem c8 : K3.R.toRowW.promised := by w_witness2
end K3
end
set_option Elab.async false
set_option linter.all false
set_option maxRecDepth 100000
set_option maxHeartbeats 0
namespace K3
open PySem PySem.Spec PyProof.Rows L2 GX HX
def looks : List HQ.Part := [p1, p2, p3]
theorem runs (w : World) : ∀ p ∈ looks, HQ.Run1 R 25000 p w := by
  intro p hp
  rcases List.mem_cons.mp hp with e | hp
  · rw [e]; exact run1 w
  rcases List.mem_cons.mp hp with e | hp
  · rw [e]; exact run2 w
  rw [List.mem_singleton.mp hp]
  exact run3 w
theorem says_of {K : PySem.W.Frag} (c : ∀ p ∈ looks, p.says K) : Says K :=
  ⟨c p1 (List.mem_cons_self ..), c p2 (List.mem_cons_of_mem _ (List.mem_cons_self ..)), c p3 (List.mem_cons_of_mem _ (List.mem_cons_of_mem _ (List.mem_cons_self ..)))⟩
theorem noCX {P : Program} {w : World} {H : Hp} {s : Shared} {e : Value} {s' : Shared} (h : L2.CX P w [] H s (fun _ _ _ => False) e s') : False := by
  obtain ⟨_, _, _, _, _, _, _, _, _, _, _, _, z⟩ := h
  exact z
end K3
open PySem PySem.W PySem.Calls PyProof.Rows HandSHeadRun
namespace K3
theorem runE : ∀ w, RunEqI K3.R qv57 (HQ.hookQ looks) (fun s => looks.map fun p => p.see (getT s)) 25000 loose w := fun w => HQ.run_all (K3.run0 w) (K3.runs w)
theorem nm : (topDef K3.R.prog 57).name = ("law" : PySem.Str) := by kernel_rfl
theorem dfl : (topDef K3.R.prog 57).params.defaults = [] := by kernel_rfl
theorem callE : WalkO qv57 loose (XL qv57 []) (HQ.hookQ looks).says R.toRowW (topDef K3.R.prog 57) [] (fun f vs => PySem.call f vs) := by
  refine GX.walkG2 (l := PySem.Challenge.rw_gridwright_k03_whole_rests_and_their_sig) (n := 63) (k := 17) (x := "_law_script") (CX := fun w => L2.CX (PySem.Challenge.rw_gridwright_k03_whole_rests_and_their_sig).prog w) rfl (by decide) dfl ⟨rfl, by decide, by decide⟩ ?F (fun _ _ _ _ _ z => K3.noCX z)
  intro w mg fa h Y G hmg0
  obtain ⟨K, KX, c⟩ := Y
  have hmg : mg ("law" : PySem.Str) = some (.ref fa) := by
    rw [← nm]
    exact hmg0
  obtain ⟨fd, hb, hF⟩ := K3.facts (P := (PySem.Challenge.rw_gridwright_k03_whole_rests_and_their_sig).prog) (w := w) KX G (K3.says_of c) hmg
  exact ⟨K, fd, K3.spLaw K, KX, hb, fun H a ns hl _ hS => ⟨a, ns, rfl, hS, hl, fun _ => rfl⟩, hF⟩
theorem hold : R.Holds := head_imp (HQ.see_eq looks) runE c1 c2 c3 c4 c5 c6 c7 c8 callE
end K3
theorem PySem.Challenge.cw_gridwright_k03_whole_rests_and_their_sig_holds : PySem.Challenge.rw_gridwright_k03_whole_rests_and_their_sig.Holds := by
  w_on; o_law
  exact K3.hold
