import PyProof.Rows.All
import Wide.All
import OpenK.AllK
import Wide.FinOn
import HandS.ForMost
import HandS.More
import HandS.OwnEq
import HandS.IsInst
import HandS.WordsExc
import HandS.Defaults
import HandS.SortKw
import KE.SortData
import KE.SortKeyHeap
import HandS.StrMore
import HandS.Walk
import HandS.Style
import KE.KDictPairs
import HandS.HeadHook1
import HandS.HeadHook2
import HandS.HeadHook3
import HandS.HeadHook4
import KE.KExcIs
import HandS.ExcInit
import HandS.ExcIs
import HandS.ExcField
import HandS.ExcValue
import HandS.DeepEq
import HandS.HotCalls
import Wide.Once
import KE.KStateDown
import Lean
import HandS.Head0
import HandS.Head1
import HandS.Head2
import HandS.Head3
import HandS.HeadEnd
import KE.DataEq
import HandS.DictComp
import HandS.ForExc
import KE.DataCmp
import KE.DataMinKey
import HandS.Gcd
import HandS.TryOnly
import KE.KRevSl
import HandS.Rev
import HandS.RevTup
import HandS.List
import HandS.Exc
import HandS.Set
import HandS.SetFor
import HandS.Strs
import PyProof.StrWalks
import HandS.TupLe
import PySem.Challenge.RW_frontparts_k72_beginnings_refused
set_option Elab.async false
set_option linter.all false
set_option maxRecDepth 100000
set_option maxHeartbeats 2000000
/-! == and != of an instance by an own __eq__, whatever stands at the right -/
namespace Fp
open PySem PySem.Spec PyProof.Rows PySem.SeqAt
section
variable {M : Model} {prog : Program} {w : World} {A : Around} {E : Value → Shared → Prop} {s : Shared} {K : PySem.W.Frag} {x C f : Addr} {ox : Obj} {od : Option Obj} {b tb : Value}
theorem ifBound_objNe {args : List Value} {Q : Option Value → Shared → Prop} (X : K.In s.heap) (I : PySem.W.InstAt s.heap x ox C od) (hs : PySem.W.findIn K (.ref C) "__ne__" = some (some (.builtin "object.__ne__")))
    (h : wpAny M A (call (.builtin "object.__ne__") (.ref x :: args)) (fun v => Q (some v)) E s) : wpAny M A (callSpecialIfBound? (.ref x) "__ne__" args) Q E s := by
  simp only [callSpecialIfBound?, bindSpecialIfBound?]
  refine wpAny_holding (wpAny_bind (wpAny_bind (wpAny_bind (I.type.here ((PySem.W.looks_findIn X hs).here ?_)))))
  refine wpAny_bind (wpAny_askSetting (wpAny_ite ?_))
  have fin : wpAny M A (call (.builtin "object.__ne__") ([.ref x] ++ args) >>= fun v => pure (some v)) Q E s := wpAny_bind (wpAny_mono h (fun v s' h' => wpAny_pure h') fun _ _ h' => h')
  split
  · exact wpAny_bind (wpAny_of_eq (F.cmp_object.ne.bind _) (wpAny_pure (by exact fin)))
  · exact wpAny_tryCatch (wpAny_bind (wpAny_of_eq (F.cmp_object.ne.bind _) (wpAny_pure (by exact fin))))
theorem entry_ne {Q : Fin → Shared → Prop} (hu : A.units < cLine) (X : K.In s.heap) (I : PySem.W.InstAt s.heap x ox C od) (hs : PySem.W.findIn K (.ref C) "__eq__" = some (some (.ref f))) (hf : PySem.W.isFn K (.ref f) = true)
    (hcall : wpAny (model prog w) A (call (.ref f) [.ref x, b]) (fun v s' => ∃ r, v = .bool r ∧ Q (.done (.ret (.bool (!r)))) s') E s) :
    wpAny (model prog w) A (Builtin.«object.__ne__» ⟨[.ref x, b], []⟩) Q E s := by
  unfold Builtin.«object.__ne__»
  repeat (first
    | with_reducible refine wpAny_cRoomFor hu ?_
    | (refine wpAny_bind (m := callSpecialIfBound? (.ref x) (Str.ofString "__eq__") [b])
        (PySem.W.ifBound_K X I hs hf (wpAny_mono hcall (fun r s' hr => by
          obtain ⟨b, rfl, hq⟩ := hr
          repeat (first | exact hq | exact wpAny_pure hq | exact wpAny_truthy_bool hq | (refine wpAny_bind (m := truthy (.bool _)) (wpAny_truthy_bool ?_)) | wp_step)) fun _ _ e => e)))
    | wp_step)
theorem cmpNe_K {Q : Value → Shared → Prop} (hu : A.units + 1 < cLine) (X : K.In s.heap) (I : PySem.W.InstAt s.heap x ox C od) (hb : PySem.W.Looks (model prog w) s.heap (typeOf b) tb) (hn : PySem.W.notFirst K C tb = true)
    (hne : PySem.W.findIn K (.ref C) "__ne__" = some (some (.builtin "object.__ne__"))) (hs : PySem.W.findIn K (.ref C) "__eq__" = some (some (.ref f))) (hf : PySem.W.isFn K (.ref f) = true) (hm : PySem.W.mroIn K C (.type "object") = some true)
    (h : wpAny (model prog w) A.in1 (call (.ref f) [.ref x, b]) (fun v s' => ∃ r, v = .bool r ∧ Q (.bool (!r)) s') E s) : wpAny (model prog w) A (richCompare .NotEq (.ref x) b) Q E s := by
  have one : wpAny (model prog w) A (tryCompare (.ref x) "__ne__" b) (fun r s' => ∃ v, r = some v ∧ Q v s') E s := by
    unfold tryCompare
    refine wpAny_bind (ifBound_objNe X I hne ?_)
    refine wpAny_call (codeAny_call_builtin F.cmp_object.ne.plain F.cmpEntry_ne (PySem.W.check_slot F.cmpKind_ne F.cmpSplit_ne (I.type.andThen (PySem.W.looks_mroIn X hm)) (F.cmpArgs_ne _ _)
      (entry_ne (A := A.in1) (show A.in1.units < cLine from hu) X I hs hf (wpAny_mono h (fun v s' hv => ?_) fun _ _ e => e))))
    obtain ⟨r, rfl, hq⟩ := hv
    exact ⟨r, rfl, wpAny_pure ⟨_, rfl, hq⟩⟩
  unfold richCompare
  simp only [oneThing_ref]
  refine wpAny_holding (wpAny_bind (wpAny_cRoomFor (Nat.lt_of_succ_lt hu) ?_))
  rw [show cmpInfo .NotEq = (("!=", "__ne__", "__ne__") : String × Str × Str) from rfl]
  dsimp only
  refine wpAny_bind (I.type.here (wpAny_bind (hb.here ?_)))
  split
  · rename_i q
    have e : PySem.W.subIn K tb (.ref C) = some false := by
      rcases Bool.or_eq_true_iff.mp hn with e | e
      · rw [beq_iff_eq.mp e] at q; simp at q
      · exact beq_iff_eq.mp e
    refine wpAny_bind ((PySem.W.looks_subIn X e).here ?_)
    simp only [Bool.false_eq_true, if_false]
    refine wpAny_bind (wpAny_mono one (fun r s' z => ?_) fun _ _ e => e)
    obtain ⟨v, rfl, hq⟩ := z
    exact wpAny_pure hq
  · refine wpAny_bind (wpAny_pure ?_)
    simp only [Bool.false_eq_true, if_false]
    refine wpAny_bind (wpAny_mono one (fun r s' z => ?_) fun _ _ e => e)
    obtain ⟨v, rfl, hq⟩ := z
    exact wpAny_pure hq
end
end Fp
namespace L2
open PySem PySem.Spec PyProof.Rows
def rOwnEq (K : PySem.W.Frag) (C : Addr) (sp : Sp) : R2 := fun x y H Q => ∃ a dx fs t, x = .ref a ∧ H a = some (.ins C dx fs) ∧ TyX K H y t ∧ PySem.W.notFirst K C t = true ∧ sp [x, y] H (fun v H' => ∃ r, v = .bl r ∧ Q (.bl r) H') (fun _ _ _ => False)
def rOwnNe (K : PySem.W.Frag) (C : Addr) (sp : Sp) : R2 := fun x y H Q => ∃ a dx fs t, x = .ref a ∧ H a = some (.ins C dx fs) ∧ TyX K H y t ∧ PySem.W.notFirst K C t = true ∧ sp [x, y] H (fun v H' => ∃ r, v = .bl r ∧ Q (.bl (!r)) H') (fun _ _ _ => False)
section
variable {X : Cx} {C f : Addr} {fd : FuncData} {ps : List Str} {sp : Sp} {n : Nat}
theorem op_ownEq (F : FnOk X.prog X.w X.K X.mg X.base CX0 n f fd ps sp) (hs : PySem.W.findIn X.K (.ref C) "__eq__" = some (some (.ref f))) (hf : PySem.W.isFn X.K (.ref f) = true) (hb : Binds X.K fd ps []) (hr : Room n X.A) :
    OpR X (compareOp .Eq) (rOwnEq X.K C sp) := by
  intro pins s σ H x y v u Q I rx ry hq
  obtain ⟨a, dx, fs, t, rfl, ha, ty, hn, hsp⟩ := hq
  cases rx
  obtain ⟨mA, J, _⟩ := ins_get I.hok ha
  obtain ⟨od, J, _⟩ := J.look
  obtain ⟨P, Z, p, _⟩ := kit_of I ry ty
  obtain ⟨m, hF⟩ := I.fr
  show wpAny (model X.prog X.w) X.A (richCompare .Eq _ u) (EP X pins σ Q) X.xe s
  refine PySem.W.cmp_K (op := .Eq) (tb := t) hr.units0 hF I.ok.mod.kin J (Z.ty _ _ I.kIn p) hn hs hf ?_
  have hl := F.len _ _ _ _ hsp
  have r2 : Vals [V.ref a, y] [Value.ref a, u] := .cons rfl (.cons ry .nil)
  refine wpAny_call (codeAny_mono (F.run X.A X.stack s H ⟨[.ref a, u], []⟩ [.ref a, u] [.ref a, y] _ (fun _ _ _ => False) hr I.env0 (by
    have := hb s [.ref a, u] I.kIn (by simpa using hl)
    simpa using this) r2 hsp) fun r s' hq => ?_)
  cases r with
  | error e => exact pass0 pins σ H s e s' I hq
  | ok fl =>
    cases fl with
    | ret w =>
      obtain ⟨z, H', I', rz, r, ez, q⟩ := I.after hq
      subst ez
      cases rz
      exact ⟨.bl r, H', I', rfl, q⟩
    | next => exact False.elim hq
    | brk => exact False.elim hq
    | cont => exact False.elim hq
theorem op_ownNe (F : FnOk X.prog X.w X.K X.mg X.base CX0 n f fd ps sp) (hne : PySem.W.findIn X.K (.ref C) "__ne__" = some (some (.builtin "object.__ne__"))) (hs : PySem.W.findIn X.K (.ref C) "__eq__" = some (some (.ref f))) (hf : PySem.W.isFn X.K (.ref f) = true)
    (hm : PySem.W.mroIn X.K C (.type "object") = some true) (hb : Binds X.K fd ps []) (hr : Room (n + 1) X.A) :
    OpR X (compareOp .NotEq) (rOwnNe X.K C sp) := by
  intro pins s σ H x y v u Q I rx ry hq
  obtain ⟨a, dx, fs, t, rfl, ha, ty, hn, hsp⟩ := hq
  cases rx
  obtain ⟨mA, J, _⟩ := ins_get I.hok ha
  obtain ⟨od, J, _⟩ := J.look
  obtain ⟨P, Z, p, _⟩ := kit_of I ry ty
  show wpAny (model X.prog X.w) X.A (richCompare .NotEq _ u) (EP X pins σ Q) X.xe s
  have hu : X.A.units + 1 < cLine := hr.in1.units0
  refine Fp.cmpNe_K (tb := t) hu I.kIn J (Z.ty _ _ I.kIn p) hn hne hs hf hm ?_
  have hl := F.len _ _ _ _ hsp
  have r2 : Vals [V.ref a, y] [Value.ref a, u] := .cons rfl (.cons ry .nil)
  refine wpAny_call (codeAny_mono (F.run X.A.in1 X.stack s H ⟨[.ref a, u], []⟩ [.ref a, u] [.ref a, y] _ (fun _ _ _ => False) hr.in1 I.env0.in1 (by
    have := hb s [.ref a, u] I.kIn (by simpa using hl)
    simpa using this) r2 hsp) fun r s' hq => ?_)
  cases r with
  | error e => exact pass0 pins σ H s e s' I hq
  | ok fl =>
    cases fl with
    | ret w =>
      obtain ⟨z, H', I', rz, r, ez, q⟩ := I.after hq
      subst ez
      cases rz
      exact ⟨r, rfl, .bl (!r), H', I', rfl, q⟩
    | next => exact False.elim hq
    | brk => exact False.elim hq
    | cont => exact False.elim hq
end
end L2

set_option Elab.async false
set_option linter.all false
set_option maxRecDepth 100000
set_option maxHeartbeats 2000000
/-! sorted(d, key=rank_of) of a dict of texts; sorted of tuples of an int and a text -/
namespace Fp
open PySem PySem.W PySem.Spec PyProof.Rows
/-- a word's rank -/
def rk (w : Str) : PyData := .tuple [.int (-(w.length : Int)), .str w]
def leR : Str → Str → Bool := dataLe false rk
def rkA (p : Pos) : Arguments := { posonlyargs := [], args := [{ arg := "word", annotation := none, pos := p }], vararg := none, kwonlyargs := [], kw_defaults := [], kwarg := none, defaults := [] }
def rkB (p1 p2 p3 p4 p5 p6 p7 : Pos) : List Stmt := [.Return (some (.Tuple [.UnaryOp .USub (.Call (.Name "len" p1) [.Name "word" p2] [] p3) p4, .Name "word" p5] 0 p6)) p7]
def rkS : Scope := { kind := .function, names := [(PySem.Str.ofString "word", .local), (PySem.Str.ofString "len", .globalImplicit)], isGenerator := false, isCoroutine := false, more := [] }
theorem ldC {M : Model} {s : Shared} {name : Str} {scope : Scope} {L a : Addr} {cd : Value} {m : Str → Option Value} {x : Str} {pos : Pos} {v : Value} {Q : Value → Shared → Prop} {A : Around} {E : Value → Shared → Prop} (hn : s.heap.Ns L m) (hv : m x = some v) (h : Q v s)
    (hk : scope.kind = .function := by rfl) (hl : (envOfC name scope L a cd).kindOf x = some .local := by rfl) (hd : (x == ("__debug__" : Str)) = false := by decide) :
    wpAny M A (eval (.Name x pos) (envOfC name scope L a cd)) Q E s := wpAny_Name (wpAny_loadName_local hk hl hn hv h) hd
section
variable {prog : Program} {w : World} {A : Around} {E : Value → Shared → Prop} {s : Shared} {K : Frag} {mg : Str → Option Value} {base : Heap} {fR : Addr} {fd : FuncData} {p0 p1 p2 p3 p4 p5 p6 p7 : Pos}
theorem rank_call (F : L2.FunD K "rank_of" "rank_of" (rkA p0) (rkB p1 p2 p3 p4 p5 p6 p7) rkS [] [] fR fd) (Mo : L2.Mod K mg base) (kb : ∀ b o, base.get? b = some o → s.heap.get? b = some o) (hlen : mg "len" = none) (hroom : A.depth + 1 < recursionLimit)
    {w0 : Str} {t : Tok} (hw : w0.length ≤ sizeLine) : wpAny (model prog w) A (call (.ref fR) [.str w0 t]) (KeyPure (rk w0) s) E s := by
  obtain ⟨oc, od, dV, kV, doc, pm, an, cdv, ct, osl, rfl, lk, hcd, hD, _⟩ := F.ex
  obtain rfl : dV = .none := by
    rcases hD with ⟨_, e⟩ | ⟨e, _⟩
    · exact e
    · exact absurd rfl e
  have X : K.In s.heap := Mo.kin.keeps kb
  refine wpAny_call (Att.call_fn (binds := [("word", .str w0 t)]) X (Mo.nolimit.keeps kb) lk hcd (Nat.lt_of_succ_lt hroom) (BindsTo.of_eq (by first | rfl | with_unfolding_all rfl)) (by first | rfl | decide | with_unfolding_all rfl) (fun s₁ IC => ?_) rfl rfl rfl)
  obtain ⟨h₁, tk₁, rfl⟩ := IC.toInCall.same
  have k : ∀ b o, s.heap.get? b = some o → h₁.get? b = some o := IC.toInCall.keep
  have hn := IC.toInCall.ns
  obtain ⟨mb, b1, b2⟩ := Mo.blt
  show wpAny _ _ (execs _ _) _ _ _
  refine wpAny_execs_cons (wpAny_Return_some (wpAny_Tuple_spliced ?_))
  show wpAny _ _ (spliced ((false, eval _ _) :: backTo p6 (starEach [_] _))) _ _ _
  refine Calls.spliced_cons (wpAny_UnaryOp ?_)
  refine wpAny_Call_Name_kw (Calls.Name_function_global rfl rfl (Calls.loadGlobal_builtin (Mo.glob.keeps fun b o e => k b o (kb b o e)) hlen (b1.keeps fun b o e => k b o (kb b o e)) ((b2 "len" (by decide)).trans boot_len) ?_) (by decide))
  refine callWith_builtin1 (spliced_more (ldC (v := .str w0 t) hn (by first | rfl | with_unfolding_all rfl | kernel_rfl) (spliced_none ?_))) rfl rfl
  have hs : sizeLine = 16777216 := sizeLine_eq
  have hl63 := L2.line63
  refine len_str (by omega) (neg_int ?_)
  show wpAny _ _ (spliced ((false, eval _ _) :: backTo p6 (starEach [] _))) _ _ _
  refine Calls.spliced_cons (ldC (v := .str w0 t) hn (by first | rfl | with_unfolding_all rfl | kernel_rfl) (Calls.spliced_nil ?_))
  refine ⟨by show 2 ≤ sizeLine; rw [sizeLine_eq]; decide, ?_⟩
  refine ⟨_, _, rfl, fun b o e => Heap.get?_push_of_some _ (k b o e), ?_⟩
  exact Reads.tuple (Heap.get?_push_size _ rfl) rfl rfl (by
    first
    | exact ReadsAll.cons (Reads.int _ _) (ReadsAll.cons (Reads.str _ _) ReadsAll.nil)
    | (have := ReadsAll.cons (h := Heap.push h₁ _) (Reads.int (-(w0.length : Int)) _) (ReadsAll.cons (Reads.str w0 t) ReadsAll.nil); simpa using this))
end
theorem alike_rk (a b : Str) : alike (rk a) (rk b) = true := by simp [rk, alike, alikeAll]
theorem rk_all (ws : List Str) : AllAlike (ws.map rk) := AllAlike.of alike_rk
theorem rk_sortable (ws : List Str) : Sortable (ws.map rk) := Sortable.tuples fun _ => ⟨_, _, rfl⟩
theorem rk_depth (w : Str) : (rk w).depth ≤ 2 := by simp [rk, PyData.depth, PyData.depthAll]
theorem vals_strs : ∀ {us : List Value} {ws : List Str}, EachIs (fun v w => ∃ t, v = Value.str w t) us ws → L2.Vals (ws.map L2.V.str) us
  | _, _, .nil => .nil
  | _, _, .cons h t => .cons h (vals_strs t)
theorem strs_each : ∀ {us : List Value} {ks : List Str}, us.length = ks.length → (∀ (j : Nat) (v : Value), us[j]? = some v → ∃ (x : Str) (t : Tok), ks[j]? = some x ∧ v = Value.str x t) → EachIs (fun v w => ∃ t, v = Value.str w t) us ks
  | [], [], _, _ => .nil
  | u :: us, k :: ks, hl, h => by
    obtain ⟨x, t, e1, e2⟩ := h 0 u rfl
    have e1' : k = x := Option.some.inj e1
    subst e1'
    refine .cons ⟨t, e2⟩ (strs_each (by simpa using hl) fun j v e => ?_)
    obtain ⟨x, t, a, b⟩ := h (j + 1) v (by simpa using e)
    exact ⟨x, t, by simpa using a, b⟩
  | [], _ :: _, hl, _ => by simp at hl
  | _ :: _, [], hl, _ => by simp at hl
/-- a pair of an int and a text, at an address -/
abbrev IS : Type := Addr × Int × Str
def enIS (p : IS) : PyData := .tuple [.int p.2.1, .str p.2.2]
def leIS : IS → IS → Bool := dataLe false enIS
theorem is_all (ws : List IS) : AllAlike (ws.map enIS) := AllAlike.of fun a b => by simp [enIS, alike, alikeAll]
theorem is_sortable (ws : List IS) : Sortable (ws.map enIS) := Sortable.tuples fun _ => ⟨_, _, rfl⟩
theorem is_depth (w : IS) : (enIS w).depth ≤ 2 := by simp [enIS, PyData.depth, PyData.depthAll]
theorem refs_each : ∀ {ps : List IS} {us : List Value}, L2.Vals (ps.map fun p => L2.V.ref p.1) us → EachIs (fun v p => v = Value.ref p.1) us ps
  | [], _, h => by cases h; exact .nil
  | p :: ps, _, h => by
    cases h with
    | cons r t => exact .cons r (refs_each t)
theorem each_refs : ∀ {us : List Value} {ps : List IS}, EachIs (fun v p => v = Value.ref p.1) us ps → L2.Vals (ps.map fun p => L2.V.ref p.1) us
  | _, _, .nil => .nil
  | _, _, .cons h t => .cons h (each_refs t)
end Fp
namespace L2
open PySem PySem.Spec PyProof.Rows
def rSortRk (fR : Addr) : List V → List V → Hp → VK → Prop := fun vs zs H Q => ∃ (a : Addr) (kvs : List (Key × V)) (ws : List Str), vs = [.ref a] ∧ zs = [.ref fR] ∧ Rd H a (.dK kvs) ∧ kvs.map (·.1) = ws.map Sum.inr ∧ (∀ w ∈ ws, w.length ≤ sizeLine) ∧
  ∀ p, H p = none → Q (.ref p) (upd H p (.lst ((ws.mergeSort Fp.leR).map V.str)))
section
variable {X : Cx} {fR : Addr} {fd : FuncData} {p0 p1 p2 p3 p4 p5 p6 p7 : Pos}
/-- sorted(d, key=rank_of) -/
theorem cr_sortRk (hcalm : X.calm = true) (F : FunD X.K "rank_of" "rank_of" (Fp.rkA p0) (Fp.rkB p1 p2 p3 p4 p5 p6 p7) Fp.rkS [] [] fR fd) (hlen : X.mg "len" = none) (hr : Room 1 X.A) : CallRK X (.builtin "sorted") [Str.ofString "key"] (rSortRk fR) := by
  intro pins s σ H vs zs us ws Q I r rz h
  obtain ⟨a, kvs, ks, rfl, rfl, hd, hks, hwl, q⟩ := h
  obtain rfl := Vals.ref1 r
  obtain ⟨w1, rfl, e1⟩ := vals1 rz
  obtain rfl : w1 = Value.ref fR := e1
  obtain ⟨z, lo, vs, rel, dd⟩ := dk_rd I.hok hd
  obtain ⟨ep, hat⟩ := dd.dictAt
  have hkeys : vs.map (·.1) = ks.map Sum.inr := rel.keys.symm.trans hks
  have hl : vs.length = ks.length := by
    have e := congrArg List.length hkeys
    rw [List.length_map, List.length_map] at e
    exact e
  have hlk : kvs.length = ks.length := by
    have e := congrArg List.length hks
    rw [List.length_map, List.length_map] at e
    exact e
  have h16 : vs.length ≤ sizeLine := by rw [hl, ← hlk]; exact z
  refine PyProof.Rows.call_function_entry_kw PyProof.Rows.kind_sorted PyProof.Rows.plain_sorted PyProof.Rows.entry_sorted (PyProof.Rows.ksk_s1 _ _) ?_
  unfold Builtin.«sorted»
  refine wpAny_bind (m := checkCount "sorted" 1 1 _) (wpAny_pure ?_)
  refine wpAny_bind (PySem.W.kdu_collect (A := X.A.in1) (PySem.W.kdl_dict (knd := mixKind X.prog X.w) (kvs := vs) (ep := ep) lo) (I.ok.hd hcalm) hat h16 fun h' tk acc hk hacc => ?_)
  have hal : acc.toList.length = ks.length := by rw [Array.length_toList, hacc.1, hl]
  have hS : PySem.W.EachIs (fun v w => ∃ t, v = Value.str w t) acc.toList ks := Fp.strs_each hal fun j v e => by
    obtain ⟨k, x, e1, e2⟩ := hacc.2 j v (by rw [← Array.getElem?_toList]; exact e)
    have e3 : (vs.map (·.1))[j]? = some k := by rw [List.getElem?_map, e1]; all_goals rfl
    rw [hkeys, List.getElem?_map] at e3
    cases e4 : ks[j]? with
    | none => rw [e4] at e3; cases e3
    | some y =>
      rw [e4] at e3
      have e5 : Sum.inr y = k := Option.some.inj e3
      subst e5
      obtain ⟨t, ev⟩ := Value.isStrOf_shape (x := y) (v := v) e2
      exact ⟨y, t, rfl, ev⟩
  have I1 : Inv X pins σ H { s with heap := h', toks := tk } := I.kept hk
  refine wpAny_bind (wpAny_newList ?_ (by rw [hal, ← hlk]; exact z))
  have hoL : (h'.push (seqObj "list" acc.toList.toArray 0)).get? h'.objs.size = some (seqObj "list" acc.toList.toArray 0) := Heap.get?_push_size _ rfl
  show wpAny _ _ _ _ _ { s with heap := h'.push (seqObj "list" acc.toList.toArray 0), toks := tk }
  refine wpAny_bind (wpAny_holding (wpAny_call_entry_kw slot_list_sort ⟨_, hoL, rfl⟩ entry_list_sort ?body (PyProof.Rows.ksk_l1 _ _)))
  case body =>
    show wpAny (model X.prog X.w) X.A.in1.in1 (Builtin.«list.sort» ⟨[.ref h'.objs.size], [(Str.ofString "key", .ref fR)]⟩) _ _ _
    rw [ksk_t1]
    have hun := hr.un
    have hdp := hr.dp
    refine PySem.W.keyH_tree (kz := ks.map Fp.rk) (s := { s with heap := h'.push (seqObj "list" acc.toList.toArray 0), toks := tk }) hoL (by rw [List.length_map]; exact hal.symm) (by rw [hal, ← hlk]; exact z) (Fp.rk_all ks) (Fp.rk_sortable ks)
      (fun d hd => by
        obtain ⟨w, _, rfl⟩ := List.mem_map.mp hd
        have := Fp.rk_depth w
        show X.A.units + 1 + 1 + _ < _
        omega)
      (PySem.W.keyH_turns (s := { s with heap := h'.push (seqObj "list" acc.toList.toArray 0), toks := tk }) hS fun v x hR hx h tk2 kp => ?_) fun h2 tk2 out c kp hD ko => ⟨_, rfl, ?_⟩
    · obtain ⟨t, rfl⟩ := hR
      refine Fp.rank_call (s := { s with heap := h, toks := tk2 }) F I.ok.mod (fun b o e => ?_) hlen ?_ (hwl x hx)
      · have e1 : s.heap.get? b = some o := I.bk b o e
        have e2 : h'.get? b = some o := hk b o e1
        exact kp b o (Nat.ne_of_lt (Heap.lt_size e2)) (Heap.get?_push_of_some _ e2)
      · show X.A.depth + 1 < _
        omega
    · have ev := PySem.W.keyedOut_each Fp.rk ko hS
      have hlen2 : ((ks.mergeSort Fp.leR).map V.str).length ≤ sizeLine := by
        rw [List.length_map, List.length_mergeSort, ← hlk]
        exact z
      refine wpAny_pure ⟨_, rfl, .ref h'.objs.size, upd H h'.objs.size (.lst ((ks.mergeSort Fp.leR).map V.str)), I1.laid (t' := tk2) (fun b u e => kp b u (Nat.ne_of_lt (Heap.lt_size e)) (Heap.get?_push_of_some _ e)) (Nat.le_refl _)
        (show ObjOk X.prog X.w _ _ _ (.lst ((ks.mergeSort Fp.leR).map V.str)) from ⟨hlen2, out, c, Fp.vals_strs ev, hD⟩), rfl, q _ (I1.hok.fresh (Nat.le_refl _))⟩
/-- sorted(xs), xs a list of pairs of an int and a text -/
def rSortIS (K : PySem.W.Frag) : List V → Hp → VK → Prop := fun vs H Q => ∃ (a : Addr) (ps : List Fp.IS), vs = [.ref a] ∧ SqL K H a (ps.map fun p => V.ref p.1) ∧ (∀ p ∈ ps, H p.1 = some (.tup [.int p.2.1, .str p.2.2])) ∧
  ∀ p, H p = none → Q (.ref p) (upd H p (.lst ((ps.mergeSort Fp.leIS).map fun p => V.ref p.1)))
theorem cr_sortIS (hr : Room 1 X.A) : CallR X (.builtin "sorted") (rSortIS X.K) := by
  intro pins s σ H vs us Q I r h
  obtain ⟨a, ps, rfl, hs, hp, q⟩ := h
  obtain rfl := Vals.ref1 r
  obtain ⟨its, rv, hl, hz⟩ := I.list hs
  have hE := Fp.refs_each rv
  have hl2 : its.length = ps.length := by rw [← rv.length, List.length_map]
  have hun := hr.un
  have hz2 : ps.length ≤ sizeLine := by rw [List.length_map] at hz; exact hz
  refine PySem.W.sorted_data (enc := Fp.enIS) (bs := ps) hl.isList hE ?_ (Fp.is_all ps) (Fp.is_sortable ps) hz2 (fun b hb => ?_) fun out hlo ho => ?_
  · refine PySem.W.EachIs.of_zip hl2 fun z hz => ?_
    obtain ⟨v, p⟩ := z
    have hv : v = Value.ref p.1 := PySem.W.EachIs.zip hE (v, p) hz
    have hm : p ∈ ps := (List.of_mem_zip hz).2
    obtain ⟨_, its2, r2, o, h1, h2, n, h3⟩ := I.hok _ _ (hp p hm)
    obtain ⟨u1, u2, rfl, ⟨t1, e1⟩, ⟨t2, e2⟩⟩ := vals2 r2
    subst hv e1 e2
    exact ⟨_, Reads.tuple h1 h2 h3 (ReadsAll.cons (Reads.int _ _) (ReadsAll.cons (Reads.str _ _) ReadsAll.nil))⟩
  · have := Fp.is_depth b
    omega
  · obtain ⟨ep, he'⟩ := PyProof.Rows.sortedAll_at s.heap its out.toArray
    have hlen : ((ps.mergeSort Fp.leIS).map fun p => V.ref p.1).length ≤ sizeLine := by
      rw [List.length_map, List.length_mergeSort]
      exact hz2
    exact ⟨.ref _, upd H (s.heap.objs.size + 1) (.lst ((ps.mergeSort Fp.leIS).map fun p => V.ref p.1)), I.laid (t' := s.toks) (fun _ _ => PyProof.Rows.sortedAll_old) (Nat.le_succ _) ⟨hlen, out, ep, Fp.each_refs ho, he'⟩, rfl, q _ (I.hok.fresh (Nat.le_succ _))⟩
end
end L2

set_option Elab.async false
set_option linter.all false
set_option maxRecDepth 100000
set_option maxHeartbeats 2000000
/-! what is shared: a def by its name, heaps, tables of words -/
namespace L2
open PySem PySem.Spec PyProof.Rows
/-- a tuple as tuple() makes it: no dict of its own -/
def PlainTup (o : Obj) : Prop := o.cls = .type "tuple" ∧ o.dict = none ∧ ∃ (its : Array Value) (n : Nat), o.data = .seq its n
section
variable {X : Cx}
/-- tuple(l): a new tuple, its object known -/
theorem call_tupleF : CallR X (.type "tuple") (fun xs H Q => ∃ p ys, xs = [.ref p] ∧ SqL X.K H p ys ∧ ∀ l o, H l = none → PlainTup o → Q (.ref l) (upd H l (.frz o (.tup ys)))) := by
  intro pins s σ H xs us Q I r h
  obtain ⟨p, ys, rfl, hq, q⟩ := h
  obtain ⟨u, rfl, rx⟩ := vals1 r
  cases rx
  obtain ⟨its, r', pl, hz⟩ := I.list hq
  have hlen := r'.length
  refine call_tuple_list pl.isList (fun h' kp => ?_) (by simp only [List.size_toArray] <;> omega)
  have I1 : Inv X pins σ H { s with heap := h' } := I.kept (t' := s.toks) kp
  have I2 : Inv X pins σ (upd H h'.objs.size (.frz { cls := .type "tuple", data := .seq its.toArray } (.tup ys))) { s with heap := h'.push { cls := .type "tuple", data := .seq its.toArray } } :=
    I1.laid (t' := s.toks) (fun b o e => Heap.get?_push_of_some _ e) (Nat.le_refl _) (show ObjOk X.prog X.w _ _ _ (.frz _ (.tup ys)) from ⟨Heap.get?_push_size _ rfl, hz, its, r', IsTup.new _ _⟩)
  exact ⟨.ref h'.objs.size, _, I2, rfl, q _ _ (I1.hok.fresh (Nat.le_refl _)) ⟨rfl, rfl, _, _, rfl⟩⟩
theorem refs_get : ∀ {ps : List Addr} {us : List Value}, Vals (ps.map V.ref) us → us = ps.map Value.ref
  | [], _, h => by cases h; rfl
  | p :: ps, _, h => by
    cases h with
    | cons r t =>
      cases r
      rw [refs_get t] <;> rfl
/-- dict(t), t such a tuple of pairs -/
theorem call_dictPT (hcalm : X.calm = true) : CallR X (.type "dict") (fun xs H Q => ∃ (a : Addr) (o : Obj) (ps : List Addr) (kvs : List (Key × V)), xs = [.ref a] ∧ H a = some (.frz o (.tup (ps.map V.ref))) ∧ PlainTup o ∧ Paired (fun p kv => SqT X.K H p [kV kv.1, kv.2]) ps kvs ∧
    ∀ p, H p = none → Q (.ref p) (upd H p (.dK (mergeK [] kvs)))) := by
  intro pins s σ H xs us Q I r q
  obtain ⟨a, o, ps, kvs, ex, hq, ⟨pc, pd, pits, pn, pdat⟩, hp, q⟩ := q
  subst ex
  obtain ⟨u, eu, rx⟩ := vals1 r
  subst eu
  cases rx
  obtain ⟨ho, hz, its, rv, o2, ho2, hc2, n2, hdat2⟩ := (show ObjOk X.prog X.w H s.heap a (.frz o (.tup (ps.map V.ref))) from I.hok a _ hq)
  rw [ho] at ho2
  cases ho2
  have ei := refs_get rv
  subst ei
  rw [List.length_map] at hz
  obtain ⟨prs, rel, hl, hpr⟩ := pairs_of I hp
  -- the keys' values
  have hks : ∃ us : List Value, us.length = prs.length ∧ ∀ (j : Nat) (q : Key × Value), prs[j]? = some q → ∃ (b : Addr) (u : Value), us[j]? = some u ∧ ps[j]? = some b ∧ IsTup s.heap b #[u, q.2] ∧ keyIs q.1 u = true := by
    have hall : ∀ j : Nat, j < prs.length → ∃ u : Value, ∀ q, prs[j]? = some q → ∃ b, ps[j]? = some b ∧ IsTup s.heap b #[u, q.2] ∧ keyIs q.1 u = true := fun j hj => by
      obtain ⟨b, u, e1, e2, e3⟩ := hpr j prs[j] (List.getElem?_eq_getElem hj)
      refine ⟨u, fun q e => ?_⟩
      rw [List.getElem?_eq_getElem hj] at e
      cases e
      exact ⟨b, e1, e2, e3⟩
    let f : Nat → Value := fun j => if hj : j < prs.length then Classical.choose (hall j hj) else .none
    refine ⟨(List.range prs.length).map f, by simp, fun j q e => ?_⟩
    have hj : j < prs.length := (List.getElem?_eq_some_iff.mp e).1
    have hsp := Classical.choose_spec (hall j hj) q e
    obtain ⟨b, e1, e2, e3⟩ := hsp
    refine ⟨b, f j, by simp [hj], e1, ?_, ?_⟩
    · show IsTup s.heap b #[f j, q.2]
      have : f j = Classical.choose (hall j hj) := dif_pos hj
      rw [this]
      exact e2
    · have : f j = Classical.choose (hall j hj) := dif_pos hj
      rw [this]
      exact e3
  obtain ⟨us, hus, hk⟩ := hks
  let vps : List (Value × Value) := us.zip (prs.map (·.2))
  have hvl : vps.length = prs.length := by simp [vps, hus]
  have hget : ∀ j k v, vps[j]? = some (k, v) → ∃ q : Key × Value, prs[j]? = some q ∧ q.2 = v ∧ us[j]? = some k := fun j k v e => by
    obtain ⟨e1, e2⟩ := List.getElem?_zip_eq_some.mp e
    rw [List.getElem?_map] at e2
    cases e3 : prs[j]? with
    | none => rw [e3] at e2; cases e2
    | some q =>
      rw [e3] at e2
      exact ⟨q, e3, Option.some.inj e2, e1⟩
  refine PySem.call_dict_pairs (knd := mixKind X.prog X.w) (kvs := prs) (PairArg.tuple a (ps.map Value.ref).toArray (fun j => ps.getD j 0) vps) (I.ok.hd hcalm) ⟨⟨o, n2, ho, pc, pd, hdat2⟩, ?_, fun j k v e => ?_⟩ ⟨hvl.symm, fun j k v e => ?_⟩ (by rw [hvl, hl]; exact hz) fun h' tk hd' kp => ?_
  · rw [hvl, hl]
    simp
  · obtain ⟨q, e1, e2, e3⟩ := hget j k v e
    obtain ⟨b, u, f1, f2, f3, f4⟩ := hk j q e1
    rw [e3] at f1
    cases f1
    subst e2
    refine ⟨?_, .inl ?_⟩
    · simp [List.getD, f2]
    · show IsTup s.heap (ps.getD j 0) #[k, q.2]
      rw [show ps.getD j 0 = b by simp [List.getD, f2]]
      exact f3
  · obtain ⟨q, e1, e2, e3⟩ := hget j k v e
    obtain ⟨b, u, f1, f2, f3, f4⟩ := hk j q e1
    rw [e3] at f1
    cases f1
    exact ⟨q.1, by rw [e1, ← e2], f4⟩
  · have hm : (s.heap.objs.size == sysModules) = false := beq_eq_false_iff_ne.mpr (Nat.ne_of_gt I.big)
    have hlen : (mergeK [] kvs).length ≤ sizeLine := by
      refine Nat.le_trans (length_mergeK kvs []) ?_
      rw [List.length_nil, Nat.zero_add, rel.length, hl]
      exact hz
    exact ⟨.ref s.heap.objs.size, upd H s.heap.objs.size (.dK (mergeK [] kvs)), I.laid (t' := tk) (fun b o e => kp b o (by simp) e) (Nat.le_refl _) (show ObjOk X.prog X.w _ _ _ (.dK (mergeK [] kvs)) from ⟨hlen, hm, merged [] prs, KV.merge rel .nil, hd'⟩), rfl, q _ (I.hok.fresh (Nat.le_refl _))⟩
end
end L2
namespace Fp
open PySem PySem.Spec PyProof.Rows L2
/-! ### a def of the top by its name -/
structure Ok (P : Program) (w : World) (K : PySem.W.Frag) (mg : Str → Option Value) (base : Heap) (k : Nat) (x : Str) (ps : List Str) (sp : Sp) : Prop where
  ex : ∃ fd, FnOk P w K mg base CX0 k (He.ga K x) fd ps sp ∧ Binds K fd ps []
  g : mg x = some (.ref (He.ga K x))
  kp : PySem.W.keepIn K (.ref (He.ga K x)) = true
theorem pc {X : Cx} {x : Str} {p pos : Pos} {e : Expr} {es : List Expr} {t : TA} {k : Nat} {ps : List Str} {sp : Sp} (G : Ok X.prog X.w X.K X.mg X.base k x ps sp) (hr : Room k X.A) (ha : PA X (e :: es) t) (hg : Gl X x := by rfl) (hdb : (x == ("__debug__" : Str)) = false := by decide)
    (he : starEach (e :: es) X.env = (false, eval e X.env) :: starEach es X.env := by rfl) (hpl : (backTo pos (starEach es X.env)).any (·.1) = false := by rfl) : PE X (.Call (.Name x p) (e :: es) [] pos) (tCall sp [] E0 t) := by
  obtain ⟨fd, F, b⟩ := G.ex
  exact pe_call F hr hg G.g G.kp b .nil pass0 ha hdb he hpl
theorem Ok.mono {P : Program} {w : World} {K : PySem.W.Frag} {mg : Str → Option Value} {base : Heap} {j k : Nat} {x : Str} {ps : List Str} {sp : Sp} (G : Ok P w K mg base j x ps sp) (h : j ≤ k) : Ok P w K mg base k x ps sp := by
  obtain ⟨fd, F, b⟩ := G.ex
  exact ⟨⟨fd, F.mono h, b⟩, G.g, G.kp⟩
/-! ### heaps -/
/-- all that was tracked stays, but for a -/
def But (a : Addr) (H H' : Hp) : Prop := ∀ b o, H b = some o → b ≠ a → H' b = some o
theorem But.refl (a : Addr) (H : Hp) : But a H H := fun _ _ e _ => e
theorem But.trans {a : Addr} {H H1 H2 : Hp} (x : But a H H1) (y : But a H1 H2) : But a H H2 := fun b o e n => y b o (x b o e n) n
theorem But.of {a : Addr} {H H' : Hp} (s : Same H H') : But a H H' := fun b o e _ => s b o e
theorem But.free {a : Addr} {H H' : Hp} (x : But a H H') (hs : ∃ o, H' a = some o) {l : Addr} (e : H' l = none) : H l = none := by
  cases q : H l with
  | none => rfl
  | some o =>
    by_cases hl : l = a
    · obtain ⟨u, hu⟩ := hs
      rw [hl] at e
      rw [hu] at e
      cases e
    · rw [x l o q hl] at e
      cases e
theorem same_upd {H : Hp} {p : Addr} {o : HO} (h : H p = none) : Same H (upd H p o) := fun b x e => by
  rw [upd_ne (ne_of_none e h)]
  exact e
theorem but_upd {H : Hp} {p : Addr} {o : HO} : But p H (upd H p o) := fun b x e n => by
  rw [upd_ne n]
  exact e
theorem lock_back {H : Hp} {d : Addr} {o u : HO} (h : H d = some o) (e : o = u) : upd (upd H d u) d o = H := by
  subst e
  rw [upd_upd]
  funext b
  by_cases hb : b = d
  · rw [hb, upd_same, h]
  · rw [upd_ne hb]
/-! ### tables: words with numbers, in the order in which they were put in -/
abbrev Tb : Type := List (Str × Int)
def kv (l : Tb) : List (Key × V) := l.map fun p => ((Sum.inr p.1 : Key), V.int p.2)
def num (l : Tb) (x : Str) : Int := ((l.find? fun p => decide (p.1 = x)).map (·.2)).getD 0
def has (l : Tb) (x : Str) : Bool := l.any fun p => decide (p.1 = x)
def putT (l : Tb) (x : Str) (n : Int) : Tb := if has l x then l.map (fun p => if p.1 = x then (p.1, n) else p) else l ++ [(x, n)]
def dropT (l : Tb) (x : Str) : Tb := l.filter fun p => decide (p.1 ≠ x)
theorem kv_len (l : Tb) : (kv l).length = l.length := List.length_map _
theorem kv_keys (l : Tb) : (kv l).map (·.1) = (l.map (·.1)).map Sum.inr := by
  unfold kv
  rw [List.map_map, List.map_map]
  rfl
theorem valV_kv (x : Str) : ∀ l : Tb, valV (kv l) (Sum.inr x : Key) = (l.find? fun p => decide (p.1 = x)).map fun p => V.int p.2
  | [] => rfl
  | p :: r => by
    have ih := valV_kv x r
    by_cases e : p.1 = x
    · rw [List.find?_cons_of_pos (by simpa using e)]
      exact valV_pos (p := ((Sum.inr p.1 : Key), V.int p.2)) (by rw [e])
    · rw [List.find?_cons_of_neg (by simpa using e)]
      exact (valV_neg (p := ((Sum.inr p.1 : Key), V.int p.2)) (fun z => e (Sum.inr.inj z))).trans ih
theorem has_find (l : Tb) (x : Str) : has l x = (l.find? fun p => decide (p.1 = x)).isSome := by
  unfold has
  induction l with
  | nil => rfl
  | cons p r ih =>
    by_cases e : p.1 = x
    · rw [List.find?_cons_of_pos (by simpa using e), List.any_cons]
      simp [e]
    · rw [List.find?_cons_of_neg (by simpa using e), List.any_cons, ih]
      simp [e]
theorem valV_yes {l : Tb} {x : Str} (h : has l x = true) : valV (kv l) (Sum.inr x : Key) = some (.int (num l x)) := by
  rw [valV_kv]
  rw [has_find] at h
  unfold num
  cases e : l.find? fun p => decide (p.1 = x) with
  | none => rw [e] at h; cases h
  | some p => rfl
theorem valV_no {l : Tb} {x : Str} (h : has l x = false) : valV (kv l) (Sum.inr x : Key) = none ∧ num l x = 0 := by
  rw [valV_kv]
  rw [has_find] at h
  unfold num
  cases e : l.find? fun p => decide (p.1 = x) with
  | none => exact ⟨rfl, rfl⟩
  | some p => rw [e] at h; cases h
theorem putK_kv (l : Tb) (x : Str) (n : Int) : putK (kv l) (Sum.inr x : Key) (.int n) = kv (putT l x n) := by
  have ea : ((kv l).any fun q => decide (q.1 = (Sum.inr x : Key))) = has l x := by
    unfold kv has
    rw [List.any_map]
    congr 1
    funext p
    by_cases e : p.1 = x
    · simp [e]
    · simp [e]
  unfold putK putT
  rw [ea]
  cases has l x with
  | true =>
    rw [if_pos rfl, if_pos rfl]
    unfold kv
    rw [List.map_map, List.map_map]
    apply List.map_congr_left
    intro p _
    by_cases e : p.1 = x
    · simp [e]
    · simp [e]
  | false =>
    rw [if_neg Bool.false_ne_true, if_neg Bool.false_ne_true]
    unfold kv
    rw [List.map_append]
    rfl
theorem dropK_kv (l : Tb) (x : Str) : dropK (kv l) (Sum.inr x : Key) = kv (dropT l x) := by
  unfold dropK dropT kv
  rw [List.filter_map]
  congr 1
  apply List.filter_congr
  intro p _
  by_cases e : p.1 = x
  · simp [e]
  · simp [e]
/-- a table of distinct words -/
def Nd (l : Tb) : Prop := (l.map (·.1)).Nodup
theorem has_iff {l : Tb} {x : Str} : has l x = true ↔ x ∈ l.map (·.1) := by
  unfold has
  rw [List.any_eq_true]
  constructor
  · rintro ⟨p, hp, e⟩
    exact List.mem_map.mpr ⟨p, hp, of_decide_eq_true e⟩
  · intro h
    obtain ⟨p, hp, e⟩ := List.mem_map.mp h
    exact ⟨p, hp, decide_eq_true e⟩
theorem putT_keys {l : Tb} {x : Str} {n : Int} : (putT l x n).map (·.1) = if has l x then l.map (·.1) else l.map (·.1) ++ [x] := by
  unfold putT
  cases has l x with
  | true =>
    rw [if_pos rfl, if_pos rfl, List.map_map]
    apply List.map_congr_left
    intro p _
    by_cases e : p.1 = x
    · simp [e]
    · simp [e]
  | false =>
    rw [if_neg Bool.false_ne_true, if_neg Bool.false_ne_true, List.map_append]
    rfl
theorem nd_put {l : Tb} (h : Nd l) (x : Str) (n : Int) : Nd (putT l x n) := by
  unfold Nd
  rw [putT_keys]
  cases e : has l x with
  | true => exact h
  | false =>
    rw [if_neg Bool.false_ne_true, List.nodup_append]
    refine ⟨h, by simp, fun a ha b hb => ?_⟩
    have : b = x := by simpa using hb
    subst this
    rintro rfl
    rw [has_iff.mpr ha] at e
    cases e
theorem nd_drop {l : Tb} (h : Nd l) (x : Str) : Nd (dropT l x) := by
  unfold Nd dropT
  exact (List.Sublist.map _ List.filter_sublist).nodup h
theorem mem_put {l : Tb} {x : Str} {n : Int} {p : Str × Int} (h : p ∈ putT l x n) : p = (x, n) ∨ p ∈ l := by
  unfold putT at h
  cases e : has l x with
  | true =>
    rw [e, if_pos rfl] at h
    obtain ⟨q, hq, e2⟩ := List.mem_map.mp h
    by_cases e3 : q.1 = x
    · rw [if_pos e3, e3] at e2
      exact .inl e2.symm
    · rw [if_neg e3] at e2
      exact .inr (e2 ▸ hq)
  | false =>
    rw [e, if_neg Bool.false_ne_true] at h
    rcases List.mem_append.mp h with h | h
    · exact .inr h
    · exact .inl (by simpa using h)
theorem len_put (l : Tb) (x : Str) (n : Int) : (putT l x n).length ≤ l.length + 1 := by
  unfold putT
  split
  · rw [List.length_map]
    omega
  · rw [List.length_append]
    simp
end Fp

set_option Elab.async false
set_option linter.all false
set_option maxRecDepth 100000
set_option maxHeartbeats 2000000
/-! a written dict from ints to tuples of ints, read: d[k] -/
namespace L2
open PySem PySem.Spec PyProof.Rows
abbrev WTab : Type := List (Int × List Int)
def intsB : List Int → List Value → Bool
  | [], [] => true
  | n :: ns, .int i _ :: vs => decide (i = n) && intsB ns vs
  | _, _ => false
theorem intsB_vals : ∀ (ns : List Int) (vs : List Value), intsB ns vs = true → Vals (ns.map V.int) vs
  | [], [], _ => .nil
  | n :: ns, .int i t :: vs, h => by
    have h' : (decide (i = n) && intsB ns vs) = true := h
    rw [Bool.and_eq_true] at h'
    have e : i = n := of_decide_eq_true h'.1
    subst e
    exact .cons ⟨t, rfl⟩ (intsB_vals ns vs h'.2)
def tupO (K : PySem.W.Frag) (a : Addr) (ns : List Int) : Bool := match K.lookup a with
  | some o => (match o.cls, o.data with
    | .type c, .seq its _ => decide (c = "tuple") && (decide (its.size ≤ sizeLine) && intsB ns its.toList)
    | _, _ => false)
  | none => false
theorem tupO_sq {K : PySem.W.Frag} {a : Addr} {ns : List Int} (h : tupO K a ns = true) (H : Hp) : SqT K H a (ns.map V.int) := by
  unfold tupO at h
  split at h
  · rename_i o ho
    split at h
    · rename_i c its n hc hd
      simp only [Bool.and_eq_true, decide_eq_true_eq] at h
      obtain ⟨h1, h2, h3⟩ := h
      subst h1
      exact .inr ⟨o, its, n, ho, hc, hd, h2, intsB_vals _ _ h3⟩
    · cases h
  · cases h
def entB (K : PySem.W.Frag) : WTab → List DictEntry → Bool
  | [], [] => true
  | p :: r, e :: es => (match e.key, e.val with
    | .int i _, .ref a => decide (i = p.1) && (decide (e.hash = hashInt p.1) && tupO K a p.2)
    | _, _ => false) && entB K r es
  | _, _ => false
def wdB (K : PySem.W.Frag) (a : Addr) (t : WTab) : Bool := match K.lookup a with
  | some o => (match o.cls, o.dict, o.data with
    | .type c, none, .dict es _ => decide (c = "dict") && (decide (o.slots.size = 0) && entB K t es.toList)
    | _, _, _ => false)
  | none => false
theorem entB_pairs {P : Program} {w : World} {K : PySem.W.Frag} : ∀ (t : WTab) (es : List DictEntry), entB K t es = true → ∃ vs : List (Key × Value), Pairs (mixKind P w) es vs ∧ (∀ e ∈ es, ∃ k, (mixKind P w).is k e.key = true ∧ e.hash = (mixKind P w).hash k) ∧
    Paired (fun (p : Int × List Int) (v : Key × Value) => v.1 = Sum.inl p.1 ∧ ∃ b, v.2 = .ref b ∧ tupO K b p.2 = true) t vs
  | [], [], _ => ⟨[], .nil, (fun e he => by cases he), .nil⟩
  | p :: r, e :: es, h => by
    unfold entB at h
    rw [Bool.and_eq_true] at h
    obtain ⟨h1, h2⟩ := h
    obtain ⟨vs, a1, a2, a3⟩ := entB_pairs r es h2
    obtain ⟨eh, ek, ev⟩ := e
    cases ek with
    | int i tk =>
      cases ev with
      | ref a =>
        have h1 : (decide (i = p.1) && (decide (eh = hashInt p.1) && tupO K a p.2)) = true := h1
        simp only [Bool.and_eq_true, decide_eq_true_eq] at h1
        obtain ⟨e1, e2, e3⟩ := h1
        subst e1
        refine ⟨(Sum.inl p.1, .ref a) :: vs, .cons (keyIs_int _ tk) rfl a1, (fun x hx => ?_), .cons ⟨rfl, a, rfl, e3⟩ a3⟩
        rcases List.mem_cons.mp hx with rfl | hx
        · exact ⟨Sum.inl p.1, keyIs_int _ tk, e2⟩
        · exact a2 x hx
      | _ => exact absurd h1 (by simp)
    | _ => exact absurd h1 (by simp)
theorem pairs_find {K : PySem.W.Frag} {t : WTab} {vs : List (Key × Value)} (h : Paired (fun (p : Int × List Int) (v : Key × Value) => v.1 = Sum.inl p.1 ∧ ∃ b, v.2 = .ref b ∧ tupO K b p.2 = true) t vs) (hn : (t.map (·.1)).Nodup) :
    (vs.map (·.1)).Nodup ∧ (∀ v ∈ vs, ∃ p ∈ t, v.1 = Sum.inl p.1) ∧ ∀ p ∈ t, ∃ b, valueAt vs (Sum.inl p.1 : Key) = some (.ref b) ∧ tupO K b p.2 = true := by
  induction h with
  | nil => exact ⟨List.nodup_nil, fun v hv => (by cases hv), fun p hp => (by cases hp)⟩
  | @cons p v t vs e r ih =>
    have hn' : (p.1 :: t.map (·.1)).Nodup := hn
    obtain ⟨n1, n2⟩ := List.nodup_cons.mp hn'
    obtain ⟨i1, i2, i3⟩ := ih n2
    obtain ⟨e1, b, e2, e3⟩ := e
    refine ⟨?_, fun u hu => ?_, fun q hq => ?_⟩
    · rw [List.map_cons, List.nodup_cons]
      refine ⟨fun hm => ?_, i1⟩
      obtain ⟨u, hu, eu⟩ := List.mem_map.mp hm
      obtain ⟨q, hq, eq⟩ := i2 u hu
      have : (Sum.inl q.1 : Key) = Sum.inl p.1 := (eq.symm.trans eu).trans e1
      injection this with this
      exact n1 (this ▸ List.mem_map.mpr ⟨q, hq, rfl⟩)
    · rcases List.mem_cons.mp hu with rfl | hu
      · exact ⟨p, List.mem_cons_self, e1⟩
      · obtain ⟨q, hq, eq⟩ := i2 u hu
        exact ⟨q, List.mem_cons_of_mem _ hq, eq⟩
    · unfold valueAt
      rcases List.mem_cons.mp hq with rfl | hq
      · rw [List.find?_cons_of_pos (by simp [e1])]
        exact ⟨b, by rw [Option.map_some, e2], e3⟩
      · obtain ⟨b', h1, h2⟩ := i3 q hq
        refine ⟨b', ?_, h2⟩
        rw [List.find?_cons_of_neg]
        · exact h1
        · rw [e1]
          intro z
          have z' : (Sum.inl p.1 : Key) = Sum.inl q.1 := of_decide_eq_true z
          injection z' with z'
          exact n1 (z' ▸ List.mem_map.mpr ⟨q, hq, rfl⟩)
/-- d[k], d written -/
def tWD (K : PySem.W.Frag) (t : WTab) (ta tb : TE) : TE := fun σ H Q => ta σ H fun x H1 => tb σ H1 fun y H2 => ∃ (a : Addr) (k : Int) (ns : List Int), x = .ref a ∧ wdB K a t = true ∧ y = .int k ∧ (k, ns) ∈ t ∧ ∀ b, tupO K b ns = true → Q (.ref b) H2
theorem pe_wd {X : Cx} {t : WTab} {o i : Expr} {ta tb : TE} {pos : Pos} (hn : (t.map (·.1)).Nodup) (ho : PE X o ta) (hi : PE X i tb) (hs : NoSl i) : PE X (.Subscript o i pos) (tWD X.K t ta tb) := by
  constructor
  intro pins s σ H Q I h
  refine subD_of PySem.F.slot_dict_getitem.lookup hs (thn (ho.run pins s σ H _ I h) fun u s1 ⟨x, H1, I1, rx, q1⟩ => thn (hi.run pins s1 σ H1 _ I1 q1) fun iv s2 ⟨y, H2, I2, ry, a, k, ns, ex, hw, ey, hm, q2⟩ => ?_)
  subst ex
  subst ey
  cases rx
  obtain ⟨tk, rfl⟩ := ry
  unfold wdB at hw
  split at hw
  · rename_i ob hob
    split at hw
    · rename_i c es ep hc hd hdat
      simp only [Bool.and_eq_true, decide_eq_true_eq] at hw
      obtain ⟨w1, w2, w3⟩ := hw
      subst w1
      obtain ⟨vs, p1, p2, p3⟩ := entB_pairs (P := X.prog) (w := X.w) t es.toList w3
      obtain ⟨f1, f2, f3⟩ := pairs_find p3 hn
      obtain ⟨b, v1, v2⟩ := f3 (k, ns) hm
      have dd : s2.heap.DictOf (mixKind X.prog X.w) a vs := ⟨ob, es, ep, I2.kIn a ob hob, ⟨hc, hd, Array.eq_empty_of_size_eq_zero w2⟩, hdat, fun e he => p2 e (Array.mem_def.mp he), p1, f1⟩
      exact ⟨dd.typeIs, wpAny_getItem_of (knd := mixKind X.prog X.w) (k := (Sum.inl k : Key)) (keyIs_int k tk) dd.mapOf v1 ⟨.ref b, H2, I2.tok _, rfl, q2 b v2⟩⟩
    · cases hw
  · cases hw
end L2

set_option Elab.async false
set_option linter.all false
set_option maxRecDepth 100000
set_option maxHeartbeats 4000000
/-! exceptions as values: made, asked with isinstance, their fields read -/
namespace L2
open PySem PySem.Spec PyProof.Rows
/-- an exception object at a, perhaps with its dict -/
def HE (H : Hp) (a C : Addr) (d : Option Addr) : Prop := H a = some (exo a C d) ∧ ∀ dd, d = some dd → ∃ fs, H dd = some (exd dd fs)
def excCB (K : PySem.W.Frag) (C : Addr) : Bool := decide (PySem.W.findIn K (.ref C) "__getattribute__" = some (some (.builtin "BaseException.__getattribute__"))) && (decide (PySem.W.findIn K (.ref C) "__getattr__" = some none) && (decide (PySem.W.subIn K (.ref C) (.type "BaseException") = some true) && (PySem.W.hasDictIn K C &&
  (decide (PySem.W.findIn K (.ref C) "__class__" = some (some (.builtin "object.__class__"))) && (decide (PySem.W.specialIn K (.builtin "object.__class__") "__get__" = some (some (.builtin "getset_descriptor.__get__"))) && (decide (PySem.W.takesIn K (.builtin "object.__class__") = some true) && decide (PySem.W.mroIn K C (.type "object") = some true)))))))
theorem excCB_ok {K : PySem.W.Frag} {C : Addr} (h : excCB K C = true) : ExcC K C := by
  simp only [excCB, Bool.and_eq_true, decide_eq_true_eq] at h
  obtain ⟨h1, h2, h3, h4, h5, h6, h7, h8⟩ := h
  exact ⟨h1, h2, h3, h4, h5, h6, h7, h8⟩
theorem ExcC.xf {K : PySem.W.Frag} {C : Addr} (c : ExcC K C) : XfC K C := ⟨c.hg, c.hk, c.hs, c.hd⟩
/-- the class of an exception with its own __init__ -/
def oexB (K : PySem.W.Frag) (C : Addr) : Bool := (match K.lookup C with
  | some ⟨.type "type", none, .cls cd, sl⟩ => (match cd.mro, sl.toList with
    | .ref C' :: bm, [_, _, _, _, some (.builtin n), _] => C' == C && (n == "ValueError.__new__" && (!cd.hasDel && (cd.hasDict && PySem.HandSPX.refsVE bm)))
    | _, _ => false)
  | _ => false) && (decide (PySem.W.findIn K (.ref C) "__setattr__" = some (some (.builtin "object.__setattr__"))) && (decide (PySem.W.subIn K (.ref C) (.type "BaseException") = some true) && (decide (PySem.W.typeIn K (.ref C) = some (.type "type")) && PySem.W.keepIn K (.ref C))))
end L2
namespace L2
open PySem PySem.Spec PyProof.Rows
theorem oexB_ok {K : PySem.W.Frag} {C : Addr} (h : oexB K C = true) : OexC K C := by
  unfold oexB at h
  simp only [Bool.and_eq_true, decide_eq_true_eq] at h
  obtain ⟨h1, h2, h3, h4, h5⟩ := h
  refine ⟨?_, h2, h3, h4, h5⟩
  split at h1
  · rename_i cd sl ho
    split at h1
    · rename_i C' bm k0 k1 k2 k3 n k5 hm hs
      simp only [Bool.and_eq_true, beq_iff_eq, Bool.not_eq_true'] at h1
      obtain ⟨rfl, rfl, hdel, hd, hr⟩ := h1
      obtain ⟨nm, bs, mro, ns, qn, hdc, sn, sub, ab, col, del⟩ := cd
      dsimp only at hm hdel hd
      subst hm hdel hd
      have hsl : sl = #[k0, k1, k2, k3, some (.builtin "ValueError.__new__"), k5] := by
        obtain ⟨l⟩ := sl
        exact congrArg List.toArray hs
      subst hsl
      exact ⟨nm, qn, ns, bs, bm, sn, sub, ab, col, none, k0, k1, k2, k3, k5, ho, hr⟩
    · cases h1
  · cases h1
section
variable {X : Cx} {pins : List (Addr × Obj)} {σ : St} {H : Hp} {s : Shared}
theorem HE.inst (I : Inv X pins σ H s) {a C : Addr} {d : Option Addr} (e : HE H a C d) : ∃ ox od, PySem.W.InstAt s.heap a ox C od ∧ ∀ dd, d = some dd → ∃ mA o, s.heap.Ns1 dd mA ∧ od = some o ∧ s.heap.get? dd = some o := by
  obtain ⟨e1, e2⟩ := e
  obtain ⟨t1, ho⟩ := exo_at I.hok e1
  cases d with
  | none => exact ⟨_, none, ⟨ho, rfl, rfl, trivial⟩, fun dd h => nomatch h⟩
  | some dd =>
    obtain ⟨fs, e3⟩ := e2 dd rfl
    obtain ⟨mA, hns, rel⟩ := exd_at I.hok e3
    obtain ⟨o, es, ep, h1, h2⟩ := id hns
    exact ⟨_, some o, ⟨ho, rfl, rfl, h1⟩, fun d' h => by cases h; exact ⟨mA, o, hns, rfl, h1⟩⟩
/-- isinstance(e, c), e a held exception -/
def rIsV (K : PySem.W.Frag) : List V → Hp → VK → Prop := fun xs H Q => ∃ (a C : Addr) (d : Option Addr) (c : V) (cv : Value) (b : Bool), xs = [.ref a, c] ∧ HE H a C d ∧ ExcC K C ∧ (∀ u, RelV c u → u = cv) ∧ PySem.W.kitOne K (.ref C) cv = some b ∧ Q (.bl b) H
theorem call_isV {X : Cx} : CallR X (.builtin "isinstance") (rIsV X.K) := by
  intro pins s σ H xs us Q I r h
  obtain ⟨a, C, d, c, cv, b, rfl, he, T, hcv, e, q⟩ := h
  cases r with
  | cons rx rr =>
    cases rr with
    | cons rt rr =>
      cases rr
      cases rx
      have ec := hcv _ rt
      subst ec
      obtain ⟨ox, od, J, _⟩ := he.inst I
      have hcl : (PySem.W.clsIn X.K C).isSome = true := by
        obtain ⟨cd, hc, _⟩ := PySem.W.any_some T.hd
        rw [hc]
        rfl
      exact PySem.W.kia_one (PySem.W.kitx_exc (od := od) hcl T.hg T.hk T.hs T.ha T.hn T.ht T.hm) I.kIn J e (fun z => nomatch z) fun tk => ⟨.bl b, H, I.kept (t' := tk) fun _ _ z => z, rfl, q⟩
/-- isinstance(e, c), e the exception that the suite holds, with its dict or without -/
def rIsD (K : PySem.W.Frag) (cls : Value) (d : Option Addr) (a : Addr) : List V → Hp → VK → Prop := fun xs H Q => ∃ (C : Addr) (c : V) (cv : Value) (b : Bool), xs = [.ref a, c] ∧ cls = .ref C ∧ (∀ dd, d = some dd → ∃ fs, H dd = some (.xd fs)) ∧ ExcC K C ∧ (∀ u, RelV c u → u = cv) ∧ PySem.W.kitOne K (.ref C) cv = some b ∧ Q (.bl b) H
theorem call_isD {X : Cx} {a : Addr} {cls : Value} {d : Option Addr} {oe : Obj} {pn : List (Addr × Obj)} (hz : Zc cls d oe) (hf : ∃ vs, oe.data = .fields vs) : CallR (X.suite a ((a, oe) :: pn)) (.builtin "isinstance") (rIsD X.K cls d a) := by
  intro pins s σ H xs us Q I r h
  obtain ⟨C, c, cv, b, rfl, rfl, hd, T, hcv, e, q⟩ := h
  cases r with
  | cons rx rr =>
    cases rr with
    | cons rt rr =>
      cases rr
      cases rx
      have ec := hcv _ rt
      subst ec
      obtain ⟨hget, _⟩ := I.pin (a, oe) (List.mem_append.mpr (.inl List.mem_cons_self))
      obtain ⟨vs, hv⟩ := hf
      have J : ∃ od, PySem.W.InstAt s.heap a oe C od := by
        cases hdd : d with
        | none =>
          exact ⟨none, hget, hz.1, by unfold PySem.W.notCls; rw [hv] <;> rfl, by rw [hz.2, hdd]; trivial⟩
        | some dd =>
          obtain ⟨fs, e3⟩ := hd dd hdd
          have hx : ObjOk X.prog X.w H s.heap dd (.xd fs) := I.hok dd _ e3
          obtain ⟨mA, hns, hr⟩ := hx
          obtain ⟨o, es, ep, h1, h2⟩ := hns
          exact ⟨some o, hget, hz.1, by unfold PySem.W.notCls; rw [hv] <;> rfl, by rw [hz.2, hdd]; exact h1⟩
      obtain ⟨od, J⟩ := J
      have hcl : (PySem.W.clsIn X.K C).isSome = true := by
        obtain ⟨cd, hc, _⟩ := PySem.W.any_some T.hd
        rw [hc]
        rfl
      exact PySem.W.kia_one (PySem.W.kitx_exc (od := od) hcl T.hg T.hk T.hs T.ha T.hn T.ht T.hm) I.kIn J e (fun z => nomatch z) fun tk => ⟨.bl b, H, I.kept (t' := tk) fun _ _ z => z, rfl, q⟩
/-- e.n, e a held exception -/
def tXfV (K : PySem.W.Frag) (n : Str) (te : TE) : TE := fun σ H Q => te σ H fun x H1 => ∃ (a C dd : Addr) (fs : List (Str × V)) (v : V), x = .ref a ∧ H1 a = some (exo a C (some dd)) ∧ H1 dd = some (exd dd fs) ∧ XfC K C ∧ PySem.W.findIn K (.ref C) n = some none ∧ fs.lookup n = some v ∧ Q v H1
theorem pe_xfV {X : Cx} {e : Expr} {te : TE} {pos : Pos} {n : Str} (he : PE X e te) (hb : attributeBase e n X.env (eval e X.env) = eval e X.env := by rfl) : PE X (.Attribute e n pos) (tXfV X.K n te) := by
  refine ⟨fun pins s σ H Q I h => ?_⟩
  refine attr_of hb (thn (he.run pins s σ H _ I h) fun u s1 hh => ?_)
  obtain ⟨x, H1, I1, rx, a, C, dd, fs, v, ex, e1, e2, T, hno, l, q⟩ := hh
  subst ex
  obtain rfl : u = Value.ref a := rx
  obtain ⟨t1, ho⟩ := exo_at I1.hok e1
  obtain ⟨mA, hns, hr⟩ := exd_at I1.hok e2
  obtain ⟨od, h1, hl⟩ := lookIn_ns hns
  obtain ⟨u, hu, ru⟩ := RelO.some_of (v := v) (o := mA n) (by rw [← l]; exact hr n)
  have J : PySem.W.InstAt s1.heap a _ C (some od) := ⟨ho, rfl, rfl, h1⟩
  exact HandSPX.exc_get I1.kIn J T.ga T.gg T.exC (PySem.W.findObj_own T.hdC hno rfl (by rw [hl, hu])) (handed_of ru) ⟨v, H1, I1.tok _, ru, q⟩
end
section
variable {X : Cx} {e : Expr} {es : List Expr} {ta : TA} {p pos : Pos}
/-- X(), X without its own __init__, as a value -/
theorem pe_own0V {C : Addr} {bmB : List Value} {B newId initId : String} {x : Str} (F : ExcBaseFacts B newId initId bmB) (q : PySem.W.excIn X.K C bmB newId = true) (gC : X.mg x = some (.ref C)) (kC : PySem.W.keepIn X.K (.ref C) = true) (hg : Gl X x)
    (hdb : (x == ("__debug__" : Str)) = false := by decide) : PE X (.Call (.Name x p) [] [] pos) (fun _ H Q => ∀ a, H a = none → Q (.ref a) (upd H a (exo a C none))) := by
  refine ⟨fun pins s σ H Q I h => ?_⟩
  refine wpAny_Call_Name_kw (ld_glob I hg gC ?_ hdb)
  refine PySem.W.callWith_K0 (K := X.K) I.kIn kC ?_
  show wpAny _ _ (call (.ref C) []) _ _ _
  obtain ⟨bm, N, nm, qn, bs, hdct, sn, sub, ab, col, dd, k0, k1, k2, k3, k5, mN, hC, hN, hni, T⟩ := exc_obj I.kIn q
  refine wpAny_call_exc_subT F T hC hN hni (fun h' a hm => ?_) (Nat.zero_le _)
  have hn : H a = none := I.hok.gone hm.new
  obtain ⟨t, ht, _, _⟩ := hm.there
  exact ⟨.ref a, upd H a (exo a C none), I.laidN hm.keeps hm.new hn (exo_ok ht), rfl, h a hn⟩
/-- X(e, ..), X's own __init__ keeping sp, as a value -/
def tMkV (C : Addr) (sp : Sp) (ta : TA) : TE := fun σ H Q => ta σ H fun vs H1 => vs.length ≤ 1000 ∧ ∀ a, H1 a = none → sp (.ref a :: vs) (upd H1 a (exo a C none)) (fun v H2 => v = .non ∧ Q (.ref a) H2) (fun _ _ _ => False)
theorem pe_oexV {CX : CXT} {x : Str} {C fI : Addr} {k : Nat} {fd : FuncData} {ps : List Str} {sp : Sp} (T : OexC X.K C) (iC : PySem.W.findIn X.K (.ref C) "__init__" = some (some (.ref fI))) (tI : PySem.W.typeIn X.K (.ref fI) = some (.type "function"))
    (F1 : FnOk X.prog X.w X.K X.mg X.base CX k fI fd ps sp) (hr : Room (k + 1) X.A) (hb : Binds X.K fd ps []) (hx : Passes CX X (fun _ _ _ => False)) (hg : Gl X x) (hm : X.mg x = some (.ref C)) (ha : PA X (e :: es) ta)
    (hdb : (x == ("__debug__" : Str)) = false := by decide) (he : starEach (e :: es) X.env = (false, eval e X.env) :: starEach es X.env := by rfl) (hpl : (backTo pos (starEach es X.env)).any (·.1) = false := by rfl) :
    PE X (.Call (.Name x p) (e :: es) [] pos) (tMkV C sp ta) := by
  refine ⟨fun pins s σ H Q I h => ?_⟩
  obtain ⟨nm, q, N, bs, bm, sn, sub, ab, col, dd, k0, k1, k2, k3, k5, hC, hbm⟩ := T.cls
  refine wpAny_Call_Name_kw (ld_glob I hg hm ?_ hdb)
  refine PySem.W.callWith_K (h₀ := X.base) I.ok.mod.kin T.kC (thn (ha.run pos pins s σ H _ I h) fun us s1 ⟨vs, H1, I1, r1, hz, q1⟩ => ⟨I1.kIn, ?_⟩) he hpl
  show wpAny _ _ (call (.ref C) us) _ _ _
  obtain ⟨hp, g, dr, tk, os⟩ := s1
  have hsz : hp.objs.size ≤ hp.objs.size + 1 := Nat.le_succ _
  have hn : H1 (hp.objs.size + 1) = none := I1.hok.fresh hsz
  have hq := q1 (hp.objs.size + 1) hn
  have kk : ∀ b o, hp.get? b = some o → ((hp.push (PySem.W.kdv_tup us)).push (PySem.HandSPX.excO C hp.objs.size)).get? b = some o := fun b o e => Heap.get?_push_of_some _ (Heap.get?_push_of_some _ e)
  have hget : ((hp.push (PySem.W.kdv_tup us)).push (PySem.HandSPX.excO C hp.objs.size)).get? (hp.objs.size + 1) = some (PySem.HandSPX.excO C hp.objs.size) := by heap_get
  have I2 : Inv X pins σ (upd H1 (hp.objs.size + 1) (exo (hp.objs.size + 1) C none)) ⟨(hp.push (PySem.W.kdv_tup us)).push (PySem.HandSPX.excO C hp.objs.size), g, dr, tk, os⟩ :=
    I1.laid (t' := tk) (a := hp.objs.size + 1) (o := exo (hp.objs.size + 1) C none) (h' := (hp.push (PySem.W.kdv_tup us)).push (PySem.HandSPX.excO C hp.objs.size)) kk hsz (exo_ok hget)
  have r2 : Vals (V.ref (hp.objs.size + 1) :: vs) (Value.ref (hp.objs.size + 1) :: us) := .cons rfl r1
  have hl : (Value.ref (hp.objs.size + 1) :: us).length = ps.length := by
    have e := r2.length
    rw [F1.len _ _ _ _ hq] at e
    exact e.symm
  have hus : us.length ≤ sizeLine := by
    rw [← Paired.length r1, sizeLine_eq]
    omega
  refine wpAny_call (PySem.HandSPX.call_own F.excBase_ValueError (fun Y => PySem.HandSPX.refsVE_contains Y bm hbm) (I1.kIn _ _ hC) (PySem.W.looks_findIn I1.kIn iC) (fun self => PySem.W.bind_fn I1.kIn self tI) hus
    (codeAny_mono (F1.run _ X.stack _ _ ⟨Value.ref (hp.objs.size + 1) :: us, []⟩ (Value.ref (hp.objs.size + 1) :: us) _ _ (fun _ _ _ => False) (hr.make C us []) (I2.env0.make C us []) (by simpa using hb _ (Value.ref (hp.objs.size + 1) :: us) I2.kIn (by simpa using hl)) r2 hq) fun r s' hq' => ?_))
  cases r with
  | error er => exact hx pins σ _ _ er s' I2 hq'
  | ok fl =>
    cases fl with
    | ret u =>
      obtain ⟨v, H2, os2, bare2, un2, hok2, rv, ev, q2⟩ := hq'
      subst ev
      obtain ⟨h2, g2, d2, t2, os'⟩ := s'
      exact ⟨rv, ⟨.ref (hp.objs.size + 1), H2, I2.call' (ch := []) os2 un2 hok2 bare2 (fun b z => absurd z (by simp)), rfl, q2⟩⟩
    | next => exact False.elim hq'
    | brk => exact False.elim hq'
    | cont => exact False.elim hq'
end
/-! ### raised where a try stands around -/
section
variable {X : Cx} {e : Expr} {es : List Expr} {ta : TA} {p pos : Pos}
theorem pmk_own0N {C : Addr} {bmB : List Value} {B newId initId : String} {x : Str} (F : ExcBaseFacts B newId initId bmB) (q : PySem.W.excIn X.K C bmB newId = true) (gC : X.mg x = some (.ref C))
    (kC : PySem.W.keepIn X.K (.ref C) = true) (r : Raises X (.ref C)) (hg : Gl X x) (hdb : (x == ("__debug__" : Str)) = false := by decide) : L2N.PMk X (.Call (.Name x p) [] [] pos) (fun _ H Q => Q (.ref C) none H) := by
  intro pins s σ H Q I h
  refine wpAny_Call_Name_kw (ld_glob I hg gC ?_ hdb)
  refine PySem.W.callWith_K0 (K := X.K) I.kIn kC ?_
  show wpAny _ _ (call (.ref C) []) _ _ _
  obtain ⟨bm, N, nm, qn, bs, hdct, sn, sub, ab, col, dd, k0, k1, k2, k3, k5, mN, hC, hN, hni, T⟩ := exc_obj I.kIn q
  refine wpAny_call_exc_subT F T hC hN hni (fun h' e hm => ?_) (Nat.zero_le _)
  exact L2N.mk_of I hm r h (I.hok.gone hm.new)
theorem pmk_oexN {CX : CXT} {x : Str} {C fI : Addr} {k : Nat} {fd : FuncData} {ps : List Str} {sp : Sp} (T : OexC X.K C) (iC : PySem.W.findIn X.K (.ref C) "__init__" = some (some (.ref fI))) (tI : PySem.W.typeIn X.K (.ref fI) = some (.type "function"))
    (F1 : FnOk X.prog X.w X.K X.mg X.base CX k fI fd ps sp) (hr : Room (k + 1) X.A) (hb : Binds X.K fd ps []) (hx : Passes CX X (fun _ _ _ => False)) (hg : Gl X x) (hm : X.mg x = some (.ref C)) (ha : PA X (e :: es) ta)
    (hdb : (x == ("__debug__" : Str)) = false := by decide) (he : starEach (e :: es) X.env = (false, eval e X.env) :: starEach es X.env := by rfl) (hpl : (backTo pos (starEach es X.env)).any (·.1) = false := by rfl) :
    L2N.PMk X (.Call (.Name x p) (e :: es) [] pos) (tMkO C sp [] ta) := by
  intro pins s σ H Q I h
  obtain ⟨nm, q, N, bs, bm, sn, sub, ab, col, dd, k0, k1, k2, k3, k5, hC, hbm⟩ := T.cls
  refine wpAny_Call_Name_kw (ld_glob I hg hm ?_ hdb)
  refine PySem.W.callWith_K (h₀ := X.base) I.ok.mod.kin T.kC (thn (ha.run pos pins s σ H _ I h) fun us s1 ⟨vs, H1, I1, r1, hz, q1⟩ => ⟨I1.kIn, ?_⟩) he hpl
  show wpAny _ _ (call (.ref C) us) _ _ _
  obtain ⟨hp, g, dr, tk, os⟩ := s1
  have hsz : hp.objs.size ≤ hp.objs.size + 1 := Nat.le_succ _
  have hn : H1 (hp.objs.size + 1) = none := I1.hok.fresh hsz
  have hq := q1 (hp.objs.size + 1) hn
  rw [List.append_nil] at hq
  have kk : ∀ b o, hp.get? b = some o → ((hp.push (PySem.W.kdv_tup us)).push (PySem.HandSPX.excO C hp.objs.size)).get? b = some o := fun b o e => Heap.get?_push_of_some _ (Heap.get?_push_of_some _ e)
  have hget : ((hp.push (PySem.W.kdv_tup us)).push (PySem.HandSPX.excO C hp.objs.size)).get? (hp.objs.size + 1) = some (PySem.HandSPX.excO C hp.objs.size) := by heap_get
  have I2 : Inv X pins σ (upd H1 (hp.objs.size + 1) (exo (hp.objs.size + 1) C none)) ⟨(hp.push (PySem.W.kdv_tup us)).push (PySem.HandSPX.excO C hp.objs.size), g, dr, tk, os⟩ :=
    I1.laid (t' := tk) (a := hp.objs.size + 1) (o := exo (hp.objs.size + 1) C none) (h' := (hp.push (PySem.W.kdv_tup us)).push (PySem.HandSPX.excO C hp.objs.size)) kk hsz (exo_ok hget)
  have r2 : Vals (V.ref (hp.objs.size + 1) :: vs) (Value.ref (hp.objs.size + 1) :: us) := .cons rfl r1
  have hl : (Value.ref (hp.objs.size + 1) :: us).length = ps.length := by
    have e := r2.length
    rw [F1.len _ _ _ _ hq] at e
    exact e.symm
  have hus : us.length ≤ sizeLine := by
    rw [← Paired.length r1, sizeLine_eq]
    omega
  refine wpAny_call (PySem.HandSPX.call_own F.excBase_ValueError (fun Y => PySem.HandSPX.refsVE_contains Y bm hbm) (I1.kIn _ _ hC) (PySem.W.looks_findIn I1.kIn iC) (fun self => PySem.W.bind_fn I1.kIn self tI) hus
    (codeAny_mono (F1.run _ X.stack _ _ ⟨Value.ref (hp.objs.size + 1) :: us, []⟩ (Value.ref (hp.objs.size + 1) :: us) _ _ (fun _ _ _ => False) (hr.make C us []) (I2.env0.make C us []) (by simpa using hb _ (Value.ref (hp.objs.size + 1) :: us) I2.kIn (by simpa using hl)) r2 hq) fun r s' hq' => ?_))
  cases r with
  | error er => exact hx pins σ _ _ er s' I2 hq'
  | ok fl =>
    cases fl with
    | ret u =>
      obtain ⟨v, H2, os2, bare2, un2, hok2, rv, ev, d, fs, ea, ed, hd1, q2⟩ := hq'
      subst ev
      obtain ⟨h2, g2, d2, t2, os'⟩ := s'
      obtain ⟨t0, G, J, kG, ge, hoe, na⟩ := mk_end0 (d2 := d2) (t2 := t2) I1 hsz kk un2 hok2 os2 bare2 ea ed hd1
      exact ⟨rv, hp.objs.size + 1, _, _, ⟨G, g2, d2, t2, os'⟩, _, .ref C, some d, rfl, J, kG, ge, hoe, ⟨rfl, rfl, fun vs hv => by cases hv; rfl⟩, rfl, rfl, na, rfl, bare2, raises_own T.exC T.tyC, q2⟩
    | next => exact False.elim hq'
    | brk => exact False.elim hq'
    | cont => exact False.elim hq'
end
/-- the suite's context bears the exception that it holds -/
theorem hot_suite {X : Cx} {a : Addr} {cls : Value} {d : Option Addr} {oe : Obj} {pn : List (Addr × Obj)} (hz : L2N.Zn cls d oe) (hf : ∃ vs, oe.data = .fields vs) : L2H.HotC (X.suite a ((a, oe) :: pn)) := by
  obtain ⟨vs, hv⟩ := hf
  exact ⟨(a, oe), ⟨rfl, vs, hv, hz.2.2 vs hv⟩, List.mem_cons_self⟩
/-! ### list.count of a flag among flags -/
def eqb (k : Bool) (v : Value) : Bool := match v with
  | .bool n => n == k
  | _ => false
theorem bools_of_vals : ∀ {ns : List Bool} {us : List Value}, Vals (ns.map V.bl) us → us = ns.map Value.bool
  | [], _, h => by cases h; rfl
  | n :: ns, _, h => by
    cases h with
    | cons a b =>
      cases a
      rw [bools_of_vals b]
      rfl
theorem eqb_count {k : Bool} : ∀ (ns : List Bool), (ns.map Value.bool).countP (eqb k) = ns.count k
  | [] => rfl
  | n :: ns => by
    rw [List.map_cons, List.countP_cons, List.count_cons, eqb_count ns] <;> rfl
def rCntB (K : PySem.W.Frag) : V → List V → Hp → VK → Prop := fun x xs H Q => ∃ (p : Addr) (ns : List Bool) (k : Bool), x = .ref p ∧ xs = [.bl k] ∧ SqL K H p (ns.map V.bl) ∧ Q (.int (ns.count k : Nat)) H
theorem mt_lcountB {X : Cx} : MtR X "list.count" (rCntB X.K) := by
  intro pins s σ H x xs v us Q I rx rxs h
  obtain ⟨p, ns, k, rfl, rfl, hs, q⟩ := h
  cases rx
  obtain ⟨u, rfl, ru⟩ := rxs.one
  cases ru
  obtain ⟨its, rv, ⟨⟨cls, dd, data, sl⟩, n, ho, hc, hdn, hd⟩, hlen⟩ := I.list hs
  simp only at hc hd
  subst hc hd
  have hi := bools_of_vals rv
  subst hi
  refine call_meets PySem.F.slot_list_count ⟨_, ho, rfl⟩ PySem.F.entry_list_count (PySem.F.args_list_count_2 _ _)
    (SeqAt.list_countAt p (ns.map Value.bool).toArray n dd sl (.bool k) (eqb k)) ⟨ho, fun y hy => ?_, ?_⟩
  · have hy' : y ∈ ns.map Value.bool := by simpa using hy
    obtain ⟨b, _, rfl⟩ := List.mem_map.mp hy'
    exact SeqAt.EqAt.bool_bool b k
  · have ec : (ns.map Value.bool).toArray.toList.countP (eqb k) = ns.count k := eqb_count ns
    refine ⟨.int (ns.count k : Nat), H, I.tok _, ⟨s.toks, ?_⟩, q⟩
    show Value.int (((ns.map Value.bool).toArray.toList.countP (eqb k) : Nat) : Int) s.toks = Value.int ((ns.count k : Nat) : Int) s.toks
    rw [ec]
end L2

set_option Elab.async false
set_option linter.all false
set_option maxRecDepth 100000
set_option maxHeartbeats 2000000
namespace Fp
open PySem PySem.Spec PyProof.Rows L2
def top (i : Nat) : Stmt := PySem.Challenge.pw_frontparts_k72_beginnings_refused.main.body.getD i (.Pass ⟨0, 0, 0, 0⟩)
abbrev s_BadBag__init__ : Stmt := inClass (top 3) 0
abbrev s_is_integer : Stmt := top 12
abbrev s_is_from_to : Stmt := top 13
abbrev s_is_clock : Stmt := top 14
abbrev s_is_word : Stmt := top 15
abbrev s_inverse : Stmt := top 18
abbrev s_rank_of : Stmt := top 19
abbrev s_first_word : Stmt := top 20
abbrev s_tidied : Stmt := top 21
abbrev s_scaled : Stmt := top 22
abbrev s_added : Stmt := top 23
abbrev s_Bag__init__ : Stmt := inClass (top 27) 0
abbrev s_Bag__eq__ : Stmt := inClass (top 27) 1
abbrev s_are_words : Stmt := top 28
abbrev s_is_short_word : Stmt := top 29
abbrev s_pairs_of : Stmt := top 30
abbrev s_bag_of : Stmt := top 31
abbrev s_table_of : Stmt := top 32
abbrev s_has_only : Stmt := top 33
abbrev s_check_clocks : Stmt := top 34
abbrev s_check_something : Stmt := top 35
abbrev s_less : Stmt := top 36
abbrev s_mirrored : Stmt := top 37
abbrev s_reduced : Stmt := top 39
abbrev s_reduce_at : Stmt := top 40
abbrev s_start_of : Stmt := top 41
abbrev s_take_off : Stmt := top 42
abbrev s_divided : Stmt := top 43
abbrev s_rest_behind : Stmt := top 45
abbrev s_rest_ahead : Stmt := top 46
abbrev s_is_full : Stmt := top 50
abbrev s_beginnings : Stmt := top 51
abbrev s_unmet : Stmt := top 52
abbrev s_check_alphabet : Stmt := top 53
abbrev s_check_over : Stmt := top 54
abbrev s__law_tape : Stmt := top 56
abbrev s__law_draw : Stmt := top 57
abbrev s__law_clock : Stmt := top 58
abbrev s__law_word : Stmt := top 59
abbrev s__law_some : Stmt := top 60
abbrev s__law_alphabet : Stmt := top 61
abbrev s__law_thing : Stmt := top 62
abbrev s__law_letters_of : Stmt := top 63
abbrev s__law_ask : Stmt := top 64
abbrev s__law_due : Stmt := top 65
abbrev s__law_question : Stmt := top 66
abbrev s_law : Stmt := top 67
abbrev FnP (K : PySem.W.Frag) (x q : Str) (st : Stmt) (f : Addr) (fd : FuncData) : Prop := FunD K x q (defArgs st) (defBody st) (defScope st) [] [] f fd
def d_BadBag__init__ : He.DefD := ⟨("BadBag", some "__init__"), "__init__", "BadBag.__init__", defArgs s_BadBag__init__, defBody s_BadBag__init__, defScope s_BadBag__init__, [], []⟩
def d_is_integer : He.DefD := ⟨("is_integer", none), "is_integer", "is_integer", defArgs s_is_integer, defBody s_is_integer, defScope s_is_integer, [], []⟩
def d_is_from_to : He.DefD := ⟨("is_from_to", none), "is_from_to", "is_from_to", defArgs s_is_from_to, defBody s_is_from_to, defScope s_is_from_to, [], []⟩
def d_is_clock : He.DefD := ⟨("is_clock", none), "is_clock", "is_clock", defArgs s_is_clock, defBody s_is_clock, defScope s_is_clock, [], []⟩
def d_is_word : He.DefD := ⟨("is_word", none), "is_word", "is_word", defArgs s_is_word, defBody s_is_word, defScope s_is_word, [], []⟩
def d_inverse : He.DefD := ⟨("inverse", none), "inverse", "inverse", defArgs s_inverse, defBody s_inverse, defScope s_inverse, [], []⟩
def d_rank_of : He.DefD := ⟨("rank_of", none), "rank_of", "rank_of", defArgs s_rank_of, defBody s_rank_of, defScope s_rank_of, [], []⟩
def d_first_word : He.DefD := ⟨("first_word", none), "first_word", "first_word", defArgs s_first_word, defBody s_first_word, defScope s_first_word, [], []⟩
def d_tidied : He.DefD := ⟨("tidied", none), "tidied", "tidied", defArgs s_tidied, defBody s_tidied, defScope s_tidied, [], []⟩
def d_scaled : He.DefD := ⟨("scaled", none), "scaled", "scaled", defArgs s_scaled, defBody s_scaled, defScope s_scaled, [], []⟩
def d_added : He.DefD := ⟨("added", none), "added", "added", defArgs s_added, defBody s_added, defScope s_added, [], []⟩
def d_Bag__init__ : He.DefD := ⟨("Bag", some "__init__"), "__init__", "Bag.__init__", defArgs s_Bag__init__, defBody s_Bag__init__, defScope s_Bag__init__, [], []⟩
def d_Bag__eq__ : He.DefD := ⟨("Bag", some "__eq__"), "__eq__", "Bag.__eq__", defArgs s_Bag__eq__, defBody s_Bag__eq__, defScope s_Bag__eq__, [], []⟩
def d_are_words : He.DefD := ⟨("are_words", none), "are_words", "are_words", defArgs s_are_words, defBody s_are_words, defScope s_are_words, [], []⟩
def d_is_short_word : He.DefD := ⟨("is_short_word", none), "is_short_word", "is_short_word", defArgs s_is_short_word, defBody s_is_short_word, defScope s_is_short_word, [], []⟩
def d_pairs_of : He.DefD := ⟨("pairs_of", none), "pairs_of", "pairs_of", defArgs s_pairs_of, defBody s_pairs_of, defScope s_pairs_of, [], []⟩
def d_bag_of : He.DefD := ⟨("bag_of", none), "bag_of", "bag_of", defArgs s_bag_of, defBody s_bag_of, defScope s_bag_of, [], []⟩
def d_table_of : He.DefD := ⟨("table_of", none), "table_of", "table_of", defArgs s_table_of, defBody s_table_of, defScope s_table_of, [], []⟩
def d_has_only : He.DefD := ⟨("has_only", none), "has_only", "has_only", defArgs s_has_only, defBody s_has_only, defScope s_has_only, [], []⟩
def d_check_clocks : He.DefD := ⟨("check_clocks", none), "check_clocks", "check_clocks", defArgs s_check_clocks, defBody s_check_clocks, defScope s_check_clocks, [], []⟩
def d_check_something : He.DefD := ⟨("check_something", none), "check_something", "check_something", defArgs s_check_something, defBody s_check_something, defScope s_check_something, [], []⟩
def d_less : He.DefD := ⟨("less", none), "less", "less", defArgs s_less, defBody s_less, defScope s_less, [], []⟩
def d_mirrored : He.DefD := ⟨("mirrored", none), "mirrored", "mirrored", defArgs s_mirrored, defBody s_mirrored, defScope s_mirrored, [], []⟩
def d_reduced : He.DefD := ⟨("reduced", none), "reduced", "reduced", defArgs s_reduced, defBody s_reduced, defScope s_reduced, [], []⟩
def d_reduce_at : He.DefD := ⟨("reduce_at", none), "reduce_at", "reduce_at", defArgs s_reduce_at, defBody s_reduce_at, defScope s_reduce_at, [], []⟩
def d_start_of : He.DefD := ⟨("start_of", none), "start_of", "start_of", defArgs s_start_of, defBody s_start_of, defScope s_start_of, [], []⟩
def d_take_off : He.DefD := ⟨("take_off", none), "take_off", "take_off", defArgs s_take_off, defBody s_take_off, defScope s_take_off, [], []⟩
def d_divided : He.DefD := ⟨("divided", none), "divided", "divided", defArgs s_divided, defBody s_divided, defScope s_divided, [], []⟩
def d_rest_behind : He.DefD := ⟨("rest_behind", none), "rest_behind", "rest_behind", defArgs s_rest_behind, defBody s_rest_behind, defScope s_rest_behind, [], []⟩
def d_rest_ahead : He.DefD := ⟨("rest_ahead", none), "rest_ahead", "rest_ahead", defArgs s_rest_ahead, defBody s_rest_ahead, defScope s_rest_ahead, [], []⟩
def d_is_full : He.DefD := ⟨("is_full", none), "is_full", "is_full", defArgs s_is_full, defBody s_is_full, defScope s_is_full, [], []⟩
def d_beginnings : He.DefD := ⟨("beginnings", none), "beginnings", "beginnings", defArgs s_beginnings, defBody s_beginnings, defScope s_beginnings, [], []⟩
def d_unmet : He.DefD := ⟨("unmet", none), "unmet", "unmet", defArgs s_unmet, defBody s_unmet, defScope s_unmet, [], []⟩
def d_check_alphabet : He.DefD := ⟨("check_alphabet", none), "check_alphabet", "check_alphabet", defArgs s_check_alphabet, defBody s_check_alphabet, defScope s_check_alphabet, [], []⟩
def d_check_over : He.DefD := ⟨("check_over", none), "check_over", "check_over", defArgs s_check_over, defBody s_check_over, defScope s_check_over, [], []⟩
def d__law_tape : He.DefD := ⟨("_law_tape", none), "_law_tape", "_law_tape", defArgs s__law_tape, defBody s__law_tape, defScope s__law_tape, [], []⟩
def d__law_draw : He.DefD := ⟨("_law_draw", none), "_law_draw", "_law_draw", defArgs s__law_draw, defBody s__law_draw, defScope s__law_draw, [], []⟩
def d__law_clock : He.DefD := ⟨("_law_clock", none), "_law_clock", "_law_clock", defArgs s__law_clock, defBody s__law_clock, defScope s__law_clock, [], []⟩
def d__law_word : He.DefD := ⟨("_law_word", none), "_law_word", "_law_word", defArgs s__law_word, defBody s__law_word, defScope s__law_word, [], []⟩
def d__law_some : He.DefD := ⟨("_law_some", none), "_law_some", "_law_some", defArgs s__law_some, defBody s__law_some, defScope s__law_some, [], []⟩
def d__law_alphabet : He.DefD := ⟨("_law_alphabet", none), "_law_alphabet", "_law_alphabet", defArgs s__law_alphabet, defBody s__law_alphabet, defScope s__law_alphabet, [], []⟩
def d__law_thing : He.DefD := ⟨("_law_thing", none), "_law_thing", "_law_thing", defArgs s__law_thing, defBody s__law_thing, defScope s__law_thing, [], []⟩
def d__law_letters_of : He.DefD := ⟨("_law_letters_of", none), "_law_letters_of", "_law_letters_of", defArgs s__law_letters_of, defBody s__law_letters_of, defScope s__law_letters_of, [], []⟩
def d__law_ask : He.DefD := ⟨("_law_ask", none), "_law_ask", "_law_ask", defArgs s__law_ask, defBody s__law_ask, defScope s__law_ask, [], []⟩
def d__law_due : He.DefD := ⟨("_law_due", none), "_law_due", "_law_due", defArgs s__law_due, defBody s__law_due, defScope s__law_due, [], []⟩
def d__law_question : He.DefD := ⟨("_law_question", none), "_law_question", "_law_question", defArgs s__law_question, defBody s__law_question, defScope s__law_question, [], []⟩
def d_law : He.DefD := ⟨("law", none), "law", "law", defArgs s_law, defBody s_law, defScope s_law, [], []⟩
def fn : List He.DefD := [d_BadBag__init__, d_is_integer, d_is_from_to, d_is_clock, d_is_word, d_inverse, d_rank_of, d_first_word, d_tidied, d_scaled, d_added, d_Bag__init__, d_Bag__eq__, d_are_words, d_is_short_word, d_pairs_of, d_bag_of, d_table_of, d_has_only, d_check_clocks, d_check_something, d_less, d_mirrored, d_reduced, d_reduce_at, d_start_of, d_take_off, d_divided, d_rest_behind, d_rest_ahead, d_is_full, d_beginnings, d_unmet, d_check_alphabet, d_check_over, d__law_tape, d__law_draw, d__law_clock, d__law_word, d__law_some, d__law_alphabet, d__law_thing, d__law_letters_of, d__law_ask, d__law_due, d__law_question, d_law]
def fa : List He.Fa := [.glo "is_integer", .glo "is_from_to", .glo "is_clock", .glo "is_word", .glo "inverse", .glo "rank_of", .glo "first_word", .glo "tidied", .glo "scaled", .glo "added", .glo "are_words", .glo "is_short_word", .glo "pairs_of", .glo "bag_of", .glo "table_of", .glo "has_only", .glo "check_clocks", .glo "check_something", .glo "less", .glo "mirrored", .glo "reduced", .glo "reduce_at", .glo "start_of", .glo "take_off", .glo "divided", .glo "rest_behind", .glo "rest_ahead", .glo "is_full", .glo "beginnings", .glo "unmet", .glo "check_alphabet", .glo "check_over", .glo "_law_tape", .glo "_law_draw", .glo "_law_clock", .glo "_law_word", .glo "_law_some", .glo "_law_alphabet", .glo "_law_thing", .glo "_law_letters_of", .glo "_law_ask", .glo "_law_due", .glo "_law_question", .glo "law", .glo "BagError", .exc "BagError", .glo "BadBag", .glo "UnlikeClocks", .exc "UnlikeClocks", .glo "NoNumber", .exc "NoNumber", .glo "IsNothing", .exc "IsNothing", .glo "NoAlphabet", .exc "NoAlphabet", .glo "NoLetters", .exc "NoLetters", .glo "Bag", .cls "Bag", .mkr "Bag", .meth "Bag" "__eq__", .noat "Bag" "clock", .noat "Bag" "words", .glo "CLOCKS", .str "LETTERS" "xyz", .int "MOST_WORDS" 300, .int "MOST_LETTERS_bags" 12, .glo "ALPHABETS", .int "MOST_LETTERS_starts" 12, .free "ValueError", .free "all", .free "bool", .free "dict", .free "int", .free "isinstance", .free "len", .free "list", .free "max", .free "min", .free "range", .free "reversed", .free "set", .free "sorted", .free "str", .free "tuple", .free "zip", .glo "INVERSES"]
def exl (K : PySem.W.Frag) : List Bool := [He.tupB K "CLOCKS" [.int 2, .int 3, .int 5, .int 7], He.tupB K "ALPHABETS" [.str "xy", .str "xyz"], decide (PySem.W.findIn K (.ref (He.ga K "Bag")) "__class__" = some (some (.builtin "object.__class__"))), decide (PySem.W.specialIn K (.builtin "object.__class__") "__get__" = some (some (.builtin "getset_descriptor.__get__"))), decide (PySem.W.takesIn K (.builtin "object.__class__") = some true), decide (PySem.W.mroIn K (He.ga K "Bag") (.type "object") = some true), decide (PySem.W.findIn K (.ref (He.ga K "Bag")) "__ne__" = some (some (.builtin "object.__ne__"))), decide (PySem.W.kitOne K (.ref (He.ga K "Bag")) (.ref (He.ga K "Bag")) = some true), PySem.W.notFirst K (He.ga K "Bag") (.type "NoneType"), decide (PySem.W.kitOne K (.type "NoneType") (.ref (He.ga K "Bag")) = some false), PySem.W.notFirst K (He.ga K "Bag") (.type "int"), decide (PySem.W.kitOne K (.type "int") (.ref (He.ga K "Bag")) = some false), PySem.W.notFirst K (He.ga K "Bag") (.type "bool"), decide (PySem.W.kitOne K (.type "bool") (.ref (He.ga K "Bag")) = some false), PySem.W.notFirst K (He.ga K "Bag") (.type "str"), decide (PySem.W.kitOne K (.type "str") (.ref (He.ga K "Bag")) = some false), PySem.W.notFirst K (He.ga K "Bag") (.type "dict"), decide (PySem.W.kitOne K (.type "dict") (.ref (He.ga K "Bag")) = some false), PySem.W.notFirst K (He.ga K "Bag") (.type "list"), decide (PySem.W.kitOne K (.type "list") (.ref (He.ga K "Bag")) = some false), PySem.W.notFirst K (He.ga K "Bag") (.type "tuple"), decide (PySem.W.kitOne K (.type "tuple") (.ref (He.ga K "Bag")) = some false), wdB K (He.ga K "INVERSES") [(2, [0, 1]), (3, [0, 1, 2]), (5, [0, 1, 3, 2, 4]), (7, [0, 1, 4, 5, 2, 3, 6])], decide (PySem.W.nsIn K mainGlobals "heapify" = some (some (.builtin "_heapq.heapify"))), decide (PySem.W.nsIn K mainGlobals "heappop" = some (some (.builtin "_heapq.heappop"))), decide (PySem.W.nsIn K mainGlobals "heappush" = some (some (.builtin "_heapq.heappush"))), decide (PySem.W.exmOne K (.ref (He.ga K "BagError")) (.ref (He.ga K "BagError")) = some true), decide (PySem.W.exmOne K (.ref (He.ga K "UnlikeClocks")) (.ref (He.ga K "UnlikeClocks")) = some true), decide (PySem.W.exmOne K (.ref (He.ga K "NoNumber")) (.ref (He.ga K "NoNumber")) = some true), decide (PySem.W.exmOne K (.ref (He.ga K "IsNothing")) (.ref (He.ga K "IsNothing")) = some true), decide (PySem.W.exmOne K (.ref (He.ga K "NoAlphabet")) (.ref (He.ga K "NoAlphabet")) = some true), decide (PySem.W.exmOne K (.ref (He.ga K "NoLetters")) (.ref (He.ga K "NoLetters")) = some true), excCB K (He.ga K "BadBag"), excCB K (He.ga K "NoAlphabet"), excCB K (He.ga K "NoLetters"), excCB K (He.ga K "NoNumber"), oexB K (He.ga K "BadBag"), decide (PySem.W.findIn K (.ref (He.ga K "BadBag")) "__init__" = some (some (.ref (He.ma K (He.ga K "BadBag") "__init__")))), decide (PySem.W.typeIn K (.ref (He.ma K (He.ga K "BadBag") "__init__")) = some (.type "function")), decide (PySem.W.findIn K (.ref (He.ga K "BadBag")) "part" = some none), decide (PySem.W.kitOne K (.ref (He.ga K "BadBag")) (.ref (He.ga K "Bag")) = some false), decide (PySem.W.kitOne K (.ref (He.ga K "BadBag")) (.type "str") = some false), decide (PySem.W.findIn K (.ref (He.ga K "BadBag")) "__eq__" = some (some (.builtin "object.__eq__"))), decide (PySem.W.subIn K (.ref (He.ga K "BadBag")) (.type "str") = some false), decide (PySem.W.subIn K (.ref (He.ga K "Bag")) (.type "str") = some false), decide (PySem.W.kitOne K (.ref (He.ga K "Bag")) (.type "str") = some false), decide (PySem.W.kitOne K (.ref (He.ga K "NoAlphabet")) (.ref (He.ga K "NoAlphabet")) = some true), decide (PySem.W.kitOne K (.ref (He.ga K "NoAlphabet")) (.ref (He.ga K "NoLetters")) = some false), decide (PySem.W.kitOne K (.ref (He.ga K "NoAlphabet")) (.ref (He.ga K "NoNumber")) = some false), decide (PySem.W.kitOne K (.ref (He.ga K "NoAlphabet")) (.type "ValueError") = some true), decide (PySem.W.exmOne K (.ref (He.ga K "NoAlphabet")) (.ref (He.ga K "BagError")) = some true), decide (PySem.W.kitOne K (.ref (He.ga K "NoLetters")) (.ref (He.ga K "NoAlphabet")) = some false), decide (PySem.W.kitOne K (.ref (He.ga K "NoLetters")) (.ref (He.ga K "NoLetters")) = some true), decide (PySem.W.kitOne K (.ref (He.ga K "NoLetters")) (.ref (He.ga K "NoNumber")) = some false), decide (PySem.W.kitOne K (.ref (He.ga K "NoLetters")) (.type "ValueError") = some true), decide (PySem.W.exmOne K (.ref (He.ga K "NoLetters")) (.ref (He.ga K "BagError")) = some true), decide (PySem.W.kitOne K (.ref (He.ga K "NoNumber")) (.ref (He.ga K "NoAlphabet")) = some false), decide (PySem.W.kitOne K (.ref (He.ga K "NoNumber")) (.ref (He.ga K "NoLetters")) = some false), decide (PySem.W.kitOne K (.ref (He.ga K "NoNumber")) (.ref (He.ga K "NoNumber")) = some true), decide (PySem.W.kitOne K (.ref (He.ga K "NoNumber")) (.type "ValueError") = some true), decide (PySem.W.exmOne K (.ref (He.ga K "NoNumber")) (.ref (He.ga K "BagError")) = some true)]
def ex (K : PySem.W.Frag) : Bool := (exl K).all id
/-- what the top has left -/
structure Top (K : PySem.W.Frag) (mg : Str → Option Value) : Prop where
  h : ∃ h : Heap, K.In h ∧ h.Ns mainGlobals mg
  c : He.SaysD fa fn K
  e : ex K = true
section
variable {K : PySem.W.Frag} {mg : Str → Option Value}
theorem Top.x (T : Top K mg) (i : Nat) {b : Bool} (h : (exl K)[i]? = some b := by rfl) : b = true := by
  have := List.all_eq_true.mp T.e b (List.mem_of_getElem? h)
  exact this
theorem g_is_integer (T : Top K mg) : mg "is_integer" = some (.ref (He.ga K "is_integer")) := by
  obtain ⟨h, X, G⟩ := T.h
  exact He.glo_ok X G (T.c.fact 0 (f := .glo "is_integer") rfl)
theorem g_is_from_to (T : Top K mg) : mg "is_from_to" = some (.ref (He.ga K "is_from_to")) := by
  obtain ⟨h, X, G⟩ := T.h
  exact He.glo_ok X G (T.c.fact 1 (f := .glo "is_from_to") rfl)
theorem g_is_clock (T : Top K mg) : mg "is_clock" = some (.ref (He.ga K "is_clock")) := by
  obtain ⟨h, X, G⟩ := T.h
  exact He.glo_ok X G (T.c.fact 2 (f := .glo "is_clock") rfl)
theorem g_is_word (T : Top K mg) : mg "is_word" = some (.ref (He.ga K "is_word")) := by
  obtain ⟨h, X, G⟩ := T.h
  exact He.glo_ok X G (T.c.fact 3 (f := .glo "is_word") rfl)
theorem g_inverse (T : Top K mg) : mg "inverse" = some (.ref (He.ga K "inverse")) := by
  obtain ⟨h, X, G⟩ := T.h
  exact He.glo_ok X G (T.c.fact 4 (f := .glo "inverse") rfl)
theorem g_rank_of (T : Top K mg) : mg "rank_of" = some (.ref (He.ga K "rank_of")) := by
  obtain ⟨h, X, G⟩ := T.h
  exact He.glo_ok X G (T.c.fact 5 (f := .glo "rank_of") rfl)
theorem g_first_word (T : Top K mg) : mg "first_word" = some (.ref (He.ga K "first_word")) := by
  obtain ⟨h, X, G⟩ := T.h
  exact He.glo_ok X G (T.c.fact 6 (f := .glo "first_word") rfl)
theorem g_tidied (T : Top K mg) : mg "tidied" = some (.ref (He.ga K "tidied")) := by
  obtain ⟨h, X, G⟩ := T.h
  exact He.glo_ok X G (T.c.fact 7 (f := .glo "tidied") rfl)
theorem g_scaled (T : Top K mg) : mg "scaled" = some (.ref (He.ga K "scaled")) := by
  obtain ⟨h, X, G⟩ := T.h
  exact He.glo_ok X G (T.c.fact 8 (f := .glo "scaled") rfl)
theorem g_added (T : Top K mg) : mg "added" = some (.ref (He.ga K "added")) := by
  obtain ⟨h, X, G⟩ := T.h
  exact He.glo_ok X G (T.c.fact 9 (f := .glo "added") rfl)
theorem g_are_words (T : Top K mg) : mg "are_words" = some (.ref (He.ga K "are_words")) := by
  obtain ⟨h, X, G⟩ := T.h
  exact He.glo_ok X G (T.c.fact 10 (f := .glo "are_words") rfl)
theorem g_is_short_word (T : Top K mg) : mg "is_short_word" = some (.ref (He.ga K "is_short_word")) := by
  obtain ⟨h, X, G⟩ := T.h
  exact He.glo_ok X G (T.c.fact 11 (f := .glo "is_short_word") rfl)
theorem g_pairs_of (T : Top K mg) : mg "pairs_of" = some (.ref (He.ga K "pairs_of")) := by
  obtain ⟨h, X, G⟩ := T.h
  exact He.glo_ok X G (T.c.fact 12 (f := .glo "pairs_of") rfl)
theorem g_bag_of (T : Top K mg) : mg "bag_of" = some (.ref (He.ga K "bag_of")) := by
  obtain ⟨h, X, G⟩ := T.h
  exact He.glo_ok X G (T.c.fact 13 (f := .glo "bag_of") rfl)
theorem g_table_of (T : Top K mg) : mg "table_of" = some (.ref (He.ga K "table_of")) := by
  obtain ⟨h, X, G⟩ := T.h
  exact He.glo_ok X G (T.c.fact 14 (f := .glo "table_of") rfl)
theorem g_has_only (T : Top K mg) : mg "has_only" = some (.ref (He.ga K "has_only")) := by
  obtain ⟨h, X, G⟩ := T.h
  exact He.glo_ok X G (T.c.fact 15 (f := .glo "has_only") rfl)
theorem g_check_clocks (T : Top K mg) : mg "check_clocks" = some (.ref (He.ga K "check_clocks")) := by
  obtain ⟨h, X, G⟩ := T.h
  exact He.glo_ok X G (T.c.fact 16 (f := .glo "check_clocks") rfl)
theorem g_check_something (T : Top K mg) : mg "check_something" = some (.ref (He.ga K "check_something")) := by
  obtain ⟨h, X, G⟩ := T.h
  exact He.glo_ok X G (T.c.fact 17 (f := .glo "check_something") rfl)
theorem g_less (T : Top K mg) : mg "less" = some (.ref (He.ga K "less")) := by
  obtain ⟨h, X, G⟩ := T.h
  exact He.glo_ok X G (T.c.fact 18 (f := .glo "less") rfl)
theorem g_mirrored (T : Top K mg) : mg "mirrored" = some (.ref (He.ga K "mirrored")) := by
  obtain ⟨h, X, G⟩ := T.h
  exact He.glo_ok X G (T.c.fact 19 (f := .glo "mirrored") rfl)
theorem g_reduced (T : Top K mg) : mg "reduced" = some (.ref (He.ga K "reduced")) := by
  obtain ⟨h, X, G⟩ := T.h
  exact He.glo_ok X G (T.c.fact 20 (f := .glo "reduced") rfl)
theorem g_reduce_at (T : Top K mg) : mg "reduce_at" = some (.ref (He.ga K "reduce_at")) := by
  obtain ⟨h, X, G⟩ := T.h
  exact He.glo_ok X G (T.c.fact 21 (f := .glo "reduce_at") rfl)
theorem g_start_of (T : Top K mg) : mg "start_of" = some (.ref (He.ga K "start_of")) := by
  obtain ⟨h, X, G⟩ := T.h
  exact He.glo_ok X G (T.c.fact 22 (f := .glo "start_of") rfl)
theorem g_take_off (T : Top K mg) : mg "take_off" = some (.ref (He.ga K "take_off")) := by
  obtain ⟨h, X, G⟩ := T.h
  exact He.glo_ok X G (T.c.fact 23 (f := .glo "take_off") rfl)
theorem g_divided (T : Top K mg) : mg "divided" = some (.ref (He.ga K "divided")) := by
  obtain ⟨h, X, G⟩ := T.h
  exact He.glo_ok X G (T.c.fact 24 (f := .glo "divided") rfl)
theorem g_rest_behind (T : Top K mg) : mg "rest_behind" = some (.ref (He.ga K "rest_behind")) := by
  obtain ⟨h, X, G⟩ := T.h
  exact He.glo_ok X G (T.c.fact 25 (f := .glo "rest_behind") rfl)
theorem g_rest_ahead (T : Top K mg) : mg "rest_ahead" = some (.ref (He.ga K "rest_ahead")) := by
  obtain ⟨h, X, G⟩ := T.h
  exact He.glo_ok X G (T.c.fact 26 (f := .glo "rest_ahead") rfl)
theorem g_is_full (T : Top K mg) : mg "is_full" = some (.ref (He.ga K "is_full")) := by
  obtain ⟨h, X, G⟩ := T.h
  exact He.glo_ok X G (T.c.fact 27 (f := .glo "is_full") rfl)
theorem g_beginnings (T : Top K mg) : mg "beginnings" = some (.ref (He.ga K "beginnings")) := by
  obtain ⟨h, X, G⟩ := T.h
  exact He.glo_ok X G (T.c.fact 28 (f := .glo "beginnings") rfl)
theorem g_unmet (T : Top K mg) : mg "unmet" = some (.ref (He.ga K "unmet")) := by
  obtain ⟨h, X, G⟩ := T.h
  exact He.glo_ok X G (T.c.fact 29 (f := .glo "unmet") rfl)
theorem g_check_alphabet (T : Top K mg) : mg "check_alphabet" = some (.ref (He.ga K "check_alphabet")) := by
  obtain ⟨h, X, G⟩ := T.h
  exact He.glo_ok X G (T.c.fact 30 (f := .glo "check_alphabet") rfl)
theorem g_check_over (T : Top K mg) : mg "check_over" = some (.ref (He.ga K "check_over")) := by
  obtain ⟨h, X, G⟩ := T.h
  exact He.glo_ok X G (T.c.fact 31 (f := .glo "check_over") rfl)
theorem g__law_tape (T : Top K mg) : mg "_law_tape" = some (.ref (He.ga K "_law_tape")) := by
  obtain ⟨h, X, G⟩ := T.h
  exact He.glo_ok X G (T.c.fact 32 (f := .glo "_law_tape") rfl)
theorem g__law_draw (T : Top K mg) : mg "_law_draw" = some (.ref (He.ga K "_law_draw")) := by
  obtain ⟨h, X, G⟩ := T.h
  exact He.glo_ok X G (T.c.fact 33 (f := .glo "_law_draw") rfl)
theorem g__law_clock (T : Top K mg) : mg "_law_clock" = some (.ref (He.ga K "_law_clock")) := by
  obtain ⟨h, X, G⟩ := T.h
  exact He.glo_ok X G (T.c.fact 34 (f := .glo "_law_clock") rfl)
theorem g__law_word (T : Top K mg) : mg "_law_word" = some (.ref (He.ga K "_law_word")) := by
  obtain ⟨h, X, G⟩ := T.h
  exact He.glo_ok X G (T.c.fact 35 (f := .glo "_law_word") rfl)
theorem g__law_some (T : Top K mg) : mg "_law_some" = some (.ref (He.ga K "_law_some")) := by
  obtain ⟨h, X, G⟩ := T.h
  exact He.glo_ok X G (T.c.fact 36 (f := .glo "_law_some") rfl)
theorem g__law_alphabet (T : Top K mg) : mg "_law_alphabet" = some (.ref (He.ga K "_law_alphabet")) := by
  obtain ⟨h, X, G⟩ := T.h
  exact He.glo_ok X G (T.c.fact 37 (f := .glo "_law_alphabet") rfl)
theorem g__law_thing (T : Top K mg) : mg "_law_thing" = some (.ref (He.ga K "_law_thing")) := by
  obtain ⟨h, X, G⟩ := T.h
  exact He.glo_ok X G (T.c.fact 38 (f := .glo "_law_thing") rfl)
theorem g__law_letters_of (T : Top K mg) : mg "_law_letters_of" = some (.ref (He.ga K "_law_letters_of")) := by
  obtain ⟨h, X, G⟩ := T.h
  exact He.glo_ok X G (T.c.fact 39 (f := .glo "_law_letters_of") rfl)
theorem g__law_ask (T : Top K mg) : mg "_law_ask" = some (.ref (He.ga K "_law_ask")) := by
  obtain ⟨h, X, G⟩ := T.h
  exact He.glo_ok X G (T.c.fact 40 (f := .glo "_law_ask") rfl)
theorem g__law_due (T : Top K mg) : mg "_law_due" = some (.ref (He.ga K "_law_due")) := by
  obtain ⟨h, X, G⟩ := T.h
  exact He.glo_ok X G (T.c.fact 41 (f := .glo "_law_due") rfl)
theorem g__law_question (T : Top K mg) : mg "_law_question" = some (.ref (He.ga K "_law_question")) := by
  obtain ⟨h, X, G⟩ := T.h
  exact He.glo_ok X G (T.c.fact 42 (f := .glo "_law_question") rfl)
theorem g_law (T : Top K mg) : mg "law" = some (.ref (He.ga K "law")) := by
  obtain ⟨h, X, G⟩ := T.h
  exact He.glo_ok X G (T.c.fact 43 (f := .glo "law") rfl)
theorem g_BagError (T : Top K mg) : mg "BagError" = some (.ref (He.ga K "BagError")) := by
  obtain ⟨h, X, G⟩ := T.h
  exact He.glo_ok X G (T.c.fact 44 (f := .glo "BagError") rfl)
theorem e_BagError (T : Top K mg) : PySem.W.excIn K (He.ga K "BagError") He.veBase "ValueError.__new__" = true ∧ PySem.W.keepIn K (.ref (He.ga K "BagError")) = true ∧ PySem.W.subIn K (.ref (He.ga K "BagError")) (.type "BaseException") = some true ∧ PySem.W.typeIn K (.ref (He.ga K "BagError")) = some (.type "type") := He.exc_ok (T.c.fact 45 (f := .exc "BagError") rfl)
theorem g_BadBag (T : Top K mg) : mg "BadBag" = some (.ref (He.ga K "BadBag")) := by
  obtain ⟨h, X, G⟩ := T.h
  exact He.glo_ok X G (T.c.fact 46 (f := .glo "BadBag") rfl)
theorem g_UnlikeClocks (T : Top K mg) : mg "UnlikeClocks" = some (.ref (He.ga K "UnlikeClocks")) := by
  obtain ⟨h, X, G⟩ := T.h
  exact He.glo_ok X G (T.c.fact 47 (f := .glo "UnlikeClocks") rfl)
theorem e_UnlikeClocks (T : Top K mg) : PySem.W.excIn K (He.ga K "UnlikeClocks") He.veBase "ValueError.__new__" = true ∧ PySem.W.keepIn K (.ref (He.ga K "UnlikeClocks")) = true ∧ PySem.W.subIn K (.ref (He.ga K "UnlikeClocks")) (.type "BaseException") = some true ∧ PySem.W.typeIn K (.ref (He.ga K "UnlikeClocks")) = some (.type "type") := He.exc_ok (T.c.fact 48 (f := .exc "UnlikeClocks") rfl)
theorem g_NoNumber (T : Top K mg) : mg "NoNumber" = some (.ref (He.ga K "NoNumber")) := by
  obtain ⟨h, X, G⟩ := T.h
  exact He.glo_ok X G (T.c.fact 49 (f := .glo "NoNumber") rfl)
theorem e_NoNumber (T : Top K mg) : PySem.W.excIn K (He.ga K "NoNumber") He.veBase "ValueError.__new__" = true ∧ PySem.W.keepIn K (.ref (He.ga K "NoNumber")) = true ∧ PySem.W.subIn K (.ref (He.ga K "NoNumber")) (.type "BaseException") = some true ∧ PySem.W.typeIn K (.ref (He.ga K "NoNumber")) = some (.type "type") := He.exc_ok (T.c.fact 50 (f := .exc "NoNumber") rfl)
theorem g_IsNothing (T : Top K mg) : mg "IsNothing" = some (.ref (He.ga K "IsNothing")) := by
  obtain ⟨h, X, G⟩ := T.h
  exact He.glo_ok X G (T.c.fact 51 (f := .glo "IsNothing") rfl)
theorem e_IsNothing (T : Top K mg) : PySem.W.excIn K (He.ga K "IsNothing") He.veBase "ValueError.__new__" = true ∧ PySem.W.keepIn K (.ref (He.ga K "IsNothing")) = true ∧ PySem.W.subIn K (.ref (He.ga K "IsNothing")) (.type "BaseException") = some true ∧ PySem.W.typeIn K (.ref (He.ga K "IsNothing")) = some (.type "type") := He.exc_ok (T.c.fact 52 (f := .exc "IsNothing") rfl)
theorem g_NoAlphabet (T : Top K mg) : mg "NoAlphabet" = some (.ref (He.ga K "NoAlphabet")) := by
  obtain ⟨h, X, G⟩ := T.h
  exact He.glo_ok X G (T.c.fact 53 (f := .glo "NoAlphabet") rfl)
theorem e_NoAlphabet (T : Top K mg) : PySem.W.excIn K (He.ga K "NoAlphabet") He.veBase "ValueError.__new__" = true ∧ PySem.W.keepIn K (.ref (He.ga K "NoAlphabet")) = true ∧ PySem.W.subIn K (.ref (He.ga K "NoAlphabet")) (.type "BaseException") = some true ∧ PySem.W.typeIn K (.ref (He.ga K "NoAlphabet")) = some (.type "type") := He.exc_ok (T.c.fact 54 (f := .exc "NoAlphabet") rfl)
theorem g_NoLetters (T : Top K mg) : mg "NoLetters" = some (.ref (He.ga K "NoLetters")) := by
  obtain ⟨h, X, G⟩ := T.h
  exact He.glo_ok X G (T.c.fact 55 (f := .glo "NoLetters") rfl)
theorem e_NoLetters (T : Top K mg) : PySem.W.excIn K (He.ga K "NoLetters") He.veBase "ValueError.__new__" = true ∧ PySem.W.keepIn K (.ref (He.ga K "NoLetters")) = true ∧ PySem.W.subIn K (.ref (He.ga K "NoLetters")) (.type "BaseException") = some true ∧ PySem.W.typeIn K (.ref (He.ga K "NoLetters")) = some (.type "type") := He.exc_ok (T.c.fact 56 (f := .exc "NoLetters") rfl)
theorem g_Bag (T : Top K mg) : mg "Bag" = some (.ref (He.ga K "Bag")) := by
  obtain ⟨h, X, G⟩ := T.h
  exact He.glo_ok X G (T.c.fact 57 (f := .glo "Bag") rfl)
theorem cls_Bag (T : Top K mg) : Cls K (He.ga K "Bag") := He.cls_ok (T.c.fact 58 (f := .cls "Bag") rfl)
theorem mk_Bag (T : Top K mg) : Mk K (He.ga K "Bag") (He.ma K (He.ga K "Bag") "__init__") := He.mkr_ok (T.c.fact 59 (f := .mkr "Bag") rfl)
theorem m_Bag___eq__ (T : Top K mg) : Meth K (He.ga K "Bag") "__eq__" (He.ma K (He.ga K "Bag") "__eq__") := He.meth_ok (T.c.fact 60 (f := .meth "Bag" "__eq__") rfl)
theorem na_Bag_clock (T : Top K mg) : NoAttr K (He.ga K "Bag") "clock" := He.noat_ok (T.c.fact 61 (f := .noat "Bag" "clock") rfl)
theorem na_Bag_words (T : Top K mg) : NoAttr K (He.ga K "Bag") "words" := He.noat_ok (T.c.fact 62 (f := .noat "Bag" "words") rfl)
theorem g_CLOCKS (T : Top K mg) : mg "CLOCKS" = some (.ref (He.ga K "CLOCKS")) := by
  obtain ⟨h, X, G⟩ := T.h
  exact He.glo_ok X G (T.c.fact 63 (f := .glo "CLOCKS") rfl)
theorem t_LETTERS (T : Top K mg) : ∃ t, mg "LETTERS" = some (.str "xyz" t) := by
  obtain ⟨h, X, G⟩ := T.h
  exact He.str_ok X G (T.c.fact 64 (f := .str "LETTERS" "xyz") rfl)
theorem i_MOST_WORDS (T : Top K mg) : ∃ t, mg "MOST_WORDS" = some (.int 300 t) := by
  obtain ⟨h, X, G⟩ := T.h
  exact He.int_ok X G (T.c.fact 65 (f := .int "MOST_WORDS" 300) rfl)
theorem i_MOST_LETTERS_bags (T : Top K mg) : ∃ t, mg "MOST_LETTERS_bags" = some (.int 12 t) := by
  obtain ⟨h, X, G⟩ := T.h
  exact He.int_ok X G (T.c.fact 66 (f := .int "MOST_LETTERS_bags" 12) rfl)
theorem g_ALPHABETS (T : Top K mg) : mg "ALPHABETS" = some (.ref (He.ga K "ALPHABETS")) := by
  obtain ⟨h, X, G⟩ := T.h
  exact He.glo_ok X G (T.c.fact 67 (f := .glo "ALPHABETS") rfl)
theorem i_MOST_LETTERS_starts (T : Top K mg) : ∃ t, mg "MOST_LETTERS_starts" = some (.int 12 t) := by
  obtain ⟨h, X, G⟩ := T.h
  exact He.int_ok X G (T.c.fact 68 (f := .int "MOST_LETTERS_starts" 12) rfl)
theorem f_ValueError (T : Top K mg) : mg "ValueError" = none := by
  obtain ⟨h, X, G⟩ := T.h
  exact He.free_ok X G (T.c.fact 69 (f := .free "ValueError") rfl)
theorem f_all (T : Top K mg) : mg "all" = none := by
  obtain ⟨h, X, G⟩ := T.h
  exact He.free_ok X G (T.c.fact 70 (f := .free "all") rfl)
theorem f_bool (T : Top K mg) : mg "bool" = none := by
  obtain ⟨h, X, G⟩ := T.h
  exact He.free_ok X G (T.c.fact 71 (f := .free "bool") rfl)
theorem f_dict (T : Top K mg) : mg "dict" = none := by
  obtain ⟨h, X, G⟩ := T.h
  exact He.free_ok X G (T.c.fact 72 (f := .free "dict") rfl)
theorem f_int (T : Top K mg) : mg "int" = none := by
  obtain ⟨h, X, G⟩ := T.h
  exact He.free_ok X G (T.c.fact 73 (f := .free "int") rfl)
theorem f_isinstance (T : Top K mg) : mg "isinstance" = none := by
  obtain ⟨h, X, G⟩ := T.h
  exact He.free_ok X G (T.c.fact 74 (f := .free "isinstance") rfl)
theorem f_len (T : Top K mg) : mg "len" = none := by
  obtain ⟨h, X, G⟩ := T.h
  exact He.free_ok X G (T.c.fact 75 (f := .free "len") rfl)
theorem f_list (T : Top K mg) : mg "list" = none := by
  obtain ⟨h, X, G⟩ := T.h
  exact He.free_ok X G (T.c.fact 76 (f := .free "list") rfl)
theorem f_max (T : Top K mg) : mg "max" = none := by
  obtain ⟨h, X, G⟩ := T.h
  exact He.free_ok X G (T.c.fact 77 (f := .free "max") rfl)
theorem f_min (T : Top K mg) : mg "min" = none := by
  obtain ⟨h, X, G⟩ := T.h
  exact He.free_ok X G (T.c.fact 78 (f := .free "min") rfl)
theorem f_range (T : Top K mg) : mg "range" = none := by
  obtain ⟨h, X, G⟩ := T.h
  exact He.free_ok X G (T.c.fact 79 (f := .free "range") rfl)
theorem f_reversed (T : Top K mg) : mg "reversed" = none := by
  obtain ⟨h, X, G⟩ := T.h
  exact He.free_ok X G (T.c.fact 80 (f := .free "reversed") rfl)
theorem f_set (T : Top K mg) : mg "set" = none := by
  obtain ⟨h, X, G⟩ := T.h
  exact He.free_ok X G (T.c.fact 81 (f := .free "set") rfl)
theorem f_sorted (T : Top K mg) : mg "sorted" = none := by
  obtain ⟨h, X, G⟩ := T.h
  exact He.free_ok X G (T.c.fact 82 (f := .free "sorted") rfl)
theorem f_str (T : Top K mg) : mg "str" = none := by
  obtain ⟨h, X, G⟩ := T.h
  exact He.free_ok X G (T.c.fact 83 (f := .free "str") rfl)
theorem f_tuple (T : Top K mg) : mg "tuple" = none := by
  obtain ⟨h, X, G⟩ := T.h
  exact He.free_ok X G (T.c.fact 84 (f := .free "tuple") rfl)
theorem f_zip (T : Top K mg) : mg "zip" = none := by
  obtain ⟨h, X, G⟩ := T.h
  exact He.free_ok X G (T.c.fact 85 (f := .free "zip") rfl)
theorem g_INVERSES (T : Top K mg) : mg "INVERSES" = some (.ref (He.ga K "INVERSES")) := by
  obtain ⟨h, X, G⟩ := T.h
  exact He.glo_ok X G (T.c.fact 86 (f := .glo "INVERSES") rfl)
theorem fn_BadBag__init__ (T : Top K mg) : ∃ fd, FnP K "__init__" "BadBag.__init__" s_BadBag__init__ (He.fAd K ("BadBag", some "__init__")) fd := T.c.def_ 0 (d := d_BadBag__init__) rfl
theorem fn_is_integer (T : Top K mg) : ∃ fd, FnP K "is_integer" "is_integer" s_is_integer (He.fAd K ("is_integer", none)) fd := T.c.def_ 1 (d := d_is_integer) rfl
theorem fn_is_from_to (T : Top K mg) : ∃ fd, FnP K "is_from_to" "is_from_to" s_is_from_to (He.fAd K ("is_from_to", none)) fd := T.c.def_ 2 (d := d_is_from_to) rfl
theorem fn_is_clock (T : Top K mg) : ∃ fd, FnP K "is_clock" "is_clock" s_is_clock (He.fAd K ("is_clock", none)) fd := T.c.def_ 3 (d := d_is_clock) rfl
theorem fn_is_word (T : Top K mg) : ∃ fd, FnP K "is_word" "is_word" s_is_word (He.fAd K ("is_word", none)) fd := T.c.def_ 4 (d := d_is_word) rfl
theorem fn_inverse (T : Top K mg) : ∃ fd, FnP K "inverse" "inverse" s_inverse (He.fAd K ("inverse", none)) fd := T.c.def_ 5 (d := d_inverse) rfl
theorem fn_rank_of (T : Top K mg) : ∃ fd, FnP K "rank_of" "rank_of" s_rank_of (He.fAd K ("rank_of", none)) fd := T.c.def_ 6 (d := d_rank_of) rfl
theorem fn_first_word (T : Top K mg) : ∃ fd, FnP K "first_word" "first_word" s_first_word (He.fAd K ("first_word", none)) fd := T.c.def_ 7 (d := d_first_word) rfl
theorem fn_tidied (T : Top K mg) : ∃ fd, FnP K "tidied" "tidied" s_tidied (He.fAd K ("tidied", none)) fd := T.c.def_ 8 (d := d_tidied) rfl
theorem fn_scaled (T : Top K mg) : ∃ fd, FnP K "scaled" "scaled" s_scaled (He.fAd K ("scaled", none)) fd := T.c.def_ 9 (d := d_scaled) rfl
theorem fn_added (T : Top K mg) : ∃ fd, FnP K "added" "added" s_added (He.fAd K ("added", none)) fd := T.c.def_ 10 (d := d_added) rfl
theorem fn_Bag__init__ (T : Top K mg) : ∃ fd, FnP K "__init__" "Bag.__init__" s_Bag__init__ (He.fAd K ("Bag", some "__init__")) fd := T.c.def_ 11 (d := d_Bag__init__) rfl
theorem fn_Bag__eq__ (T : Top K mg) : ∃ fd, FnP K "__eq__" "Bag.__eq__" s_Bag__eq__ (He.fAd K ("Bag", some "__eq__")) fd := T.c.def_ 12 (d := d_Bag__eq__) rfl
theorem fn_are_words (T : Top K mg) : ∃ fd, FnP K "are_words" "are_words" s_are_words (He.fAd K ("are_words", none)) fd := T.c.def_ 13 (d := d_are_words) rfl
theorem fn_is_short_word (T : Top K mg) : ∃ fd, FnP K "is_short_word" "is_short_word" s_is_short_word (He.fAd K ("is_short_word", none)) fd := T.c.def_ 14 (d := d_is_short_word) rfl
theorem fn_pairs_of (T : Top K mg) : ∃ fd, FnP K "pairs_of" "pairs_of" s_pairs_of (He.fAd K ("pairs_of", none)) fd := T.c.def_ 15 (d := d_pairs_of) rfl
theorem fn_bag_of (T : Top K mg) : ∃ fd, FnP K "bag_of" "bag_of" s_bag_of (He.fAd K ("bag_of", none)) fd := T.c.def_ 16 (d := d_bag_of) rfl
theorem fn_table_of (T : Top K mg) : ∃ fd, FnP K "table_of" "table_of" s_table_of (He.fAd K ("table_of", none)) fd := T.c.def_ 17 (d := d_table_of) rfl
theorem fn_has_only (T : Top K mg) : ∃ fd, FnP K "has_only" "has_only" s_has_only (He.fAd K ("has_only", none)) fd := T.c.def_ 18 (d := d_has_only) rfl
theorem fn_check_clocks (T : Top K mg) : ∃ fd, FnP K "check_clocks" "check_clocks" s_check_clocks (He.fAd K ("check_clocks", none)) fd := T.c.def_ 19 (d := d_check_clocks) rfl
theorem fn_check_something (T : Top K mg) : ∃ fd, FnP K "check_something" "check_something" s_check_something (He.fAd K ("check_something", none)) fd := T.c.def_ 20 (d := d_check_something) rfl
theorem fn_less (T : Top K mg) : ∃ fd, FnP K "less" "less" s_less (He.fAd K ("less", none)) fd := T.c.def_ 21 (d := d_less) rfl
theorem fn_mirrored (T : Top K mg) : ∃ fd, FnP K "mirrored" "mirrored" s_mirrored (He.fAd K ("mirrored", none)) fd := T.c.def_ 22 (d := d_mirrored) rfl
theorem fn_reduced (T : Top K mg) : ∃ fd, FnP K "reduced" "reduced" s_reduced (He.fAd K ("reduced", none)) fd := T.c.def_ 23 (d := d_reduced) rfl
theorem fn_reduce_at (T : Top K mg) : ∃ fd, FnP K "reduce_at" "reduce_at" s_reduce_at (He.fAd K ("reduce_at", none)) fd := T.c.def_ 24 (d := d_reduce_at) rfl
theorem fn_start_of (T : Top K mg) : ∃ fd, FnP K "start_of" "start_of" s_start_of (He.fAd K ("start_of", none)) fd := T.c.def_ 25 (d := d_start_of) rfl
theorem fn_take_off (T : Top K mg) : ∃ fd, FnP K "take_off" "take_off" s_take_off (He.fAd K ("take_off", none)) fd := T.c.def_ 26 (d := d_take_off) rfl
theorem fn_divided (T : Top K mg) : ∃ fd, FnP K "divided" "divided" s_divided (He.fAd K ("divided", none)) fd := T.c.def_ 27 (d := d_divided) rfl
theorem fn_rest_behind (T : Top K mg) : ∃ fd, FnP K "rest_behind" "rest_behind" s_rest_behind (He.fAd K ("rest_behind", none)) fd := T.c.def_ 28 (d := d_rest_behind) rfl
theorem fn_rest_ahead (T : Top K mg) : ∃ fd, FnP K "rest_ahead" "rest_ahead" s_rest_ahead (He.fAd K ("rest_ahead", none)) fd := T.c.def_ 29 (d := d_rest_ahead) rfl
theorem fn_is_full (T : Top K mg) : ∃ fd, FnP K "is_full" "is_full" s_is_full (He.fAd K ("is_full", none)) fd := T.c.def_ 30 (d := d_is_full) rfl
theorem fn_beginnings (T : Top K mg) : ∃ fd, FnP K "beginnings" "beginnings" s_beginnings (He.fAd K ("beginnings", none)) fd := T.c.def_ 31 (d := d_beginnings) rfl
theorem fn_unmet (T : Top K mg) : ∃ fd, FnP K "unmet" "unmet" s_unmet (He.fAd K ("unmet", none)) fd := T.c.def_ 32 (d := d_unmet) rfl
theorem fn_check_alphabet (T : Top K mg) : ∃ fd, FnP K "check_alphabet" "check_alphabet" s_check_alphabet (He.fAd K ("check_alphabet", none)) fd := T.c.def_ 33 (d := d_check_alphabet) rfl
theorem fn_check_over (T : Top K mg) : ∃ fd, FnP K "check_over" "check_over" s_check_over (He.fAd K ("check_over", none)) fd := T.c.def_ 34 (d := d_check_over) rfl
theorem fn__law_tape (T : Top K mg) : ∃ fd, FnP K "_law_tape" "_law_tape" s__law_tape (He.fAd K ("_law_tape", none)) fd := T.c.def_ 35 (d := d__law_tape) rfl
theorem fn__law_draw (T : Top K mg) : ∃ fd, FnP K "_law_draw" "_law_draw" s__law_draw (He.fAd K ("_law_draw", none)) fd := T.c.def_ 36 (d := d__law_draw) rfl
theorem fn__law_clock (T : Top K mg) : ∃ fd, FnP K "_law_clock" "_law_clock" s__law_clock (He.fAd K ("_law_clock", none)) fd := T.c.def_ 37 (d := d__law_clock) rfl
theorem fn__law_word (T : Top K mg) : ∃ fd, FnP K "_law_word" "_law_word" s__law_word (He.fAd K ("_law_word", none)) fd := T.c.def_ 38 (d := d__law_word) rfl
theorem fn__law_some (T : Top K mg) : ∃ fd, FnP K "_law_some" "_law_some" s__law_some (He.fAd K ("_law_some", none)) fd := T.c.def_ 39 (d := d__law_some) rfl
theorem fn__law_alphabet (T : Top K mg) : ∃ fd, FnP K "_law_alphabet" "_law_alphabet" s__law_alphabet (He.fAd K ("_law_alphabet", none)) fd := T.c.def_ 40 (d := d__law_alphabet) rfl
theorem fn__law_thing (T : Top K mg) : ∃ fd, FnP K "_law_thing" "_law_thing" s__law_thing (He.fAd K ("_law_thing", none)) fd := T.c.def_ 41 (d := d__law_thing) rfl
theorem fn__law_letters_of (T : Top K mg) : ∃ fd, FnP K "_law_letters_of" "_law_letters_of" s__law_letters_of (He.fAd K ("_law_letters_of", none)) fd := T.c.def_ 42 (d := d__law_letters_of) rfl
theorem fn__law_ask (T : Top K mg) : ∃ fd, FnP K "_law_ask" "_law_ask" s__law_ask (He.fAd K ("_law_ask", none)) fd := T.c.def_ 43 (d := d__law_ask) rfl
theorem fn__law_due (T : Top K mg) : ∃ fd, FnP K "_law_due" "_law_due" s__law_due (He.fAd K ("_law_due", none)) fd := T.c.def_ 44 (d := d__law_due) rfl
theorem fn__law_question (T : Top K mg) : ∃ fd, FnP K "_law_question" "_law_question" s__law_question (He.fAd K ("_law_question", none)) fd := T.c.def_ 45 (d := d__law_question) rfl
theorem fn_law (T : Top K mg) : ∃ fd, FnP K "law" "law" s_law (He.fAd K ("law", none)) fd := T.c.def_ 46 (d := d_law) rfl
theorem x_CLOCKS (T : Top K mg) (H : Hp) : SqT K H (He.ga K "CLOCKS") [.int 2, .int 3, .int 5, .int 7] := He.tupB_ok (T.x 0) H
theorem x_ALPHABETS (T : Top K mg) (H : Hp) : SqT K H (He.ga K "ALPHABETS") [.str "xy", .str "xyz"] := He.tupB_ok (T.x 1) H
theorem x_class (T : Top K mg) : PySem.W.findIn K (.ref (He.ga K "Bag")) "__class__" = some (some (.builtin "object.__class__")) := of_decide_eq_true (T.x 2)
theorem x_get (T : Top K mg) : PySem.W.specialIn K (.builtin "object.__class__") "__get__" = some (some (.builtin "getset_descriptor.__get__")) := of_decide_eq_true (T.x 3)
theorem x_takes (T : Top K mg) : PySem.W.takesIn K (.builtin "object.__class__") = some true := of_decide_eq_true (T.x 4)
theorem x_mro (T : Top K mg) : PySem.W.mroIn K (He.ga K "Bag") (.type "object") = some true := of_decide_eq_true (T.x 5)
theorem x_ne (T : Top K mg) : PySem.W.findIn K (.ref (He.ga K "Bag")) "__ne__" = some (some (.builtin "object.__ne__")) := of_decide_eq_true (T.x 6)
theorem x_is (T : Top K mg) : PySem.W.kitOne K (.ref (He.ga K "Bag")) (.ref (He.ga K "Bag")) = some true := of_decide_eq_true (T.x 7)
theorem x_nf_NoneType (T : Top K mg) : PySem.W.notFirst K (He.ga K "Bag") (.type "NoneType") = true := T.x 8
theorem x_no_NoneType (T : Top K mg) : PySem.W.kitOne K (.type "NoneType") (.ref (He.ga K "Bag")) = some false := of_decide_eq_true (T.x 9)
theorem x_nf_int (T : Top K mg) : PySem.W.notFirst K (He.ga K "Bag") (.type "int") = true := T.x 10
theorem x_no_int (T : Top K mg) : PySem.W.kitOne K (.type "int") (.ref (He.ga K "Bag")) = some false := of_decide_eq_true (T.x 11)
theorem x_nf_bool (T : Top K mg) : PySem.W.notFirst K (He.ga K "Bag") (.type "bool") = true := T.x 12
theorem x_no_bool (T : Top K mg) : PySem.W.kitOne K (.type "bool") (.ref (He.ga K "Bag")) = some false := of_decide_eq_true (T.x 13)
theorem x_nf_str (T : Top K mg) : PySem.W.notFirst K (He.ga K "Bag") (.type "str") = true := T.x 14
theorem x_no_str (T : Top K mg) : PySem.W.kitOne K (.type "str") (.ref (He.ga K "Bag")) = some false := of_decide_eq_true (T.x 15)
theorem x_nf_dict (T : Top K mg) : PySem.W.notFirst K (He.ga K "Bag") (.type "dict") = true := T.x 16
theorem x_no_dict (T : Top K mg) : PySem.W.kitOne K (.type "dict") (.ref (He.ga K "Bag")) = some false := of_decide_eq_true (T.x 17)
theorem x_nf_list (T : Top K mg) : PySem.W.notFirst K (He.ga K "Bag") (.type "list") = true := T.x 18
theorem x_no_list (T : Top K mg) : PySem.W.kitOne K (.type "list") (.ref (He.ga K "Bag")) = some false := of_decide_eq_true (T.x 19)
theorem x_nf_tuple (T : Top K mg) : PySem.W.notFirst K (He.ga K "Bag") (.type "tuple") = true := T.x 20
theorem x_no_tuple (T : Top K mg) : PySem.W.kitOne K (.type "tuple") (.ref (He.ga K "Bag")) = some false := of_decide_eq_true (T.x 21)
theorem xm_BagError (T : Top K mg) : PySem.W.exmOne K (.ref (He.ga K "BagError")) (.ref (He.ga K "BagError")) = some true := of_decide_eq_true (T.x 26)
theorem xm_UnlikeClocks (T : Top K mg) : PySem.W.exmOne K (.ref (He.ga K "UnlikeClocks")) (.ref (He.ga K "UnlikeClocks")) = some true := of_decide_eq_true (T.x 27)
theorem xm_NoNumber (T : Top K mg) : PySem.W.exmOne K (.ref (He.ga K "NoNumber")) (.ref (He.ga K "NoNumber")) = some true := of_decide_eq_true (T.x 28)
theorem xm_IsNothing (T : Top K mg) : PySem.W.exmOne K (.ref (He.ga K "IsNothing")) (.ref (He.ga K "IsNothing")) = some true := of_decide_eq_true (T.x 29)
theorem xm_NoAlphabet (T : Top K mg) : PySem.W.exmOne K (.ref (He.ga K "NoAlphabet")) (.ref (He.ga K "NoAlphabet")) = some true := of_decide_eq_true (T.x 30)
theorem xm_NoLetters (T : Top K mg) : PySem.W.exmOne K (.ref (He.ga K "NoLetters")) (.ref (He.ga K "NoLetters")) = some true := of_decide_eq_true (T.x 31)
theorem w_INVERSES (T : Top K mg) : wdB K (He.ga K "INVERSES") [(2, [0, 1]), (3, [0, 1, 2]), (5, [0, 1, 3, 2, 4]), (7, [0, 1, 4, 5, 2, 3, 6])] = true := T.x 22
theorem hq_heapify (T : Top K mg) : mg "heapify" = some (.builtin "_heapq.heapify") := by
  obtain ⟨h, X, G⟩ := T.h
  exact PySem.W.mg_of X G (of_decide_eq_true (T.x 23))
theorem hq_heappop (T : Top K mg) : mg "heappop" = some (.builtin "_heapq.heappop") := by
  obtain ⟨h, X, G⟩ := T.h
  exact PySem.W.mg_of X G (of_decide_eq_true (T.x 24))
theorem hq_heappush (T : Top K mg) : mg "heappush" = some (.builtin "_heapq.heappush") := by
  obtain ⟨h, X, G⟩ := T.h
  exact PySem.W.mg_of X G (of_decide_eq_true (T.x 25))
theorem xc_BadBag (T : Top K mg) : ExcC K (He.ga K "BadBag") := excCB_ok (T.x 32)
theorem xc_NoAlphabet (T : Top K mg) : ExcC K (He.ga K "NoAlphabet") := excCB_ok (T.x 33)
theorem xc_NoLetters (T : Top K mg) : ExcC K (He.ga K "NoLetters") := excCB_ok (T.x 34)
theorem xc_NoNumber (T : Top K mg) : ExcC K (He.ga K "NoNumber") := excCB_ok (T.x 35)
theorem xo_BadBag (T : Top K mg) : OexC K (He.ga K "BadBag") := oexB_ok (T.x 36)
theorem xi_BadBag (T : Top K mg) : PySem.W.findIn K (.ref (He.ga K "BadBag")) "__init__" = some (some (.ref (He.ma K (He.ga K "BadBag") "__init__"))) := of_decide_eq_true (T.x 37)
theorem xt_BadBag (T : Top K mg) : PySem.W.typeIn K (.ref (He.ma K (He.ga K "BadBag") "__init__")) = some (.type "function") := of_decide_eq_true (T.x 38)
theorem xp_BadBag (T : Top K mg) : PySem.W.findIn K (.ref (He.ga K "BadBag")) "part" = some none := of_decide_eq_true (T.x 39)
theorem xb_BadBag (T : Top K mg) : PySem.W.kitOne K (.ref (He.ga K "BadBag")) (.ref (He.ga K "Bag")) = some false := of_decide_eq_true (T.x 40)
theorem xs_BadBag (T : Top K mg) : PySem.W.kitOne K (.ref (He.ga K "BadBag")) (.type "str") = some false := of_decide_eq_true (T.x 41)
theorem xq_BadBag (T : Top K mg) : PySem.W.findIn K (.ref (He.ga K "BadBag")) "__eq__" = some (some (.builtin "object.__eq__")) := of_decide_eq_true (T.x 42)
theorem xu_BadBag (T : Top K mg) : PySem.W.subIn K (.ref (He.ga K "BadBag")) (.type "str") = some false := of_decide_eq_true (T.x 43)
theorem xu_Bag (T : Top K mg) : PySem.W.subIn K (.ref (He.ga K "Bag")) (.type "str") = some false := of_decide_eq_true (T.x 44)
theorem xs_Bag (T : Top K mg) : PySem.W.kitOne K (.ref (He.ga K "Bag")) (.type "str") = some false := of_decide_eq_true (T.x 45)
theorem xk_NoAlphabet_NoAlphabet (T : Top K mg) : PySem.W.kitOne K (.ref (He.ga K "NoAlphabet")) (.ref (He.ga K "NoAlphabet")) = some true := of_decide_eq_true (T.x 46)
theorem xk_NoAlphabet_NoLetters (T : Top K mg) : PySem.W.kitOne K (.ref (He.ga K "NoAlphabet")) (.ref (He.ga K "NoLetters")) = some false := of_decide_eq_true (T.x 47)
theorem xk_NoAlphabet_NoNumber (T : Top K mg) : PySem.W.kitOne K (.ref (He.ga K "NoAlphabet")) (.ref (He.ga K "NoNumber")) = some false := of_decide_eq_true (T.x 48)
theorem xv_NoAlphabet (T : Top K mg) : PySem.W.kitOne K (.ref (He.ga K "NoAlphabet")) (.type "ValueError") = some true := of_decide_eq_true (T.x 49)
theorem xe_NoAlphabet (T : Top K mg) : PySem.W.exmOne K (.ref (He.ga K "NoAlphabet")) (.ref (He.ga K "BagError")) = some true := of_decide_eq_true (T.x 50)
theorem xk_NoLetters_NoAlphabet (T : Top K mg) : PySem.W.kitOne K (.ref (He.ga K "NoLetters")) (.ref (He.ga K "NoAlphabet")) = some false := of_decide_eq_true (T.x 51)
theorem xk_NoLetters_NoLetters (T : Top K mg) : PySem.W.kitOne K (.ref (He.ga K "NoLetters")) (.ref (He.ga K "NoLetters")) = some true := of_decide_eq_true (T.x 52)
theorem xk_NoLetters_NoNumber (T : Top K mg) : PySem.W.kitOne K (.ref (He.ga K "NoLetters")) (.ref (He.ga K "NoNumber")) = some false := of_decide_eq_true (T.x 53)
theorem xv_NoLetters (T : Top K mg) : PySem.W.kitOne K (.ref (He.ga K "NoLetters")) (.type "ValueError") = some true := of_decide_eq_true (T.x 54)
theorem xe_NoLetters (T : Top K mg) : PySem.W.exmOne K (.ref (He.ga K "NoLetters")) (.ref (He.ga K "BagError")) = some true := of_decide_eq_true (T.x 55)
theorem xk_NoNumber_NoAlphabet (T : Top K mg) : PySem.W.kitOne K (.ref (He.ga K "NoNumber")) (.ref (He.ga K "NoAlphabet")) = some false := of_decide_eq_true (T.x 56)
theorem xk_NoNumber_NoLetters (T : Top K mg) : PySem.W.kitOne K (.ref (He.ga K "NoNumber")) (.ref (He.ga K "NoLetters")) = some false := of_decide_eq_true (T.x 57)
theorem xk_NoNumber_NoNumber (T : Top K mg) : PySem.W.kitOne K (.ref (He.ga K "NoNumber")) (.ref (He.ga K "NoNumber")) = some true := of_decide_eq_true (T.x 58)
theorem xv_NoNumber (T : Top K mg) : PySem.W.kitOne K (.ref (He.ga K "NoNumber")) (.type "ValueError") = some true := of_decide_eq_true (T.x 59)
theorem xe_NoNumber (T : Top K mg) : PySem.W.exmOne K (.ref (He.ga K "NoNumber")) (.ref (He.ga K "BagError")) = some true := of_decide_eq_true (T.x 60)
end
end Fp

set_option Elab.async false
set_option linter.all false
set_option maxRecDepth 100000
set_option maxHeartbeats 2000000
namespace Fp
open PySem PySem.Spec PyProof.Rows L2
/-! ### words -/
def xyz (w : Str) : Prop := ∀ c ∈ w.cps.toList, c = 120 ∨ c = 121 ∨ c = 122
theorem tw_self {g : Nat → Bool} : ∀ {l : List Nat}, (∀ c ∈ l, g c = true) → l.takeWhile g = l
  | [], _ => rfl
  | c :: r, h => by
    rw [List.takeWhile_cons, if_pos (h c List.mem_cons_self), tw_self fun d hd => h d (List.mem_cons_of_mem _ hd)]
theorem strip_xyz {w : Str} (h : xyz w) : PySem.Txt.stripChars w "xyz" = (Str.ofString "") := by
  have hg : ∀ c ∈ w.cps.toList, (("xyz" : Str).cps.contains c) = true := fun c hc => by
    rcases h c hc with e | e | e <;> subst e <;> decide +kernel
  have ht : w.cps.toList.takeWhile ("xyz" : Str).cps.contains = w.cps.toList := tw_self hg
  have hlo : stripLo ("xyz" : Str).cps.contains true w = w.cps.toList.length := by
    unfold stripLo
    rw [if_pos rfl, ht]
  have hsz : w.length = w.cps.toList.length := by simp [Str.length]
  unfold PySem.Txt.stripChars PySem.Txt.stripBy
  cases e : stripSame ("xyz" : Str).cps.contains true true w with
  | true =>
    rw [if_pos rfl]
    unfold stripSame at e
    rw [hlo] at e
    simp only [Bool.and_eq_true, beq_iff_eq] at e
    have e0 : w.cps.toList = [] := List.length_eq_zero_iff.mp e.1
    obtain ⟨a⟩ := w
    have : a = #[] := by simpa using e0
    subst this
    rfl
  | false =>
    rw [if_neg Bool.false_ne_true]
    unfold stripped
    rw [hlo]
    have hhi : stripHi ("xyz" : Str).cps.contains true w w.cps.toList.length = w.length := by
      unfold stripHi
      rw [if_pos rfl, List.drop_length]
      simp
    rw [hhi, hsz]
    unfold Builtin.Str.strSub
    simp
    rfl
section
variable {P : Program} {w : World} {K : PySem.W.Frag} {mg : Str → Option Value} {base : Heap}
/-! ### kinds -/
def spInt : Sp := fun vs H Q _ => ∃ i : Int, vs = [.int i] ∧ Q (.bl true) H
theorem sc_is_integer : FnScope ["thing"] ["thing"] (defScope s_is_integer) := ⟨rfl, rfl, rfl, by decide +kernel, rfl, by decide +kernel, by decide +kernel⟩
theorem ok_is_integer (T : Top K mg) : Ok P w K mg base 1 "is_integer" ["thing"] spInt := by
  obtain ⟨fd, F⟩ := fn_is_integer T
  refine ⟨⟨fd, ?_, F.bindsN fun _ _ _ _ _ _ us hl => match us, hl with | [_], _ => rfl⟩, g_is_integer T, F.kp⟩
  refine F.ok sc_is_integer (fun vs H Q E h => ?_) (fun cdv A outer s H vs Q E hr h => ?_)
  · obtain ⟨i, rfl, _⟩ := h
    rfl
  · obtain ⟨i, rfl, q⟩ := h
    refine ⟨_, PSs.nox (pss_one (ps_ret (pe_and (pe_callB call_isi (by rfl) (f_isinstance T) (by decide +kernel) (pa_cons (pv 0) (pa_cons (pe_bltn (v := .ty "int") (by rfl) (f_int T) boot_int rfl) pa_nil)))
      (pe_one (pe_not (pe_callB call_isi (by rfl) (f_isinstance T) (by decide +kernel) (pa_cons (pv 0) (pa_cons (pe_bltn (v := .ty "bool") (by rfl) (f_bool T) (by decide +kernel) rfl) pa_nil)))))))), ?_⟩
    refine ⟨_, rfl, .int i, _, _, _, true, rfl, .ty "int", .base (.int i), kit_ty (by decide +kernel), true, rfl, iteT ?_⟩
    exact ⟨_, rfl, .int i, _, _, _, false, rfl, .ty "bool", .base (.int i), kit_ty (by decide +kernel), false, rfl, q⟩
def spFromTo : Sp := fun vs H Q _ => ∃ i lo hi : Int, vs = [.int i, .int lo, .int hi] ∧ Q (.bl (decide (lo ≤ i) && decide (i ≤ hi))) H
theorem sc_is_from_to : FnScope ["thing", "low", "high"] ["thing", "low", "high"] (defScope s_is_from_to) := ⟨rfl, rfl, rfl, by decide +kernel, rfl, by decide +kernel, by decide +kernel⟩
theorem ok_is_from_to (T : Top K mg) : Ok P w K mg base 2 "is_from_to" ["thing", "low", "high"] spFromTo := by
  obtain ⟨fd, F⟩ := fn_is_from_to T
  refine ⟨⟨fd, ?_, F.bindsN fun _ _ _ _ _ _ us hl => match us, hl with | [_, _, _], _ => rfl⟩, g_is_from_to T, F.kp⟩
  refine F.ok sc_is_from_to (fun vs H Q E h => ?_) (fun cdv A outer s H vs Q E hr h => ?_)
  · obtain ⟨i, lo, hi, rfl, _⟩ := h
    rfl
  · obtain ⟨i, lo, hi, rfl, q⟩ := h
    refine ⟨_, PSs.nox (pss_one (ps_ret (pe_and (pc (ok_is_integer T) hr (pa_cons (pv 0) pa_nil)) (pe_one (pe_chain op_le op_le (pv 1) (pv 0) (pv 2)))))), ?_⟩
    refine ⟨_, rfl, i, rfl, true, rfl, iteT ?_⟩
    refine ⟨_, rfl, _, rfl, _, _, rfl, rfl, _, rfl, ?_⟩
    by_cases h1 : lo ≤ i
    · rw [decide_eq_true h1] at q ⊢
      exact iteT ⟨_, rfl, _, _, rfl, rfl, q⟩
    · rw [decide_eq_false h1] at q ⊢
      exact iteF q
def isCk (c : Int) : Prop := c = 2 ∨ c = 3 ∨ c = 5 ∨ c = 7
def spClock : Sp := fun vs H Q _ => ∃ c : Int, vs = [.int c] ∧ isCk c ∧ Q (.bl true) H
theorem sc_is_clock : FnScope ["thing"] ["thing"] (defScope s_is_clock) := ⟨rfl, rfl, rfl, by decide +kernel, rfl, by decide +kernel, by decide +kernel⟩
theorem ok_is_clock (T : Top K mg) : Ok P w K mg base 2 "is_clock" ["thing"] spClock := by
  obtain ⟨fd, F⟩ := fn_is_clock T
  refine ⟨⟨fd, ?_, F.bindsN fun _ _ _ _ _ _ us hl => match us, hl with | [_], _ => rfl⟩, g_is_clock T, F.kp⟩
  refine F.ok sc_is_clock (fun vs H Q E h => ?_) (fun cdv A outer s H vs Q E hr h => ?_)
  · obtain ⟨i, rfl, _⟩ := h
    rfl
  · obtain ⟨c, rfl, hc, q⟩ := h
    refine ⟨_, PSs.nox (pss_one (ps_ret (pe_and (pc (ok_is_integer T) hr (pa_cons (pv 0) pa_nil)) (pe_one (pe_cmpR op_in_seq (pv 0) (pe_glob (v := .ref (He.ga K "CLOCKS")) rfl (g_CLOCKS T) rfl) (by rfl)))))), ?_⟩
    refine ⟨_, rfl, c, rfl, true, rfl, iteT ?_⟩
    refine ⟨_, rfl, _, _, rfl, .inr (x_CLOCKS T _), rfl, rfl, ?_⟩
    have e : (if false = true then !inV (V.int c) [.int 2, .int 3, .int 5, .int 7] else inV (V.int c) [.int 2, .int 3, .int 5, .int 7]) = true := by
      rcases hc with rfl | rfl | rfl | rfl <;> decide
    rw [e]
    exact q
def spWord : Sp := fun vs H Q _ => ∃ x : Str, vs = [.str x] ∧ xyz x ∧ x.length ≤ 1000000 ∧ Q (.bl true) H
theorem sc_is_word : FnScope ["thing"] ["thing"] (defScope s_is_word) := ⟨rfl, rfl, rfl, by decide +kernel, rfl, by decide +kernel, by decide +kernel⟩
theorem ok_is_word (T : Top K mg) : Ok P w K mg base 1 "is_word" ["thing"] spWord := by
  obtain ⟨fd, F⟩ := fn_is_word T
  obtain ⟨tk, hL⟩ := t_LETTERS T
  refine ⟨⟨fd, ?_, F.bindsN fun _ _ _ _ _ _ us hl => match us, hl with | [_], _ => rfl⟩, g_is_word T, F.kp⟩
  refine F.ok sc_is_word (fun vs H Q E h => ?_) (fun cdv A outer s H vs Q E hr h => ?_)
  · obtain ⟨i, rfl, _⟩ := h
    rfl
  · obtain ⟨x, rfl, hx, hl, q⟩ := h
    have hs : sizeLine = 16777216 := sizeLine_eq
    refine ⟨_, PSs.nox (pss_one (ps_ret (pe_and (pe_callB call_isi (by rfl) (f_isinstance T) (by decide +kernel) (pa_cons (pv 0) (pa_cons (pe_bltn (v := .ty "str") (by rfl) (f_str T) (by decide +kernel) rfl) pa_nil)))
      (pe_one (pe_cmpR op_eq (pe_m1 PySem.F.slot_str_strip PySem.F.type_str_strip mt_stripChars (pv 0) (pe_glob (v := .str "xyz") rfl hL ⟨_, rfl⟩)) pe_str (nomark _)))))), ?_⟩
    refine ⟨_, rfl, .str x, _, _, _, true, rfl, .ty "str", .base (.str x), kit_ty (by decide +kernel), true, rfl, iteT ?_⟩
    refine ⟨_, rfl, ⟨x, rfl⟩, x, _, rfl, rfl, by omega, rfl, ?_⟩
    rw [strip_xyz hx]
    exact q
def spShort : Sp := fun vs H Q _ => ∃ x : Str, vs = [.str x] ∧ xyz x ∧ x.length ≤ 12 ∧ Q (.bl true) H
theorem sc_is_short_word : FnScope ["thing"] ["thing"] (defScope s_is_short_word) := ⟨rfl, rfl, rfl, by decide +kernel, rfl, by decide +kernel, by decide +kernel⟩
theorem ok_is_short_word (T : Top K mg) : Ok P w K mg base 2 "is_short_word" ["thing"] spShort := by
  obtain ⟨fd, F⟩ := fn_is_short_word T
  obtain ⟨tk, hL⟩ := i_MOST_LETTERS_bags T
  refine ⟨⟨fd, ?_, F.bindsN fun _ _ _ _ _ _ us hl => match us, hl with | [_], _ => rfl⟩, g_is_short_word T, F.kp⟩
  refine F.ok sc_is_short_word (fun vs H Q E h => ?_) (fun cdv A outer s H vs Q E hr h => ?_)
  · obtain ⟨i, rfl, _⟩ := h
    rfl
  · obtain ⟨x, rfl, hx, hl, q⟩ := h
    have hs : sizeLine = 16777216 := sizeLine_eq
    refine ⟨_, PSs.nox (pss_one (ps_ret (pe_and (pc (ok_is_word T) hr (pa_cons (pv 0) pa_nil)) (pe_one (pe_cmpR op_le (pe_callB call_len_str (by rfl) (f_len T) PySem.boot_len (pa_cons (pv 0) pa_nil)) (pe_glob (v := .int 12) rfl hL ⟨_, rfl⟩) (nomark _)))))), ?_⟩
    refine ⟨_, rfl, x, rfl, hx, by omega, true, rfl, iteT ?_⟩
    refine ⟨_, rfl, x, rfl, by omega, _, _, rfl, rfl, ?_⟩
    show Q (.bl (decide ((x.length : Int) ≤ 12))) H
    rw [decide_eq_true (show ((x.length : Int) ≤ 12) by omega)]
    exact q
end
end Fp

set_option Elab.async false
set_option linter.all false
set_option maxRecDepth 100000
set_option maxHeartbeats 2000000
namespace Fp
open PySem PySem.Spec PyProof.Rows L2
/-- a table that Bag lets: by the clock c, words of at most m letters, at most k of them -/
structure VT (c : Int) (m k : Nat) (l : Tb) : Prop where
  nd : Nd l
  nu : ∀ p ∈ l, 1 ≤ p.2 ∧ p.2 < c
  wd : ∀ p ∈ l, xyz p.1 ∧ p.1.length ≤ m
  ln : l.length ≤ k
theorem VT.mono {c : Int} {m k m' k' : Nat} {l : Tb} (h : VT c m k l) (hm : m ≤ m') (hk : k ≤ k') : VT c m' k' l :=
  ⟨h.nd, h.nu, fun p hp => ⟨(h.wd p hp).1, Nat.le_trans (h.wd p hp).2 hm⟩, Nat.le_trans h.ln hk⟩
theorem find_of {l : Tb} (h : Nd l) {i : Nat} {p : Str × Int} (e : l[i]? = some p) : (l.find? fun q => decide (q.1 = p.1)) = some p := by
  induction l generalizing i with
  | nil => simp at e
  | cons q r ih =>
    have h' : (q.1 :: r.map (·.1)).Nodup := h
    obtain ⟨h1, h2⟩ := List.nodup_cons.mp h'
    cases i with
    | zero =>
      have : q = p := by simpa using e
      subst this
      rw [List.find?_cons_of_pos (by simp)]
    | succ i =>
      have e' : r[i]? = some p := by simpa using e
      have hm : p ∈ r := List.mem_of_getElem? e'
      have hne : q.1 ≠ p.1 := fun z => h1 (z ▸ List.mem_map.mpr ⟨p, hm, rfl⟩)
      rw [List.find?_cons_of_neg (by simpa using hne)]
      exact ih h2 e'
theorem num_of {l : Tb} (h : Nd l) {i : Nat} {p : Str × Int} (e : l[i]? = some p) : num l p.1 = p.2 := by
  unfold num
  rw [find_of h e]
  rfl
theorem has_of {l : Tb} {i : Nat} {p : Str × Int} (e : l[i]? = some p) : has l p.1 = true := has_iff.mpr (List.mem_map.mpr ⟨p, List.mem_of_getElem? e, rfl⟩)
theorem kv_at {l : Tb} {i : Nat} {k : Key} {v : V} (e : (kv l)[i]? = some (k, v)) : ∃ p, l[i]? = some p ∧ k = Sum.inr p.1 ∧ v = .int p.2 := by
  unfold kv at e
  rw [List.getElem?_map] at e
  cases q : l[i]? with
  | none => rw [q] at e; cases e
  | some p =>
    rw [q] at e
    have e2 := Option.some.inj e
    injection e2 with e3 e4
    exact ⟨p, rfl, e3.symm, e4.symm⟩
section
variable {P : Program} {w : World} {K : PySem.W.Frag} {mg : Str → Option Value} {base : Heap}
def spAreWords : Sp := fun vs H Q _ => ∃ (c : Int) (d : Addr) (l : Tb), vs = [.int c, .ref d] ∧ H d = some (.dK (kv l)) ∧ VT c 12 300 l ∧ ∀ H', Same H H' → Q (.bl true) H'
abbrev nAreWords : List Str := ["clock", "thing", "word"]
theorem sc_are_words : FnScope nAreWords ["clock", "thing"] (defScope s_are_words) := ⟨rfl, rfl, rfl, by decide +kernel, rfl, by decide +kernel, by decide +kernel⟩
theorem ok_are_words (T : Top K mg) : Ok P w K mg base 4 "are_words" ["clock", "thing"] spAreWords := by
  obtain ⟨fd, F⟩ := fn_are_words T
  obtain ⟨tk, hL⟩ := i_MOST_WORDS T
  refine ⟨⟨fd, ?_, F.bindsN fun _ _ _ _ _ _ us hl => match us, hl with | [_, _], _ => rfl⟩, g_are_words T, F.kp⟩
  refine F.ok sc_are_words (fun vs H Q E h => ?_) (fun cdv A outer s H vs Q E hr h => ?_)
  · obtain ⟨c, d, l, rfl, _⟩ := h
    rfl
  · obtain ⟨c, d, l, rfl, hd, hv, q⟩ := h
    have hu := hu_of hr
    have nd := sc_are_words.nd
    have hr2 : Room 2 _ := hr.mono (by decide)
    have hs : sizeLine = 16777216 := sizeLine_eq
    have hln := hv.ln
    refine ⟨_, PSs.nox (pss_cons (ps_if (PW.pt (pw_or (pt_not (pt_val (pe_callB call_isi (by rfl) (f_isinstance T) (by decide +kernel) (pa_cons (pv 1) (pa_cons (pe_bltn (v := .ty "dict") (by rfl) (f_dict T) (by decide +kernel) rfl) pa_nil)))))
        (pw_or1 (pt_cmpR op_gt (pe_callB call_lenD (by rfl) (f_len T) PySem.boot_len (pa_cons (pv 1) pa_nil)) (pe_glob (v := .int 300) rfl hL ⟨_, rfl⟩) (nomark _))))) (pss_one (ps_ret pe_bl)) pss_nil)
      (pss_one (ps_ret (pe_callB (cr_all rfl) (by rfl) (f_all T) (by decide +kernel) (pa_cons (pe_lock (pe_lc (own := [("word", 2)]) (g := gName 2) (tt := tYes) rfl nd (pi_keys (pv 1)) (blkOk_by (N := nAreWords) (sc := defScope s_are_words) (by decide +kernel))
        (fun _ _ _ _ _ => pg_name (i := 2) nd rfl (Or.inl rfl)) (fun _ _ _ _ _ => pts_nil)
        (fun _ _ _ _ _ => pe_and (pc (ok_is_short_word T) hr2 (pa_cons (pv 2) pa_nil)) (pe_one (pc (ok_is_from_to T) hr2 (pa_cons (pe_dget hu (pv 1) (pv 2) (fun _ _ => rfl)) (pa_cons pe_int (pa_cons (pe_op op_sub (pv 0) pe_int) pa_nil)))))))) pa_nil))))), ?_⟩
    refine ⟨_, rfl, .ref d, _, _, _, true, rfl, .ty "dict", .base (.dK hd), kit_ty (by decide +kernel), true, rfl, iteF ?_⟩
    refine ⟨_, rfl, d, _, rfl, hd, _, _, rfl, rfl, _, rfl, ?_⟩
    rw [show decide ((300 : Int) < ((kv l).length : Int)) = false by
      rw [kv_len]
      exact decide_eq_false (by omega)]
    refine iteF ?_
    refine ⟨d, _, hd, trivial, fun od => ?_⟩
    refine ⟨_, rfl, d, od, rfl, .inl ⟨kv l, upd_same, fun D hD => ?_⟩⟩
    have nD : D ≠ d := fun e => by
      rw [e, upd_same] at hD
      cases hD
    refine lc_it walk_keys (fun i H' => H' D = some (.lst ((List.replicate i true).map V.bl)) ∧ But d H H' ∧ H' d = some (.frz od (.dK (kv l)))) ⟨upd_same, ?_, ?_⟩ (fun i H' _ hP => hP.2.2) ?_ ?_
    · intro b o e n
      have nb : b ≠ D := by
        rintro rfl
        rw [upd_ne n, e] at hD
        cases hD
      rw [upd_ne nb, upd_ne n]
      exact e
    · rw [upd_ne nD.symm]
      exact upd_same
    · rintro i x H1 H2 hi ⟨p1, p2, p3⟩ ⟨rfl, k, v, e, rfl⟩
      obtain ⟨p, ep, rfl, rfl⟩ := kv_at e
      have hp : p ∈ l := List.mem_of_getElem? ep
      rw [kv_len] at hi
      refine ⟨rfl, ?_⟩
      refine ⟨_, rfl, p.1, rfl, (hv.wd p hp).1, (hv.wd p hp).2, true, rfl, iteT ?_⟩
      refine ⟨_, rfl, _, rfl, d, .int p.2, rfl, .inl ⟨kv l, Sum.inr p.1, .inr ⟨od, p3⟩, rfl, ?_⟩, ?_⟩
      · rw [valV_yes (has_of ep), num_of hv.nd ep]
      · refine ⟨_, rfl, _, _, rfl, rfl, p.2, 1, c - 1, rfl, ?_⟩
        have hn := hv.nu p hp
        rw [decide_eq_true (show (1 : Int) ≤ p.2 from hn.1), decide_eq_true (show p.2 ≤ c - 1 by omega)]
        refine ⟨_, p1, ?_, ?_, ?_, ?_⟩
        · rw [List.length_map, List.length_replicate]
          omega
        · rw [upd_same, List.replicate_succ', List.map_append]
          rfl
        · intro b o e n
          have nb : b ≠ D := by
            rintro rfl
            rw [upd_ne n, e] at hD
            cases hD
          rw [upd_ne nb]
          exact p2 b o e n
        · rw [upd_ne nD.symm]
          exact p3
    · rintro H' ⟨p1, p2, p3⟩
      refine ⟨p3, D, List.replicate (kv l).length true, rfl, .inl (.inl ?_), ?_⟩
      · rw [upd_ne nD]
        exact p1
      · have e1 : (List.replicate (kv l).length true).all id = true := by
          rw [List.all_eq_true]
          intro b hb
          exact (List.mem_replicate.mp hb).2
        rw [e1]
        refine q _ fun b o e => ?_
        by_cases n : b = d
        · rw [n, upd_same, ← hd, ← n, e]
        · rw [upd_ne n]
          exact p2 b o e n
end
end Fp

set_option Elab.async false
set_option linter.all false
set_option maxRecDepth 100000
set_option maxHeartbeats 2000000
namespace L2
open PySem PySem.Spec PyProof.Rows
section
variable {X : Cx}
def rEqP (K : PySem.W.Frag) : R2 := fun x y H Q => ∃ d e, Dp K H x d ∧ Dp K H y e ∧ d.plain = true ∧ e.plain = true ∧ d.depth ≤ 64 ∧ Q (.bl (PyData.eqv d e)) H
theorem op_eqP (hu : X.A.units + 64 < cLine) : OpR X (compareOp .Eq) (rEqP X.K) := by
  intro pins s σ H x y v u Q I rx ry h
  obtain ⟨d, e, hd, he, sd, se, hdp, q⟩ := h
  obtain ⟨as, r1⟩ := Dp.reads I d x v hd rx
  obtain ⟨bs, r2⟩ := Dp.reads I e y u he ry
  exact SeqAt.eq_plain r1 r2 sd se (by omega) ⟨.bl _, H, I, rfl, q⟩
end
end L2
namespace Fp
open PySem PySem.Spec PyProof.Rows L2
/-! ### the tuple of pairs -/
def WordsAt (H : Hp) (t : Addr) (L : Tb) : Prop := ∃ (ps : List Addr) (o : Obj), H t = some (.frz o (.tup (ps.map V.ref))) ∧ PlainTup o ∧ Paired (fun p (q : Str × Int) => H p = some (.tup [.str q.1, .int q.2])) ps L
theorem WordsAt.but {a : Addr} {H H' : Hp} {t : Addr} {L : Tb} (h : WordsAt H t L) (k : But a H H') (ht : t ≠ a) (ha : ∀ xs, H a ≠ some (.tup xs)) : WordsAt H' t L := by
  obtain ⟨ps, o, h1, h2, h3⟩ := h
  exact ⟨ps, o, k _ _ h1 ht, h2, Paired.mapP h3 fun p q e => k _ _ e fun z => ha _ (z ▸ e)⟩
theorem WordsAt.same {H H' : Hp} {t : Addr} {L : Tb} (h : WordsAt H t L) (k : Same H H') : WordsAt H' t L := by
  obtain ⟨ps, o, h1, h2, h3⟩ := h
  exact ⟨ps, o, k _ _ h1, h2, Paired.mapP h3 fun p q e => k _ _ e⟩
/-- a table in the order of words -/
def ordW (l : Tb) : List Str := (l.map (·.1)).mergeSort leR
def canon (l : Tb) : Tb := (ordW l).map fun x => (x, num l x)
theorem ordW_len (l : Tb) : (ordW l).length = l.length := by
  unfold ordW
  rw [List.length_mergeSort, List.length_map]
theorem ordW_mem {l : Tb} {x : Str} : x ∈ ordW l ↔ x ∈ l.map (·.1) := by
  unfold ordW
  exact (List.mergeSort_perm _ _).mem_iff
/-- what a Bag is -/
def flds (c : Int) (t : Addr) : List (Str × V) := putF "words" (.ref t) (putF "clock" (.int c) [])
theorem kwc : ¬ (("clock" : Str) = "words") := by decide +kernel
theorem flds_eq (c : Int) (t : Addr) : flds c t = ([("clock", V.int c), ("words", V.ref t)] : List (Str × V)) := by
  show (if ("clock" : Str) = "words" then [(("words" : Str), V.ref t)] else (("clock" : Str), V.int c) :: putF "words" (.ref t) []) = _
  rw [if_neg kwc]
  all_goals rfl
theorem flds_clock (c : Int) (t : Addr) : (flds c t).lookup ("clock" : Str) = some (.int c) := by
  unfold flds
  rw [lookup_putF, if_neg kwc, lookup_putF, if_pos rfl]
theorem flds_words (c : Int) (t : Addr) : (flds c t).lookup ("words" : Str) = some (.ref t) := by
  unfold flds
  rw [lookup_putF, if_pos rfl]
def BagAt (K : PySem.W.Frag) (H : Hp) (b : Addr) (c : Int) (L : Tb) : Prop := ∃ dx t, H b = some (.ins (He.ga K "Bag") dx (flds c t)) ∧ WordsAt H t L
theorem BagAt.same {K : PySem.W.Frag} {H H' : Hp} {b : Addr} {c : Int} {L : Tb} (h : BagAt K H b c L) (k : Same H H') : BagAt K H' b c L := by
  obtain ⟨dx, t, h1, h2⟩ := h
  exact ⟨dx, t, k _ _ h1, h2.same k⟩
theorem BagAt.but {K : PySem.W.Frag} {a : Addr} {H H' : Hp} {b : Addr} {c : Int} {L : Tb} (h : BagAt K H b c L) (k : But a H H') (ha : ∃ xs, H a = some (.lst xs)) : BagAt K H' b c L := by
  obtain ⟨dx, t, h1, h2⟩ := h
  obtain ⟨xs, hx⟩ := ha
  obtain ⟨ps, o, e1, e2⟩ := id h2
  exact ⟨dx, t, k _ _ h1 (ne_of h1 hx (by intro z; cases z)), h2.but k (ne_of e1 hx (by intro z; cases z)) fun ys => by rw [hx]; intro z; cases z⟩
def dW (L : Tb) : PyData := .tuple (L.map fun p => .tuple [.str p.1, .int p.2])
theorem dp_words {K : PySem.W.Frag} {H : Hp} {t : Addr} {L : Tb} (h : WordsAt H t L) : Dp K H (.ref t) (dW L) := by
  obtain ⟨ps, o, h1, _, h3⟩ := h
  refine .tup (.inl (.inr ⟨o, h1⟩)) ?_
  clear h1
  induction h3 with
  | nil => exact .nil
  | cons e _ ih => exact .cons (.tup (.inl (.inl e)) (.cons (.str _) (.cons (.int _) .nil))) ih
theorem dW_plain (L : Tb) : (dW L).plain = true := by
  show PyData.plainAll (L.map fun p => .tuple [.str p.1, .int p.2]) = true
  induction L with
  | nil => rfl
  | cons p r ih =>
    rw [List.map_cons]
    simp only [PyData.plainAll, PyData.plain, Bool.and_self, Bool.true_and]
    exact ih
theorem dW_depth (L : Tb) : (dW L).depth ≤ 64 := by
  have h : PyData.depthAll (L.map fun p => PyData.tuple [.str p.1, .int p.2]) ≤ 3 := by
    induction L with
    | nil => simp [PyData.depthAll]
    | cons p r ih =>
      rw [List.map_cons]
      simp only [PyData.depthAll, PyData.depth]
      have : max 0 (max 0 0) = 0 := rfl
      omega
  show (PyData.tuple _).depth ≤ 64
  simp only [PyData.depth]
  omega
theorem dW_eqv : ∀ L M : Tb, PyData.eqv (dW L) (dW M) = decide (L = M) := by
  intro L M
  show PyData.eqvAll (L.map fun p => PyData.tuple [.str p.1, .int p.2]) (M.map fun p => PyData.tuple [.str p.1, .int p.2]) = decide (L = M)
  induction L generalizing M with
  | nil =>
    cases M with
    | nil => rfl
    | cons q s => simp [PyData.eqvAll]
  | cons p r ih =>
    cases M with
    | nil => simp [PyData.eqvAll]
    | cons q s =>
      rw [List.map_cons, List.map_cons]
      simp only [PyData.eqvAll, PyData.eqv, ih s]
      obtain ⟨x, n⟩ := p
      obtain ⟨y, m⟩ := q
      by_cases h1 : x = y <;> by_cases h2 : n = m <;> by_cases h3 : r = s <;> simp [h1, h2, h3]
section
variable {P : Program} {w : World} {K : PySem.W.Frag} {mg : Str → Option Value} {base : Heap}
def spPairs : Sp := fun vs H Q _ => ∃ (d : Addr) (l : Tb), vs = [.ref d] ∧ H d = some (.dK (kv l)) ∧ Nd l ∧ (∀ p ∈ l, p.1.length ≤ 1000000) ∧ l.length ≤ 1000000 ∧ ∀ H' t, Same H H' → H t = none → WordsAt H' t (canon l) → Q (.ref t) H'
abbrev nPairs : List Str := ["table", "word"]
theorem sc_pairs_of : FnScope nPairs ["table"] (defScope s_pairs_of) := ⟨rfl, rfl, rfl, by decide +kernel, rfl, by decide +kernel, by decide +kernel⟩
theorem ok_pairs_of (T : Top K mg) : Ok P w K mg base 2 "pairs_of" ["table"] spPairs := by
  obtain ⟨fd, F⟩ := fn_pairs_of T
  obtain ⟨fdR, FR⟩ := fn_rank_of T
  refine ⟨⟨fd, ?_, F.bindsN fun _ _ _ _ _ _ us hl => match us, hl with | [_], _ => rfl⟩, g_pairs_of T, F.kp⟩
  refine F.ok sc_pairs_of (fun vs H Q E h => ?_) (fun cdv A outer s H vs Q E hr h => ?_)
  · obtain ⟨d, l, rfl, _⟩ := h
    rfl
  · obtain ⟨d, l, rfl, hd, hnd, hwl, hll, q⟩ := h
    have hu := hu_of hr
    have nd := sc_pairs_of.nd
    have hs : sizeLine = 16777216 := sizeLine_eq
    refine ⟨_, PSs.nox (pss_one (ps_ret (pe_callTy call_tupleF (by rfl) (f_tuple T) (by decide +kernel) (pa_cons (pe_lc (own := [("word", 1)]) (g := gName 1) (tt := tYes) rfl nd
      (pi_list (pe_callBK (cr_sortRk rfl FR (f_len T) hr) (by rfl) (f_sorted T) (by decide +kernel) (pa_cons (pv 0) pa_nil) (pk_cons (pe_glob (v := .ref (He.ga K "rank_of")) rfl (g_rank_of T) rfl) pk_nil)))
      (blkOk_by (N := nPairs) (sc := defScope s_pairs_of) (by decide +kernel)) (fun _ _ _ _ _ => pg_name (i := 1) nd rfl (Or.inl rfl)) (fun _ _ _ _ _ => pts_nil)
      (fun _ _ _ _ _ => pe_tup (pa_cons (pv 1) (pa_cons (pe_dget hu (pv 0) (pv 1) (fun _ _ => rfl)) pa_nil)))) pa_nil)))), ?_⟩
    refine ⟨_, rfl, d, kv l, l.map (·.1), rfl, rfl, .inl hd, kv_keys l, ?_, fun S hS => ?_⟩
    · intro x hx
      obtain ⟨p, hp, rfl⟩ := List.mem_map.mp hx
      have := hwl p hp
      omega
    · refine ⟨S, rfl, ⟨_, .inl (.inl upd_same)⟩, fun D hD => ?_⟩
      have nDS : D ≠ S := fun e => by
        rw [e, upd_same] at hD
        cases hD
      have hD0 : H D = none := by
        rw [upd_ne nDS] at hD
        exact hD
      have nSd : d ≠ S := ne_of_none hd hS
      have nDd : d ≠ D := ne_of_none hd hD0
      refine lc_it (walk_list (xs := (ordW l).map V.str)) (fun i H' => ∃ ps : List Addr, H' D = some (.lst (ps.map V.ref)) ∧ ps.length = i ∧ Paired (fun p (q : Str × Int) => H' p = some (.tup [.str q.1, .int q.2])) ps ((canon l).take i) ∧ Same H H' ∧ H' S = some (.lst ((ordW l).map V.str)))
        ⟨[], upd_same, rfl, .nil, ?_, ?_⟩ (fun i H' _ hP => .inl (.inl hP.choose_spec.2.2.2.2)) ?_ ?_
      · intro b o e
        rw [upd_ne (ne_of_none e hD0), upd_ne (ne_of_none e hS)]
        exact e
      · rw [upd_ne nDS.symm]
        exact upd_same
      · rintro i x H1 H2 hi ⟨ps, p1, p2, p3, p4, p5⟩ ⟨rfl, e⟩
        rw [List.length_map, ordW_len] at hi
        rw [List.getElem?_map] at e
        cases ew : (ordW l)[i]? with
        | none => rw [ew] at e; cases e
        | some x0 =>
          rw [ew] at e
          have e2 : V.str x0 = x := Option.some.inj e
          subst e2
          have hx0 : x0 ∈ l.map (·.1) := ordW_mem.mp (List.mem_of_getElem? ew)
          refine ⟨rfl, ?_⟩
          refine ⟨_, rfl, _, rfl, _, rfl, d, .int (num l x0), rfl, .inl ⟨kv l, Sum.inr x0, .inl (p4 _ _ hd), rfl, (valV_yes (has_iff.mpr hx0)).symm⟩, ?_⟩
          refine ⟨by show 2 ≤ sizeLine; omega, fun p hp => ?_⟩
          have npD : D ≠ p := ne_of_none p1 hp
          have npS : S ≠ p := ne_of_none p5 hp
          refine ⟨ps.map V.ref, ?_, ?_, ps ++ [p], ?_, ?_, ?_, ?_, ?_⟩
          · rw [upd_ne npD]
            exact p1
          · rw [List.length_map]
            omega
          · rw [upd_same, List.map_append]
            rfl
          · rw [List.length_append, p2]
            rfl
          · have ec : (canon l).take (i + 1) = (canon l).take i ++ [(x0, num l x0)] := by
              rw [List.take_add_one]
              unfold canon
              rw [List.getElem?_map, ew]
              rfl
            rw [ec]
            refine Paired.snoc (Paired.mapP p3 fun a b z => ?_) ?_
            · have na : a ≠ D := ne_of z p1 (by intro y; cases y)
              rw [upd_ne na, upd_ne (ne_of_none z hp)]
              exact z
            · rw [upd_ne npD.symm]
              exact upd_same
          · intro b o z
            have nb : b ≠ D := ne_of_none z hD0
            rw [upd_ne nb, upd_ne (ne_of_none (p4 b o z) hp)]
            exact p4 b o z
          · rw [upd_ne nDS.symm, upd_ne npS]
            exact p5
      · rintro H' ⟨ps, p1, p2, p3, p4, p5⟩
        have en : ((ordW l).map V.str).length = (canon l).length := by
          unfold canon
          rw [List.length_map, List.length_map]
        rw [en, List.take_length] at p3
        refine ⟨D, ps.map V.ref, rfl, .inl (.inl p1), fun t o ht hpt => ?_⟩
        have ht0 : H t = none := by
          cases z : H t with
          | none => rfl
          | some u =>
            rw [p4 t u z] at ht
            cases ht
        refine q _ t (p4.trans (same_upd ht)) ht0 ⟨ps, o, upd_same, hpt, Paired.mapP p3 fun a b z => ?_⟩
        rw [upd_ne (ne_of_none z ht)]
        exact z
end
end Fp

set_option Elab.async false
set_option linter.all false
set_option maxRecDepth 100000
set_option maxHeartbeats 2000000
namespace Fp
open PySem PySem.Spec PyProof.Rows L2
section
variable {P : Program} {w : World} {K : PySem.W.Frag} {mg : Str → Option Value} {base : Heap}
def spInit (K : PySem.W.Frag) : Sp := fun vs H Q _ => ∃ (b d dx : Addr) (c : Int) (l : Tb), vs = [.ref b, .int c, .ref d] ∧ H b = some (.ins (He.ga K "Bag") dx []) ∧ isCk c ∧ H d = some (.dK (kv l)) ∧ VT c 12 300 l ∧
  ∀ H', But b H H' → BagAt K H' b c (canon l) → Q .non H'
abbrev nInit : List Str := ["self", "clock", "words"]
theorem sc_init : FnScope nInit nInit (defScope s_Bag__init__) := ⟨rfl, rfl, rfl, by decide +kernel, rfl, by decide +kernel, by decide +kernel⟩
theorem ok_init (T : Top K mg) : ∃ fd, FnOk P w K mg base CX0 5 (He.ma K (He.ga K "Bag") "__init__") fd nInit (spInit K) ∧ Binds K fd nInit [] := by
  obtain ⟨fd, F⟩ := fn_Bag__init__ T
  refine ⟨fd, ?_, F.bindsN fun _ _ _ _ _ _ us hl => match us, hl with | [_, _, _], _ => rfl⟩
  refine F.ok sc_init (fun vs H Q E h => ?_) (fun cdv A outer s H vs Q E hr h => ?_)
  · obtain ⟨b, d, dx, c, l, rfl, _⟩ := h
    rfl
  · obtain ⟨b, d, dx, c, l, rfl, hb, hc, hd, hv, q⟩ := h
    have hr2 : Room 2 _ := hr.mono (by decide)
    refine ⟨_, PSs.nox (pss_cons (ps_if (pt_not (pt_val (pc (ok_is_clock T) hr2 (pa_cons (pv 1) pa_nil)))) (pss_one ps_never) pss_nil)
      (pss_cons (ps_if (pt_not (pt_val (pc (ok_are_words T) hr (pa_cons (pv 1) (pa_cons (pv 2) pa_nil))))) (pss_one ps_never) pss_nil)
      (pss_cons (ps_fld (pv 0) (pv 1) rfl)
      (pss_one (ps_fld (pv 0) (pc (ok_pairs_of T) hr2 (pa_cons (pv 2) pa_nil)) rfl))))), ?_⟩
    refine ⟨_, rfl, c, rfl, hc, true, rfl, iteF ?_⟩
    refine ⟨_, rfl, _, rfl, c, d, l, rfl, hd, hv, fun H1 s1 => ⟨true, rfl, iteF ?_⟩⟩
    have nbd : b ≠ d := ne_of hb hd (by intro z; cases z)
    refine ⟨_, rfl, _, rfl, b, _, dx, [], rfl, s1 _ _ hb, cls_Bag T, na_Bag_clock T, by show 0 < 1000; decide, ?_⟩
    refine ⟨_, rfl, d, l, rfl, ?_, hv.nd, fun p hp => Nat.le_trans (hv.wd p hp).2 (by decide), Nat.le_trans hv.ln (by decide), fun H2 t s2 ht hw => ?_⟩
    · rw [upd_ne nbd.symm]
      exact s1 _ _ hd
    refine ⟨_, rfl, b, _, dx, _, rfl, s2 _ _ upd_same, cls_Bag T, na_Bag_words T, by show 1 < 1000; decide, ?_⟩
    have nt : t ≠ b := fun e => by
      rw [e, upd_same] at ht
      cases ht
    refine q _ (fun y o e n => ?_) ⟨dx, t, upd_same, ?_⟩
    · rw [upd_ne n]
      refine s2 _ _ ?_
      rw [upd_ne n]
      exact s1 _ _ e
    · exact hw.but (a := b) but_upd nt fun xs z => by
        rw [s2 _ _ upd_same] at z
        cases z
/-- Bag(c, d) -/
theorem pbag {X : Cx} {p pos : Pos} {e : Expr} {es : List Expr} {t : TA} (T : Top X.K X.mg) (hr : Room 6 X.A) (ha : PA X (e :: es) t) (hg : Gl X "Bag" := by rfl)
    (he : starEach (e :: es) X.env = (false, eval e X.env) :: starEach es X.env := by rfl) (hpl : (backTo pos (starEach es X.env)).any (·.1) = false := by rfl) : PE X (.Call (.Name "Bag" p) (e :: es) [] pos) (tMake (He.ga X.K "Bag") (spInit X.K) [] E0 t) := by
  obtain ⟨fd, F, b⟩ := ok_init (P := X.prog) (w := X.w) (base := X.base) T
  exact pe_make (mk_Bag T) F hr hg (g_Bag T) b .nil pass0 ha (by decide) he hpl
theorem bag_made {K : PySem.W.Frag} {H : Hp} {d : Addr} {c : Int} {l : Tb} {Q : VK} (hc : isCk c) (hd : H d = some (.dK (kv l))) (hv : VT c 12 300 l) (h : ∀ H' b, Same H H' → H b = none → BagAt K H' b c (canon l) → Q (.ref b) H') :
    ∀ x dx, H x = none → H dx = none → dx ≠ x → spInit K (.ref x :: ([.int c, .ref d] ++ [])) (upd (upd H dx (.own x)) x (.ins (He.ga K "Bag") dx [])) (fun v H2 => v = .non ∧ Q (.ref x) H2) E0 := fun x dx hx hdx ne => by
  refine ⟨x, d, dx, c, l, rfl, upd_same, hc, ?_, hv, fun H' k hb => ⟨rfl, h H' x (fun b o e => ?_) hx hb⟩⟩
  · rw [upd_ne (ne_of_none hd hx), upd_ne (ne_of_none hd hdx)]
    exact hd
  · refine k b o ?_ (ne_of_none e hx)
    rw [upd_ne (ne_of_none e hx), upd_ne (ne_of_none e hdx)]
    exact e
/-- what == answers -/
def spEqB (K : PySem.W.Frag) : Sp := fun vs H Q _ => ∃ (a : Addr) (y : V) (c : Int) (L : Tb), vs = [.ref a, y] ∧ BagAt K H a c L ∧
  ((∃ b c' M, y = .ref b ∧ BagAt K H b c' M ∧ Q (.bl (decide (c = c' ∧ L = M))) H) ∨ (∃ t, TyX K H y t ∧ PySem.W.kitOne K t (.ref (He.ga K "Bag")) = some false ∧ Q (.bl false) H))
abbrev nEq : List Str := ["self", "other"]
theorem sc_eq : FnScope nEq nEq (defScope s_Bag__eq__) := ⟨rfl, rfl, rfl, by decide +kernel, rfl, by decide +kernel, by decide +kernel⟩
theorem ok_eq (T : Top K mg) : ∃ fd, FnOk P w K mg base CX0 1 (He.ma K (He.ga K "Bag") "__eq__") fd nEq (spEqB K) ∧ Binds K fd nEq [] := by
  obtain ⟨fd, F⟩ := fn_Bag__eq__ T
  refine ⟨fd, ?_, F.bindsN fun _ _ _ _ _ _ us hl => match us, hl with | [_, _], _ => rfl⟩
  refine F.ok sc_eq (fun vs H Q E h => ?_) (fun cdv A outer s H vs Q E hr h => ?_)
  · obtain ⟨a, y, c, L, rfl, _⟩ := h
    rfl
  · obtain ⟨a, y, c, L, rfl, ⟨dx, t, ha, hw⟩, h⟩ := h
    refine ⟨_, PSs.nox (pss_one (ps_ret (pe_and (pe_callB call_isi (by rfl) (f_isinstance T) (by decide +kernel) (pa_cons (pv 1) (pa_cons (pe_glob (v := .ref (He.ga K "Bag")) rfl (g_Bag T) rfl) pa_nil)))
      (pe_and (pe_cmpR op_eq (pe_fld (pv 0) rfl) (pe_fld (pv 1) rfl) (nomark _)) (pe_one (pe_cmpR (op_eqP hr.units) (pe_fld (pv 0) rfl) (pe_fld (pv 1) rfl) (nomark _))))))), ?_⟩
    rcases h with ⟨b, c', M, rfl, ⟨dy, t', hb, hw'⟩, q⟩ | ⟨ty, hty, hk, q⟩
    · refine ⟨_, rfl, _, _, _, _, true, rfl, .own _, .base (.ins hb (cls_Bag T) (x_class T) (x_get T) (x_takes T) (x_mro T)), x_is T, true, rfl, iteT ?_⟩
      refine ⟨_, rfl, a, _, dx, _, _, rfl, ha, cls_Bag T, na_Bag_clock T, flds_clock _ _, _, rfl, b, _, dy, _, _, rfl, hb, cls_Bag T, na_Bag_clock T, flds_clock _ _, rfl, _, rfl, ?_⟩
      by_cases e : c = c'
      · rw [decide_eq_true (show V.int c = V.int c' by rw [e])]
        refine iteT ?_
        refine ⟨_, rfl, a, _, dx, _, _, rfl, ha, cls_Bag T, na_Bag_words T, flds_words _ _, _, rfl, b, _, dy, _, _, rfl, hb, cls_Bag T, na_Bag_words T, flds_words _ _, dW L, dW M, dp_words hw, dp_words hw', dW_plain L, dW_plain M, dW_depth L, ?_⟩
        rw [dW_eqv]
        have e2 : decide (c = c' ∧ L = M) = decide (L = M) := by simp [e]
        rw [e2] at q
        exact q
      · rw [decide_eq_false (show ¬ V.int c = V.int c' from fun z => e (by injection z))]
        refine iteF ?_
        rw [decide_eq_false (show ¬ (c = c' ∧ L = M) from fun z => e z.1)] at q
        exact q
    · exact ⟨_, rfl, y, _, ty, _, false, rfl, .own _, hty, hk, false, rfl, iteF q⟩
end
end Fp

set_option Elab.async false
set_option linter.all false
set_option maxRecDepth 100000
set_option maxHeartbeats 4000000
namespace Fp
open PySem PySem.Spec PyProof.Rows L2
/-! ### the hand: what is drawn from -/
def HandAt (ca : Addr) (H : Hp) (h : Addr) : Prop := ∃ (cs : List Int) (a l sd tn : Int), H h = some (.lst [.ref ca, .int a, .int l, .int sd, .int tn]) ∧ H ca = some (.lst (cs.map V.int)) ∧ cs.length ≤ 63 ∧ (∀ c ∈ cs, 0 ≤ c) ∧ 0 ≤ a ∧ 0 ≤ l
theorem HandAt.ne {H : Hp} {h ca : Addr} {cs : List Int} {a l sd tn : Int} (h1 : H h = some (.lst [.ref ca, .int a, .int l, .int sd, .int tn])) (h2 : H ca = some (.lst (cs.map V.int))) : ca ≠ h := by
  refine ne_of h2 h1 fun z => ?_
  injection z with z
  cases cs with
  | nil => cases z
  | cons c r =>
    rw [List.map_cons] at z
    injection z with z1
    cases z1
theorem HandAt.lst {ca : Addr} {H : Hp} {h : Addr} (x : HandAt ca H h) : ∃ xs, H h = some (.lst xs) := by
  obtain ⟨cs, a, l, sd, tn, h1, _⟩ := x
  exact ⟨_, h1⟩
theorem HandAt.but {ca : Addr} {H H' : Hp} {h d : Addr} (x : HandAt ca H h) (k : But d H H') (hd : ∀ xs, H d ≠ some (.lst xs)) : HandAt ca H' h := by
  obtain ⟨cs, a, l, sd, tn, h1, h2, r⟩ := x
  exact ⟨cs, a, l, sd, tn, k _ _ h1 (fun z => hd _ (z ▸ h1)), k _ _ h2 (fun z => hd _ (z ▸ h2)), r⟩
theorem HandAt.same {ca : Addr} {H H' : Hp} {h : Addr} (x : HandAt ca H h) (k : Same H H') : HandAt ca H' h := by
  obtain ⟨cs, a, l, sd, tn, h1, h2, r⟩ := x
  exact ⟨cs, a, l, sd, tn, k _ _ h1, k _ _ h2, r⟩
theorem HandAt.off {ca : Addr} {H H' : Hp} {h d : Addr} (x : HandAt ca H h) (k : But d H H') (h1 : h ≠ d) (h2 : ca ≠ d) : HandAt ca H' h := by
  obtain ⟨cs, a, l, sd, tn, g1, g2, r⟩ := x
  exact ⟨cs, a, l, sd, tn, k _ _ g1 h1, k _ _ g2 h2, r⟩
theorem HandAt.cells {ca : Addr} {H : Hp} {h : Addr} (x : HandAt ca H h) : ∃ xs, H ca = some (.lst xs) := by
  obtain ⟨cs, a, l, sd, tn, h1, h2, _⟩ := x
  exact ⟨_, h2⟩
theorem cut63 (ns : List Int) : cutV (ns.map V.int) none (some 63) = (ns.take 63).map V.int := by
  unfold cutV
  rw [show HT.sIx (ns.map V.int).length (ns.map V.int).length (some 63) = min 63 (ns.map V.int).length from HT.sIx_nat _ _ 63, HT.sIx_none, List.drop_zero, Nat.sub_zero, List.length_map, List.map_take]
  by_cases h : ns.length ≤ 63
  · rw [Nat.min_eq_right h, List.take_of_length_le (by rw [List.length_map]; exact Nat.le_refl _), List.take_of_length_le (by rw [List.length_map]; exact h)]
  · rw [Nat.min_eq_left (by omega)]
section
variable {P : Program} {w : World} {K : PySem.W.Frag} {mg : Str → Option Value} {base : Heap}
def spHand (K : PySem.W.Frag) : Sp := fun vs H Q _ => ∃ (a : Addr) (ns : List Int), vs = [.ref a] ∧ SqL K H a (ns.map V.int) ∧ ∀ H' h ca, Same H H' → H h = none → HandAt ca H' h → Q (.ref h) H'
abbrev nHand : List Str := ["_law_script", "_law_cells", "_law_cell"]
def spDraw : Sp := fun vs H Q _ => ∃ (h ca : Addr) (n : Int), vs = [.ref h, .int n] ∧ 0 < n ∧ n < 1073741824 ∧ HandAt ca H h ∧ ∀ (r : Int) (H' : Hp), 0 ≤ r → r < n → HandAt ca H' h → But h H H' → Q (.int r) H'
abbrev nDraw : List Str := ["_law_hand_here", "_law_many", "_law_cell", "_law_digit", "_law_number"]
end
end Fp

set_option Elab.async false
set_option linter.all false
set_option maxRecDepth 100000
set_option maxHeartbeats 4000000
namespace Fp
open PySem PySem.Spec PyProof.Rows L2
/-! ### the law's own reckoning with tables -/
def putM (c : Int) (l : Tb) (x : Str) (n : Int) : Tb := if (num l x + n) % c = 0 then dropT l x else putT l x ((num l x + n) % c)
def plusM (c : Int) (l1 l2 : Tb) (f : Int) : Tb := l2.foldl (fun acc p => putM c acc p.1 (f * p.2)) l1
def prodM (c : Int) (l1 l2 : Tb) : Tb := l1.foldl (fun acc p => l2.foldl (fun acc q => putM c acc (p.1 ++ q.1) (p.2 * q.2)) acc) []
theorem num_eq (l : Tb) (x : Str) : (valV (kv l) (Sum.inr x : Key)).getD (.int 0) = .int (num l x) := by
  cases e : has l x with
  | true => rw [valV_yes e] <;> rfl
  | false =>
    obtain ⟨h1, h2⟩ := valV_no e
    rw [h1, h2] <;> rfl
theorem dropT_no {l : Tb} {x : Str} (h : has l x = false) : dropT l x = l := by
  unfold dropT
  rw [List.filter_eq_self]
  intro p hp
  simp only [decide_eq_true_eq]
  intro e
  have : has l x = true := has_iff.mpr (List.mem_map.mpr ⟨p, hp, e⟩)
  rw [h] at this
  cases this
theorem len_putM (c : Int) (l : Tb) (x : Str) (n : Int) : (putM c l x n).length ≤ l.length + 1 := by
  unfold putM
  split
  · exact Nat.le_succ_of_le (List.length_filter_le _ _)
  · exact len_put _ _ _
theorem vt_putM {c : Int} {m k : Nat} {l : Tb} (hc : 0 < c) (hv : VT c m k l) {x : Str} (hx : xyz x) (hl : x.length ≤ m) (n : Int) : VT c m (k + 1) (putM c l x n) := by
  have h1 := Int.emod_nonneg (num l x + n) (show c ≠ 0 by omega)
  have h2 := Int.emod_lt_of_pos (num l x + n) hc
  refine ⟨?_, fun p hp => ?_, fun p hp => ?_, Nat.le_trans (len_putM c l x n) (Nat.succ_le_succ hv.ln)⟩
  · unfold putM
    split
    · exact nd_drop hv.nd x
    · exact nd_put hv.nd x _
  · unfold putM at hp
    split at hp
    · exact hv.nu p (List.mem_filter.mp hp).1
    · rename_i h0
      rcases mem_put hp with rfl | hp
      · exact ⟨by show 1 ≤ (num l x + n) % c; omega, h2⟩
      · exact hv.nu p hp
  · unfold putM at hp
    split at hp
    · exact hv.wd p (List.mem_filter.mp hp).1
    · rcases mem_put hp with rfl | hp
      · exact ⟨hx, hl⟩
      · exact hv.wd p hp
theorem vt_plusM {c : Int} {m k1 k2 : Nat} {l1 l2 : Tb} (hc : 0 < c) (h1 : VT c m k1 l1) (h2 : VT c m k2 l2) (f : Int) : VT c m (k1 + k2) (plusM c l1 l2 f) := by
  have key : ∀ (r : Tb) (acc : Tb) (k : Nat), (∀ p ∈ r, xyz p.1 ∧ p.1.length ≤ m) → VT c m k acc → VT c m (k + r.length) (r.foldl (fun acc p => putM c acc p.1 (f * p.2)) acc) := by
    intro r
    induction r with
    | nil => intro acc k _ h; exact h
    | cons p r ih =>
      intro acc k hw h
      have hp := hw p List.mem_cons_self
      have := ih _ (k + 1) (fun q hq => hw q (List.mem_cons_of_mem _ hq)) (vt_putM hc h hp.1 hp.2 (f * p.2))
      rw [List.length_cons, List.foldl_cons]
      exact this.mono (Nat.le_refl _) (by omega)
  exact (key l2 l1 k1 h2.wd h1).mono (Nat.le_refl _) (Nat.add_le_add_left h2.ln _)
theorem xyz_app {x y : Str} (hx : xyz x) (hy : xyz y) : xyz (x ++ y) := by
  intro c hc
  have e : (x ++ y).cps.toList = x.cps.toList ++ y.cps.toList := by
    show (x.cps ++ y.cps).toList = _
    simp
  rw [e] at hc
  rcases List.mem_append.mp hc with hc | hc
  · exact hx c hc
  · exact hy c hc
theorem len_app (x y : Str) : (x ++ y).length = x.length + y.length := by
  show (x.cps ++ y.cps).size = _
  simp [Str.length]
theorem vt_inner {c : Int} {m1 m2 : Nat} (hc : 0 < c) {p : Str × Int} (hp : xyz p.1 ∧ p.1.length ≤ m1) : ∀ (r : Tb) (acc : Tb) (k : Nat), (∀ q ∈ r, xyz q.1 ∧ q.1.length ≤ m2) → VT c (m1 + m2) k acc →
    VT c (m1 + m2) (k + r.length) (r.foldl (fun acc q => putM c acc (p.1 ++ q.1) (p.2 * q.2)) acc) := by
  intro r
  induction r with
  | nil => intro acc k _ h; exact h
  | cons q r ih =>
    intro acc k hw h
    have hq := hw q List.mem_cons_self
    have := ih _ (k + 1) (fun q hq => hw q (List.mem_cons_of_mem _ hq)) (vt_putM hc h (xyz_app hp.1 hq.1) (by rw [len_app]; exact Nat.add_le_add hp.2 hq.2) (p.2 * q.2))
    rw [List.length_cons, List.foldl_cons]
    exact this.mono (Nat.le_refl _) (by omega)
theorem vt_outer {c : Int} {m1 m2 : Nat} (hc : 0 < c) {l2 : Tb} (h2 : ∀ q ∈ l2, xyz q.1 ∧ q.1.length ≤ m2) : ∀ (r : Tb) (acc : Tb) (k : Nat), (∀ q ∈ r, xyz q.1 ∧ q.1.length ≤ m1) → VT c (m1 + m2) k acc →
    VT c (m1 + m2) (k + r.length * l2.length) (r.foldl (fun acc p => l2.foldl (fun acc q => putM c acc (p.1 ++ q.1) (p.2 * q.2)) acc) acc) := by
  intro r
  induction r with
  | nil => intro acc k _ h; simpa using h
  | cons q r ih =>
    intro acc k hw h
    have := ih _ (k + l2.length) (fun q hq => hw q (List.mem_cons_of_mem _ hq)) (vt_inner hc (hw q List.mem_cons_self) l2 acc k h2 h)
    rw [List.length_cons, List.foldl_cons]
    exact this.mono (Nat.le_refl _) (by rw [Nat.add_mul]; omega)
theorem vt_nil (c : Int) (m : Nat) : VT c m 0 [] := ⟨List.nodup_nil, fun p hp => (by cases hp), fun p hp => (by cases hp), Nat.le_refl _⟩
theorem vt_prodM {c : Int} {m1 m2 k1 k2 : Nat} {l1 l2 : Tb} (hc : 0 < c) (h1 : VT c m1 k1 l1) (h2 : VT c m2 k2 l2) : VT c (m1 + m2) (k1 * k2) (prodM c l1 l2) :=
  (vt_outer hc h2.wd l1 [] 0 h1.wd (vt_nil c _)).mono (Nat.le_refl _) (by rw [Nat.zero_add]; exact Nat.mul_le_mul h1.ln h2.ln)
theorem VT.of {c : Int} {m k m' k' : Nat} {l : Tb} (h : VT c m k l) (hm : ∀ p ∈ l, p.1.length ≤ m') (hk : l.length ≤ k') : VT c m' k' l := ⟨h.nd, h.nu, fun p hp => ⟨(h.wd p hp).1, hm p hp⟩, hk⟩
section
variable {P : Program} {w : World} {K : PySem.W.Frag} {mg : Str → Option Value} {base : Heap}
def spPut : Sp := fun vs H Q _ => ∃ (c : Int) (d : Addr) (x : Str) (n : Int) (l : Tb), vs = [.int c, .ref d, .str x, .int n] ∧ 0 < c ∧ H d = some (.dK (kv l)) ∧ l.length ≤ 1000000 ∧
  ∀ H', But d H H' → H' d = some (.dK (kv (putM c l x n))) → Q .non H'
abbrev nPut : List Str := ["_law_clock_here", "_law_bag", "_law_word_here", "_law_number", "_law_total"]
def spPlus : Sp := fun vs H Q _ => ∃ (c : Int) (d1 d2 : Addr) (f : Int) (l1 l2 : Tb), vs = [.int c, .ref d1, .ref d2, .int f] ∧ 0 < c ∧ c ≤ 7 ∧ H d1 = some (.dK (kv l1)) ∧ H d2 = some (.dK (kv l2)) ∧ Nd l2 ∧ (∀ p ∈ l2, 1 ≤ p.2 ∧ p.2 < c) ∧ l1.length ≤ 900000 ∧ l2.length ≤ 100000 ∧
  ∀ H' d, Same H H' → H d = none → H' d = some (.dK (kv (plusM c l1 l2 f))) → Q (.ref d) H'
abbrev nPlus : List Str := ["_law_clock_here", "_law_one", "_law_other", "_law_factor", "_law_found", "_law_word_here"]
theorem len_plusM (c f : Int) : ∀ (l2 l1 : Tb), (plusM c l1 l2 f).length ≤ l1.length + l2.length
  | [], l1 => Nat.le_refl _
  | p :: r, l1 => by
    have h1 := len_plusM c f r (putM c l1 p.1 (f * p.2))
    have h2 := len_putM c l1 p.1 (f * p.2)
    have e : plusM c l1 (p :: r) f = plusM c (putM c l1 p.1 (f * p.2)) r f := rfl
    rw [e, List.length_cons]
    omega
theorem plusM_take (c f : Int) (l1 l2 : Tb) {i : Nat} {p : Str × Int} (e : l2[i]? = some p) : plusM c l1 (l2.take (i + 1)) f = putM c (plusM c l1 (l2.take i) f) p.1 (f * p.2) := by
  unfold plusM
  rw [List.take_add_one, e, List.foldl_append]
  rfl
end
end Fp

set_option Elab.async false
set_option linter.all false
set_option maxRecDepth 100000
set_option maxHeartbeats 4000000
namespace Fp
open PySem PySem.Spec PyProof.Rows L2
theorem vt_len {c : Int} {m k : Nat} {l : Tb} (h : VT c m k l) : l.length ≤ k := h.ln
theorem inner_take (c : Int) (acc l2 : Tb) (p : Str × Int) {j : Nat} {q : Str × Int} (e : l2[j]? = some q) :
    (l2.take (j + 1)).foldl (fun acc q => putM c acc (p.1 ++ q.1) (p.2 * q.2)) acc = putM c ((l2.take j).foldl (fun acc q => putM c acc (p.1 ++ q.1) (p.2 * q.2)) acc) (p.1 ++ q.1) (p.2 * q.2) := by
  rw [List.take_add_one, e, List.foldl_append]
  rfl
theorem prodM_take (c : Int) (l1 l2 : Tb) {i : Nat} {p : Str × Int} (e : l1[i]? = some p) : prodM c (l1.take (i + 1)) l2 = l2.foldl (fun acc q => putM c acc (p.1 ++ q.1) (p.2 * q.2)) (prodM c (l1.take i) l2) := by
  unfold prodM
  rw [List.take_add_one, e, List.foldl_append]
  rfl
theorem len_inner (c : Int) (p : Str × Int) : ∀ (r acc : Tb), (r.foldl (fun acc q => putM c acc (p.1 ++ q.1) (p.2 * q.2)) acc).length ≤ acc.length + r.length
  | [], acc => Nat.le_refl _
  | q :: r, acc => by
    have h1 := len_inner c p r (putM c acc (p.1 ++ q.1) (p.2 * q.2))
    have h2 := len_putM c acc (p.1 ++ q.1) (p.2 * q.2)
    rw [List.foldl_cons, List.length_cons]
    omega
theorem len_prodM (c : Int) (l2 : Tb) : ∀ (r acc : Tb), (r.foldl (fun acc p => l2.foldl (fun acc q => putM c acc (p.1 ++ q.1) (p.2 * q.2)) acc) acc).length ≤ acc.length + r.length * l2.length
  | [], acc => by simp
  | p :: r, acc => by
    have h1 := len_prodM c l2 r (l2.foldl (fun acc q => putM c acc (p.1 ++ q.1) (p.2 * q.2)) acc)
    have h2 := len_inner c p l2 acc
    rw [List.foldl_cons, List.length_cons, Nat.add_mul]
    omega
section
variable {P : Program} {w : World} {K : PySem.W.Frag} {mg : Str → Option Value} {base : Heap}
def spProd : Sp := fun vs H Q _ => ∃ (c : Int) (d1 d2 : Addr) (m1 m2 : Nat) (l1 l2 : Tb), vs = [.int c, .ref d1, .ref d2] ∧ 0 < c ∧ c ≤ 7 ∧ d1 ≠ d2 ∧ H d1 = some (.dK (kv l1)) ∧ H d2 = some (.dK (kv l2)) ∧ VT c m1 1000 l1 ∧ VT c m2 1000 l2 ∧ m1 ≤ 1000 ∧ m2 ≤ 1000 ∧
  ∀ H' d, Same H H' → H d = none → H' d = some (.dK (kv (prodM c l1 l2))) → Q (.ref d) H'
abbrev nProd : List Str := ["_law_clock_here", "_law_one", "_law_other", "_law_found", "_law_front", "_law_back"]
end
end Fp

set_option Elab.async false
set_option linter.all false
set_option maxRecDepth 100000
set_option maxHeartbeats 4000000
namespace Fp
open PySem PySem.Spec PyProof.Rows L2
theorem leIS_rk {a b : IS} (ha : a.2.1 = -(a.2.2.length : Int)) (hb : b.2.1 = -(b.2.2.length : Int)) : leIS a b = leR a.2.2 b.2.2 := by
  have e1 : enIS a = rk a.2.2 := by
    unfold enIS rk
    rw [ha]
  have e2 : enIS b = rk b.2.2 := by
    unfold enIS rk
    rw [hb]
  unfold leIS leR
  rw [PySem.W.dataLe_eq, PySem.W.dataLe_eq]
  simp only [e1, e2]
theorem sort_words {ps : List IS} (h : ∀ p ∈ ps, p.2.1 = -(p.2.2.length : Int)) : (ps.mergeSort leIS).map (·.2.2) = (ps.map (·.2.2)).mergeSort leR :=
  PySem.W.sort_maps (·.2.2) fun a ha b hb => leIS_rk (h a ha) (h b hb)
section
variable {P : Program} {w : World} {K : PySem.W.Frag} {mg : Str → Option Value} {base : Heap}
def spOrder : Sp := fun vs H Q _ => ∃ (d : Addr) (l : Tb), vs = [.ref d] ∧ H d = some (.dK (kv l)) ∧ (∀ p ∈ l, p.1.length ≤ 1000000) ∧ l.length ≤ 1000000 ∧ ∀ H' D, Same H H' → H D = none → H' D = some (.lst ((ordW l).map V.str)) → Q (.ref D) H'
abbrev nOrder : List Str := ["_law_bag", "_law_pair", "_law_word_here"]
def spCk : Sp := fun vs H Q _ => ∃ h ca : Addr, vs = [.ref h] ∧ HandAt ca H h ∧ ∀ H' c, HandAt ca H' h → But h H H' → isCk c → Q (.int c) H'
end
end Fp

set_option Elab.async false
set_option linter.all false
set_option maxRecDepth 100000
set_option maxHeartbeats 4000000
namespace Fp
open PySem PySem.Spec PyProof.Rows L2 TL
/-! ### words drawn -/
theorem join_signs : ∀ ys : List Str, (∀ y ∈ ys, ∃ c, y = ⟨#[c]⟩ ∧ (c = 120 ∨ c = 121 ∨ c = 122)) → xyz (PySem.Txt.join "" ys) ∧ (PySem.Txt.join "" ys).length = ys.length := by
  intro ys
  have h0 : ∀ zs : List Str, (∀ y ∈ zs, ∃ c, y = ⟨#[c]⟩ ∧ (c = 120 ∨ c = 121 ∨ c = 122)) → (∀ c ∈ joinL [] (zs.map tl), c = 120 ∨ c = 121 ∨ c = 122) ∧ (joinL [] (zs.map tl)).length = zs.length := by
    intro zs
    induction zs with
    | nil => intro _; exact ⟨fun c hc => (by cases hc), rfl⟩
    | cons y r ih =>
      intro h
      obtain ⟨c, rfl, hc⟩ := h y List.mem_cons_self
      obtain ⟨i1, i2⟩ := ih fun z hz => h z (List.mem_cons_of_mem _ hz)
      cases r with
      | nil =>
        refine ⟨fun d hd => ?_, rfl⟩
        have : d = c := by simpa [joinL, tl] using hd
        rw [this]
        exact hc
      | cons z r =>
        have e : joinL [] ((⟨#[c]⟩ :: z :: r : List Str).map tl) = c :: joinL [] ((z :: r).map tl) := rfl
        rw [e]
        refine ⟨fun d hd => ?_, by rw [List.length_cons, i2]; rfl⟩
        rcases List.mem_cons.mp hd with rfl | hd
        · exact hc
        · exact i1 d hd
  intro h
  obtain ⟨h1, h2⟩ := h0 ys h
  have e : tl (PySem.Txt.join "" ys) = joinL [] (ys.map tl) := by
    rw [join_eq, tl_join]
    rfl
  refine ⟨fun c hc => h1 c ?_, ?_⟩
  · rw [← e]
    exact hc
  · rw [len_tl, e, h2]
theorem vt_put {c : Int} {m k : Nat} {l : Tb} (hv : VT c m k l) {x : Str} (hx : xyz x) (hl : x.length ≤ m) {n : Int} (h1 : 1 ≤ n) (h2 : n < c) : VT c m (k + 1) (putT l x n) := by
  refine ⟨nd_put hv.nd x n, fun p hp => ?_, fun p hp => ?_, Nat.le_trans (len_put l x n) (Nat.succ_le_succ hv.ln)⟩
  · rcases mem_put hp with rfl | hp
    · exact ⟨h1, h2⟩
    · exact hv.nu p hp
  · rcases mem_put hp with rfl | hp
    · exact ⟨hx, hl⟩
    · exact hv.wd p hp
section
variable {P : Program} {w : World} {K : PySem.W.Frag} {mg : Str → Option Value} {base : Heap}
def spWrd : Sp := fun vs H Q _ => ∃ (h ca : Addr) (z : Str) (m : Nat), vs = [.ref h, .str z, .int m] ∧ HandAt ca H h ∧ xyz z ∧ 1 ≤ z.length ∧ z.length ≤ 1000 ∧ m ≤ 1000 ∧ ∀ H' r, HandAt ca H' h → But h H H' → xyz r → r.length ≤ m → Q (.str r) H'
abbrev nWrd : List Str := ["_law_hand_here", "_law_letters", "_law_most", "_law_turn"]
end
end Fp

set_option Elab.async false
set_option linter.all false
set_option maxRecDepth 100000
set_option maxHeartbeats 4000000
namespace Fp
open PySem PySem.Spec PyProof.Rows L2
instance (w : Str) : Decidable (xyz w) := by unfold xyz; infer_instance
theorem merge_kv' : ∀ (l a : Tb), Nd l → (∀ p ∈ l, has a p.1 = false) → mergeK (kv a) (kv l) = kv (a ++ l)
  | [], a, _, _ => by
    rw [List.append_nil]
    rfl
  | p :: r, a, h, hd => by
    have h' : (p.1 :: r.map (·.1)).Nodup := h
    obtain ⟨h1, h2⟩ := List.nodup_cons.mp h'
    have e : mergeK (kv a) (kv (p :: r)) = mergeK (putK (kv a) (Sum.inr p.1 : Key) (.int p.2)) (kv r) := rfl
    have e2 : putT a p.1 p.2 = a ++ [p] := by
      unfold putT
      rw [hd p List.mem_cons_self, if_neg Bool.false_ne_true]
    rw [e, putK_kv, e2, merge_kv' r (a ++ [p]) h2 fun q hq => ?_]
    · rw [List.append_assoc]
      rfl
    · unfold has
      rw [List.any_append]
      have h3 := hd q (List.mem_cons_of_mem _ hq)
      unfold has at h3
      rw [h3]
      have : p.1 ≠ q.1 := fun z => h1 (z ▸ List.mem_map.mpr ⟨q, hq, rfl⟩)
      simp [this]
theorem merge_kv {l : Tb} (h : Nd l) : mergeK [] (kv l) = kv l := merge_kv' l [] h fun _ _ => rfl
theorem vt_small {c : Int} {l : Tb} (hk : Nd l) (hw : ∀ x ∈ l.map (·.1), xyz x ∧ x.length ≤ 2) (hn : ∀ p ∈ l, 1 ≤ p.2 ∧ p.2 < c) (hl : l.length ≤ 3) : VT c 2 3 l :=
  ⟨hk, hn, fun p hp => hw _ (List.mem_map.mpr ⟨p, hp, rfl⟩), hl⟩
theorem vt1 {c n : Int} {a : Str} (ha : xyz a ∧ a.length ≤ 2) (h1 : 1 ≤ n) (h2 : n < c) : VT c 2 3 [(a, n)] := by
  refine ⟨by show [a].Nodup; simp, fun p hp => ?_, fun p hp => ?_, by show 1 ≤ 3; decide⟩
  · have : p = (a, n) := by simpa using hp
    subst this
    exact ⟨h1, h2⟩
  · have : p = (a, n) := by simpa using hp
    subst this
    exact ha
theorem vt2 {c n m : Int} {a b : Str} (hne : a ≠ b) (ha : xyz a ∧ a.length ≤ 2) (hb : xyz b ∧ b.length ≤ 2) (h1 : 1 ≤ n ∧ n < c) (h2 : 1 ≤ m ∧ m < c) : VT c 2 3 [(a, n), (b, m)] := by
  refine ⟨by show [a, b].Nodup; simp [hne], fun p hp => ?_, fun p hp => ?_, by show 2 ≤ 3; decide⟩
  · have hp' : p = (a, n) ∨ p = (b, m) := by simpa using hp
    rcases hp' with rfl | rfl
    · exact h1
    · exact h2
  · have hp' : p = (a, n) ∨ p = (b, m) := by simpa using hp
    rcases hp' with rfl | rfl
    · exact ha
    · exact hb
theorem vt3 {c n m k : Int} {a b d : Str} (hn : ([a, b, d] : List Str).Nodup) (ha : xyz a ∧ a.length ≤ 2) (hb : xyz b ∧ b.length ≤ 2) (hd : xyz d ∧ d.length ≤ 2) (h1 : 1 ≤ n ∧ n < c) (h2 : 1 ≤ m ∧ m < c) (h3 : 1 ≤ k ∧ k < c) : VT c 2 3 [(a, n), (b, m), (d, k)] := by
  refine ⟨hn, fun p hp => ?_, fun p hp => ?_, by show 3 ≤ 3; decide⟩
  · have hp' : p = (a, n) ∨ p = (b, m) ∨ p = (d, k) := by simpa using hp
    rcases hp' with rfl | rfl | rfl
    · exact h1
    · exact h2
    · exact h3
  · have hp' : p = (a, n) ∨ p = (b, m) ∨ p = (d, k) := by simpa using hp
    rcases hp' with rfl | rfl | rfl
    · exact ha
    · exact hb
    · exact hd
section
variable {P : Program} {w : World} {K : PySem.W.Frag} {mg : Str → Option Value} {base : Heap}
def spLot : Sp := fun vs H Q _ => ∃ (h ca : Addr) (c : Int) (z : Str) (m k : Nat), vs = [.ref h, .int c, .str z, .int m, .int k] ∧ HandAt ca H h ∧ 2 ≤ c ∧ c ≤ 7 ∧ xyz z ∧ 1 ≤ z.length ∧ z.length ≤ 1000 ∧ m ≤ 1000 ∧ k ≤ 1000 ∧
  ∀ H' d l, HandAt ca H' h → But h H H' → H d = none → H' d = some (.dK (kv l)) → VT c m k l → Q (.ref d) H'
abbrev nLot : List Str := ["_law_hand_here", "_law_clock_here", "_law_letters", "_law_most", "_law_many", "_law_found", "_law_turn"]
def spSmall : Sp := fun vs H Q _ => ∃ (h ca : Addr) (c : Int), vs = [.ref h, .int c] ∧ HandAt ca H h ∧ 2 ≤ c ∧ c ≤ 7 ∧ ∀ H' d l, HandAt ca H' h → But h H H' → H d = none → H' d = some (.dK (kv l)) → VT c 2 3 l → l ≠ [] → Q (.ref d) H'
/-- what is known of each of the small ones -/
def Good (c : Int) (H0 H : Hp) (d : Addr) : Prop := ∃ l, H d = some (.dK (kv l)) ∧ VT c 2 3 l ∧ H0 d = none ∧ l ≠ []
theorem Good.same {c : Int} {H0 H H' : Hp} {d : Addr} (g : Good c H0 H d) (s : Same H H') : Good c H0 H' d := by
  obtain ⟨l, h1, h2, h3, h4⟩ := g
  exact ⟨l, s _ _ h1, h2, h3, h4⟩
/-- one more display -/
theorem one_more {c : Int} {H0 H : Hp} {ds : List Addr} {p : Addr} {l : Tb} (s0 : Same H0 H) (hp : H p = none) (g : ∀ d ∈ ds, Good c H0 H d) (hv : VT c 2 3 l) (hne : l ≠ [] := by exact List.cons_ne_nil _ _) :
    Same H0 (upd H p (.dK (kv l))) ∧ ∀ d ∈ ds ++ [p], Good c H0 (upd H p (.dK (kv l))) d := by
  refine ⟨s0.trans (same_upd hp), fun d hd => ?_⟩
  rcases List.mem_append.mp hd with hd | hd
  · exact (g d hd).same (same_upd hp)
  · have : d = p := by simpa using hd
    subst this
    exact ⟨l, upd_same, hv, s0.free hp, hne⟩
theorem one_list {c : Int} {H0 H : Hp} {ds : List Addr} {p : Addr} {xs : List V} (s0 : Same H0 H) (hp : H p = none) (g : ∀ d ∈ ds, Good c H0 H d) :
    Same H0 (upd H p (.lst xs)) ∧ ∀ d ∈ ds, Good c H0 (upd H p (.lst xs)) d := ⟨s0.trans (same_upd hp), fun d hd => (g d hd).same (same_upd hp)⟩
abbrev nSmall : List Str := ["_law_hand_here", "_law_clock_here", "_law_number", "_law_some_here"]
end
end Fp

set_option Elab.async false
set_option linter.all false
set_option maxRecDepth 100000
set_option maxHeartbeats 4000000
namespace Fp
open PySem PySem.Spec PyProof.Rows L2
section
variable {P : Program} {w : World} {K : PySem.W.Frag} {mg : Str → Option Value} {base : Heap}
def spWoven : Sp := fun vs H Q _ => ∃ (h ca : Addr) (c k : Int), vs = [.ref h, .int c, .int k] ∧ HandAt ca H h ∧ 2 ≤ c ∧ c ≤ 7 ∧ 1 ≤ k ∧ k ≤ 1000 ∧ ∀ H' d l, HandAt ca H' h → But h H H' → H d = none → H' d = some (.dK (kv l)) → VT c 7 120 l → Q (.ref d) H'
abbrev nWoven : List Str := ["_law_hand_here", "_law_clock_here", "_law_most", "_law_found", "_law_turn", "_law_one", "_law_other", "_law_longer", "_law_word_here"]
/-- a new thing stands apart from what stood -/
theorem But.ne {a : Addr} {H H' : Hp} (k : But a H H') {p q : Addr} {o : HO} (hp : H p = some o) (np : p ≠ a) (hq : H' q = none) : p ≠ q := ne_of_none (k _ _ hp np) hq
theorem HandAt.neD {ca : Addr} {H : Hp} {h d : Addr} {kvs : List (Key × V)} (x : HandAt ca H h) (hd : H d = some (.dK kvs)) : d ≠ h := by
  obtain ⟨xs, hx⟩ := x.lst
  exact ne_of hd hx (by intro z; cases z)
end
end Fp

set_option Elab.async false
set_option linter.all false
set_option maxRecDepth 100000
set_option maxHeartbeats 4000000
namespace Fp
open PySem PySem.Spec PyProof.Rows L2
/-! ### the order of words: total, no two alike -/
theorem leR_total : PySem.W.TotalLe leR := PySem.W.sortLe_total (listOrd itemOrd) false fun b => PySem.W.keyToks (rk b)
theorem rk_inj {a b : Str} (h : PySem.W.keyToks (rk a) = PySem.W.keyToks (rk b)) : a = b := by
  unfold rk at h
  simp only [PySem.W.keyToks, PySem.W.keyToksAll] at h
  have : a.cps.toList = b.cps.toList := by simp at h; rw [h.2]
  exact PySem.W.str_of_cps this
theorem leR_anti {a b : Str} (h1 : leR a b = true) (h2 : leR b a = true) : a = b := by
  have e1 : PySem.W.dataLt (rk b) (rk a) = false := by
    have : (!PySem.W.dataLt (rk b) (rk a)) = true := h1
    simpa using this
  have e2 : PySem.W.dataLt (rk a) (rk b) = false := by
    have : (!PySem.W.dataLt (rk a) (rk b)) = true := h2
    simpa using this
  exact rk_inj ((listOrd itemOrd).total _ _ e2 e1)
theorem ord_perm {l m : List Str} (h : l.Perm m) : l.mergeSort leR = m.mergeSort leR :=
  List.Perm.eq_of_pairwise (le := fun a b => leR a b = true) (fun a b _ _ h1 h2 => leR_anti h1 h2) (PySem.W.sort_pairwise leR_total l) (PySem.W.sort_pairwise leR_total m)
    (((List.mergeSort_perm l leR).trans h).trans (List.mergeSort_perm m leR).symm)
/-! ### tables in order -/
theorem num_find {l : Tb} (h : Nd l) {p : Str × Int} (hp : p ∈ l) : num l p.1 = p.2 := by
  obtain ⟨i, hi, e⟩ := List.mem_iff_getElem.mp hp
  exact num_of h (i := i) (by rw [List.getElem?_eq_getElem hi, e])
theorem num_not {l : Tb} {x : Str} (h : x ∉ l.map (·.1)) : num l x = 0 := by
  refine (valV_no ?_).2
  cases e : has l x with
  | false => rfl
  | true => exact absurd (has_iff.mp e) h
theorem canon_keys (l : Tb) : (canon l).map (·.1) = ordW l := by
  unfold canon
  rw [List.map_map]
  exact List.map_id' _
theorem canon_nd {l : Tb} (h : Nd l) : Nd (canon l) := by
  unfold Nd
  rw [canon_keys]
  exact (List.mergeSort_perm _ _).nodup_iff.mpr h
theorem canon_mem {l : Tb} {p : Str × Int} (h : p ∈ canon l) : p.1 ∈ l.map (·.1) ∧ p.2 = num l p.1 := by
  unfold canon at h
  obtain ⟨x, hx, rfl⟩ := List.mem_map.mp h
  exact ⟨ordW_mem.mp hx, rfl⟩
theorem canon_num {l : Tb} (h : Nd l) (x : Str) : num (canon l) x = num l x := by
  by_cases hx : x ∈ l.map (·.1)
  · have hm : (x, num l x) ∈ canon l := by
      unfold canon
      exact List.mem_map.mpr ⟨x, ordW_mem.mpr hx, rfl⟩
    exact num_find (canon_nd h) hm
  · rw [num_not hx, num_not]
    rw [canon_keys]
    exact fun z => hx (ordW_mem.mp z)
/-- the same words with the same numbers: the same in order -/
theorem canon_eq {l m : Tb} (hl : Nd l) (hm : Nd m) (hk : ∀ x, x ∈ l.map (·.1) ↔ x ∈ m.map (·.1)) (hn : ∀ x, num l x = num m x) : canon l = canon m := by
  have e : ordW l = ordW m := ord_perm ((List.perm_ext_iff_of_nodup hl hm).mpr hk)
  unfold canon
  rw [e]
  exact List.map_congr_left fun x _ => by rw [hn x]
theorem canon_canon {l : Tb} (h : Nd l) : canon (canon l) = canon l :=
  canon_eq (canon_nd h) h (fun x => by rw [canon_keys]; exact ordW_mem) (canon_num h)
theorem vt_canon {c : Int} {m k : Nat} {l : Tb} (h : VT c m k l) : VT c m k (canon l) := by
  have key : ∀ p ∈ canon l, p ∈ l := fun p hp => by
    obtain ⟨h1, h2⟩ := canon_mem hp
    obtain ⟨q, hq, e⟩ := List.mem_map.mp h1
    have := num_find h.nd hq
    have : p = q := by
      obtain ⟨a, b⟩ := p
      obtain ⟨a', b'⟩ := q
      simp only at e h2 this
      subst e
      rw [h2, this]
    rw [this]
    exact hq
  refine ⟨canon_nd h.nd, fun p hp => h.nu p (key p hp), fun p hp => h.wd p (key p hp), ?_⟩
  have : (canon l).length = l.length := by
    unfold canon
    rw [List.length_map, ordW_len]
  rw [this]
  exact h.ln
/-- a number changed: not the same -/
theorem canon_ne {l m : Tb} (hl : Nd l) (hm : Nd m) {x : Str} (h : num l x ≠ num m x) : canon l ≠ canon m := fun e => h (by rw [← canon_num hl, ← canon_num hm, e])
theorem num_put {l : Tb} (x : Str) (n : Int) : num (putT l x n) x = n := by
  unfold putT
  cases e : has l x with
  | true =>
    rw [if_pos rfl]
    unfold num
    have : ∀ r : Tb, has r x = true → ((r.map fun p => if p.1 = x then (p.1, n) else p).find? fun p => decide (p.1 = x)).map (·.2) = some n := by
      intro r
      induction r with
      | nil => intro h; cases h
      | cons p r ih =>
        intro h
        by_cases hp : p.1 = x
        · rw [List.map_cons, if_pos hp, List.find?_cons_of_pos (by simpa using hp)]
          rfl
        · rw [List.map_cons, if_neg hp, List.find?_cons_of_neg (by simpa using hp)]
          refine ih ?_
          unfold has at h ⊢
          rw [List.any_cons] at h
          simpa [hp] using h
    rw [this l e]
    rfl
  | false =>
    rw [if_neg Bool.false_ne_true]
    unfold num
    rw [List.find?_append]
    have : l.find? (fun p => decide (p.1 = x)) = none := by
      rw [has_find] at e
      cases z : l.find? fun p => decide (p.1 = x) with
      | none => rfl
      | some p => rw [z] at e; cases e
    rw [this]
    simp
theorem num_drop {l : Tb} (x : Str) : num (dropT l x) x = 0 := by
  refine num_not fun h => ?_
  obtain ⟨p, hp, e⟩ := List.mem_map.mp h
  have := (List.mem_filter.mp hp).2
  simp [e] at this
theorem num_putM (c : Int) (l : Tb) (x : Str) (n : Int) : num (putM c l x n) x = (num l x + n) % c := by
  unfold putM
  split
  · rename_i h
    rw [num_drop, h]
  · exact num_put x _
theorem num_range {c : Int} {m k : Nat} {l : Tb} (hc : 0 < c) (h : VT c m k l) (x : Str) : 0 ≤ num l x ∧ num l x < c := by
  by_cases hx : x ∈ l.map (·.1)
  · obtain ⟨p, hp, rfl⟩ := List.mem_map.mp hx
    rw [num_find h.nd hp]
    have := h.nu p hp
    omega
  · rw [num_not hx]
    omega
/-- words put in backward -/
theorem puts_new : ∀ (xs : List Str) (f : Str → Int) (a : Tb), (a.map (·.1) ++ xs).Nodup → xs.foldl (fun a x => putT a x (f x)) a = a ++ xs.map fun x => (x, f x)
  | [], f, a, _ => by simp
  | x :: r, f, a, h => by
    have h1 : x ∉ a.map (·.1) := fun z => by
      have := (List.nodup_append.mp h).2.2 x z x List.mem_cons_self
      exact this rfl
    have e : putT a x (f x) = a ++ [(x, f x)] := by
      unfold putT
      have : has a x = false := by
        cases z : has a x with
        | false => rfl
        | true => exact absurd (has_iff.mp z) h1
      rw [this, if_neg Bool.false_ne_true]
    rw [List.foldl_cons, e, puts_new r f _ (by rw [List.map_append, List.append_assoc]; exact h), List.map_cons, List.append_assoc]
    rfl
def backT (l : Tb) : Tb := (ordW l).reverse.map fun x => (x, num l x)
theorem backT_keys (l : Tb) : (backT l).map (·.1) = (ordW l).reverse := by
  unfold backT
  rw [List.map_map]
  exact List.map_id' _
theorem ordW_nd {l : Tb} (h : Nd l) : (ordW l).Nodup := (List.mergeSort_perm _ _).nodup_iff.mpr h
theorem backT_nd {l : Tb} (h : Nd l) : Nd (backT l) := by
  unfold Nd
  rw [backT_keys]
  exact (List.reverse_perm _).nodup_iff.mpr (ordW_nd h)
theorem backT_num {l : Tb} (h : Nd l) (x : Str) : num (backT l) x = num l x := by
  by_cases hx : x ∈ l.map (·.1)
  · have hm : (x, num l x) ∈ backT l := by
      unfold backT
      exact List.mem_map.mpr ⟨x, List.mem_reverse.mpr (ordW_mem.mpr hx), rfl⟩
    exact num_find (backT_nd h) hm
  · rw [num_not hx, num_not]
    rw [backT_keys]
    exact fun z => hx (ordW_mem.mp (List.mem_reverse.mp z))
theorem backT_canon {l : Tb} (h : Nd l) : canon (backT l) = canon l :=
  canon_eq (backT_nd h) h (fun x => by rw [backT_keys, List.mem_reverse]; exact ordW_mem) (backT_num h)
theorem vt_back {c : Int} {m k : Nat} {l : Tb} (h : VT c m k l) : VT c m k (backT l) := by
  have key : ∀ p ∈ backT l, p ∈ l := fun p hp => by
    unfold backT at hp
    obtain ⟨x, hx, rfl⟩ := List.mem_map.mp hp
    obtain ⟨q, hq, e⟩ := List.mem_map.mp (ordW_mem.mp (List.mem_reverse.mp hx))
    have := num_find h.nd hq
    obtain ⟨a, b⟩ := q
    simp only at e this
    subst e
    rw [this]
    exact hq
  refine ⟨backT_nd h.nd, fun p hp => h.nu p (key p hp), fun p hp => h.wd p (key p hp), ?_⟩
  unfold backT
  rw [List.length_map, List.length_reverse, ordW_len]
  exact h.ln
section
variable {P : Program} {w : World} {K : PySem.W.Frag} {mg : Str → Option Value} {base : Heap}
def spSome : Sp := fun vs H Q _ => ∃ (h ca : Addr) (c : Int), vs = [.ref h, .int c] ∧ HandAt ca H h ∧ 2 ≤ c ∧ c ≤ 7 ∧ ∀ H' d l, HandAt ca H' h → But h H H' → H d = none → H' d = some (.dK (kv l)) → VT c 7 120 l → Q (.ref d) H'
abbrev nSome : List Str := ["_law_hand_here", "_law_clock_here", "_law_kind"]
end
end Fp

set_option Elab.async false
set_option linter.all false
set_option maxRecDepth 100000
set_option maxHeartbeats 4000000
namespace Fp
open PySem PySem.Spec PyProof.Rows L2
/-! ### sums of numbers by words -/
def tot (es : Tb) (x : Str) : Int := (es.map fun p => if p.1 = x then p.2 else 0).sum
theorem tot_nil (x : Str) : tot [] x = 0 := rfl
theorem tot_cons (p : Str × Int) (r : Tb) (x : Str) : tot (p :: r) x = (if p.1 = x then p.2 else 0) + tot r x := by
  unfold tot
  rw [List.map_cons, List.sum_cons]
theorem tot_app (a b : Tb) (x : Str) : tot (a ++ b) x = tot a x + tot b x := by
  induction a with
  | nil => rw [List.nil_append, tot_nil, Int.zero_add]
  | cons p r ih => rw [List.cons_append, tot_cons, tot_cons, ih, Int.add_assoc]
theorem tot_not {l : Tb} {x : Str} (h : x ∉ l.map (·.1)) : tot l x = 0 := by
  induction l with
  | nil => rfl
  | cons p r ih =>
    rw [tot_cons, if_neg (fun z : p.1 = x => h (by rw [← z]; exact List.mem_cons_self)), ih (fun z => h (List.mem_cons_of_mem _ z)), Int.zero_add]
theorem num_cons (p : Str × Int) (r : Tb) (x : Str) : num (p :: r) x = if p.1 = x then p.2 else num r x := by
  unfold num
  by_cases h : p.1 = x
  · rw [List.find?_cons_of_pos (by simpa using h), if_pos h]
    rfl
  · rw [List.find?_cons_of_neg (by simpa using h), if_neg h]
theorem tot_num {l : Tb} (h : Nd l) (x : Str) : tot l x = num l x := by
  induction l with
  | nil => rfl
  | cons p r ih =>
    have h' : (p.1 :: r.map (·.1)).Nodup := h
    obtain ⟨h1, h2⟩ := List.nodup_cons.mp h'
    rw [tot_cons, num_cons]
    by_cases e : p.1 = x
    · rw [if_pos e, if_pos e, tot_not (e ▸ h1), Int.add_zero]
    · rw [if_neg e, if_neg e, Int.zero_add, ih h2]
theorem num_put_ne {l : Tb} {x y : Str} (n : Int) (h : x ≠ y) : num (putT l x n) y = num l y := by
  unfold putT
  cases has l x with
  | true =>
    rw [if_pos rfl]
    induction l with
    | nil => rfl
    | cons p r ih =>
      rw [List.map_cons, num_cons, num_cons, ih]
      by_cases e : p.1 = x
      · rw [if_pos e]
        show (if p.1 = y then n else num r y) = _
        rw [if_neg (fun z => h (e ▸ z)), if_neg (fun z => h (e ▸ z))]
      · rw [if_neg e]
  | false =>
    rw [if_neg Bool.false_ne_true]
    induction l with
    | nil =>
      rw [List.nil_append, num_cons, if_neg h]
    | cons p r ih => rw [List.cons_append, num_cons, num_cons, ih]
theorem num_drop_ne {l : Tb} {x y : Str} (h : x ≠ y) : num (dropT l x) y = num l y := by
  unfold dropT
  induction l with
  | nil => rfl
  | cons p r ih =>
    by_cases e : p.1 = x
    · rw [List.filter_cons_of_neg (by simpa using e), ih, num_cons, if_neg (fun z => h (e ▸ z))]
    · rw [List.filter_cons_of_pos (by simpa using e), num_cons, num_cons, ih]
theorem num_putM_ne (c : Int) {l : Tb} {x y : Str} (n : Int) (h : x ≠ y) : num (putM c l x n) y = num l y := by
  unfold putM
  split
  · exact num_drop_ne h
  · exact num_put_ne _ h
/-- the law's putting, entry by entry -/
theorem num_foldM {c : Int} : ∀ (es : Tb) (a : Tb) (x : Str), num (es.foldl (fun a p => putM c a p.1 p.2) a) x % c = (num a x + tot es x) % c
  | [], a, x => by rw [tot_nil, Int.add_zero]; rfl
  | p :: r, a, x => by
    rw [List.foldl_cons, num_foldM r, tot_cons]
    by_cases e : p.1 = x
    · subst e
      rw [num_putM, if_pos rfl, Int.emod_add_emod, Int.add_assoc]
    · rw [num_putM_ne _ _ e, if_neg e, Int.zero_add]
/-- laying to, entry by entry -/
def addT (es a : Tb) : Tb := es.foldl (fun a p => putT a p.1 (num a p.1 + p.2)) a
theorem num_addT : ∀ (es a : Tb) (x : Str), num (addT es a) x = num a x + tot es x
  | [], a, x => by rw [tot_nil, Int.add_zero]; rfl
  | p :: r, a, x => by
    have e0 : addT (p :: r) a = addT r (putT a p.1 (num a p.1 + p.2)) := rfl
    rw [e0, num_addT r, tot_cons]
    by_cases e : p.1 = x
    · subst e
      rw [num_put, if_pos rfl, Int.add_assoc]
    · rw [num_put_ne _ e, if_neg e, Int.zero_add]
theorem nd_addT : ∀ (es a : Tb), Nd a → Nd (addT es a)
  | [], a, h => h
  | p :: r, a, h => nd_addT r _ (nd_put h _ _)
theorem len_addT : ∀ (es a : Tb), (addT es a).length ≤ a.length + es.length
  | [], a => Nat.le_refl _
  | p :: r, a => by
    have h1 := len_addT r (putT a p.1 (num a p.1 + p.2))
    have h2 := len_put a p.1 (num a p.1 + p.2)
    have e0 : addT (p :: r) a = addT r (putT a p.1 (num a p.1 + p.2)) := rfl
    rw [e0, List.length_cons]
    omega
theorem key_put {l : Tb} {x : Str} {n : Int} {q : Str × Int} (h : q ∈ putT l x n) : q.1 = x ∨ ∃ p ∈ l, p.1 = q.1 := by
  rcases mem_put h with rfl | h
  · exact .inl rfl
  · exact .inr ⟨q, h, rfl⟩
theorem key_addT : ∀ (es a : Tb) (q : Str × Int), q ∈ addT es a → (∃ p ∈ a, p.1 = q.1) ∨ ∃ p ∈ es, p.1 = q.1
  | [], a, q, h => .inl ⟨q, h, rfl⟩
  | p :: r, a, q, h => by
    rcases key_addT r _ q h with ⟨p', h1, h2⟩ | ⟨p', h1, h2⟩
    · rcases key_put h1 with e | ⟨p2, h3, h4⟩
      · exact .inr ⟨p, List.mem_cons_self, e ▸ h2⟩
      · exact .inl ⟨p2, h3, h4.trans h2⟩
    · exact .inr ⟨p', List.mem_cons_of_mem _ h1, h2⟩
/-- tidied -/
def tidyM (c : Int) (l : Tb) : Tb := (l.filter fun p => decide (p.2 % c ≠ 0)).map fun p => (p.1, p.2 % c)
theorem tidy_keys {c : Int} {l : Tb} {q : Str × Int} (h : q ∈ tidyM c l) : ∃ p ∈ l, q = (p.1, p.2 % c) ∧ p.2 % c ≠ 0 := by
  unfold tidyM at h
  obtain ⟨p, hp, rfl⟩ := List.mem_map.mp h
  obtain ⟨h1, h2⟩ := List.mem_filter.mp hp
  exact ⟨p, h1, rfl, of_decide_eq_true h2⟩
theorem tidy_nd {c : Int} {l : Tb} (h : Nd l) : Nd (tidyM c l) := by
  unfold Nd tidyM
  rw [List.map_map]
  have : ((fun p : Str × Int => p.1) ∘ fun p : Str × Int => (p.1, p.2 % c)) = fun p => p.1 := rfl
  rw [this]
  exact (List.Sublist.map _ List.filter_sublist).nodup h
theorem tidy_len {c : Int} {l : Tb} : (tidyM c l).length ≤ l.length := by
  unfold tidyM
  rw [List.length_map]
  exact List.length_filter_le _ _
theorem tidy_rg {c : Int} {l : Tb} (hc : 0 < c) : ∀ q ∈ tidyM c l, 1 ≤ q.2 ∧ q.2 < c := fun q hq => by
  obtain ⟨p, _, rfl, h⟩ := tidy_keys hq
  have h1 := Int.emod_nonneg p.2 (show c ≠ 0 by omega)
  have h2 := Int.emod_lt_of_pos p.2 hc
  show 1 ≤ p.2 % c ∧ p.2 % c < c
  omega
theorem num_tidy {c : Int} {l : Tb} (h : Nd l) (x : Str) : num (tidyM c l) x = num l x % c := by
  unfold tidyM
  induction l with
  | nil => rfl
  | cons p r ih =>
    have h' : (p.1 :: r.map (·.1)).Nodup := h
    obtain ⟨h1, h2⟩ := List.nodup_cons.mp h'
    have ih := ih h2
    rw [num_cons]
    by_cases e : p.2 % c = 0
    · rw [List.filter_cons_of_neg (by simpa using e), ih]
      by_cases e2 : p.1 = x
      · rw [if_pos e2, e, num_not (e2 ▸ h1)]
        rfl
      · rw [if_neg e2]
    · rw [List.filter_cons_of_pos (by simpa using e), List.map_cons, num_cons]
      by_cases e2 : p.1 = x
      · rw [if_pos e2, if_pos e2]
      · rw [if_neg e2, if_neg e2, ih]
theorem vt_tidy {c : Int} {m : Nat} {l : Tb} (hc : 0 < c) (h : Nd l) (hw : ∀ p ∈ l, xyz p.1 ∧ p.1.length ≤ m) : VT c m l.length (tidyM c l) :=
  ⟨tidy_nd h, tidy_rg hc, fun q hq => by
    obtain ⟨p, hp, rfl, _⟩ := tidy_keys hq
    exact hw p hp, tidy_len⟩
/-! ### two tables with the same numbers are the same in order -/
theorem rg_key {l : Tb} (h : Nd l) (hr : ∀ p ∈ l, 1 ≤ p.2) (x : Str) : x ∈ l.map (·.1) ↔ num l x ≠ 0 := by
  constructor
  · intro hx
    obtain ⟨p, hp, rfl⟩ := List.mem_map.mp hx
    rw [num_find h hp]
    have := hr p hp
    omega
  · intro hn
    by_cases hx : x ∈ l.map (·.1)
    · exact hx
    · exact absurd (num_not hx) hn
theorem canon_ext {l m : Tb} (hl : Nd l) (hm : Nd m) (rl : ∀ p ∈ l, 1 ≤ p.2) (rm : ∀ p ∈ m, 1 ≤ p.2) (h : ∀ x, num l x = num m x) : canon l = canon m :=
  canon_eq hl hm (fun x => by rw [rg_key hl rl, rg_key hm rm, h x]) h
theorem num_mod {c : Int} {m k : Nat} {l : Tb} (hc : 0 < c) (h : VT c m k l) (x : Str) : num l x % c = num l x :=
  Int.emod_eq_of_lt (num_range hc h x).1 (num_range hc h x).2
/-- tables by a clock -/
theorem vt_ext {c : Int} {m k m' k' : Nat} {l l' : Tb} (h : VT c m k l) (h' : VT c m' k' l') (e : ∀ x, num l x = num l' x) : canon l = canon l' :=
  canon_ext h.nd h'.nd (fun p hp => (h.nu p hp).1) (fun p hp => (h'.nu p hp).1) e
/-! ### what the law's sums and products have -/
def scl (f : Int) (l : Tb) : Tb := l.map fun p => (p.1, f * p.2)
theorem tot_scl (f : Int) (l : Tb) (x : Str) : tot (scl f l) x = f * tot l x := by
  induction l with
  | nil => rw [tot_nil, Int.mul_zero]; rfl
  | cons p r ih =>
    have e : scl f (p :: r) = (p.1, f * p.2) :: scl f r := rfl
    rw [e, tot_cons, tot_cons, ih, Int.mul_add]
    by_cases h : p.1 = x
    · rw [if_pos h, if_pos h]
    · rw [if_neg h, if_neg h, Int.mul_zero]
theorem num_plusM {c f : Int} {m k m' k' : Nat} {l1 l2 : Tb} (hc : 0 < c) (h1 : VT c m k l1) (h2 : VT c m k' l2) (x : Str) : num (plusM c l1 l2 f) x = (num l1 x + f * num l2 x) % c := by
  have v := vt_plusM hc h1 h2 f
  rw [← num_mod hc v x]
  have e : plusM c l1 l2 f = (scl f l2).foldl (fun a p => putM c a p.1 p.2) l1 := by
    unfold plusM scl
    rw [List.foldl_map]
  rw [e, num_foldM, tot_scl, tot_num h2.nd]
/-- each word of one with each of the other behind it -/
def prs (l m : Tb) : Tb := l.flatMap fun p => m.map fun q => (p.1 ++ q.1, p.2 * q.2)
theorem prs_cons (p : Str × Int) (l m : Tb) : prs (p :: l) m = (m.map fun q => (p.1 ++ q.1, p.2 * q.2)) ++ prs l m := List.flatMap_cons
theorem prodM_tab (c : Int) (l m : Tb) : prodM c l m = (prs l m).foldl (fun a p => putM c a p.1 p.2) [] := by
  have key : ∀ (l : Tb) (a : Tb), l.foldl (fun acc p => m.foldl (fun acc q => putM c acc (p.1 ++ q.1) (p.2 * q.2)) acc) a = (prs l m).foldl (fun a p => putM c a p.1 p.2) a := by
    intro l
    induction l with
    | nil => intro a; rfl
    | cons p r ih =>
      intro a
      rw [List.foldl_cons, ih, prs_cons, List.foldl_append, List.foldl_map]
  exact key l []
theorem num_prodM {c : Int} {m1 k1 m2 k2 : Nat} {l1 l2 : Tb} (hc : 0 < c) (h1 : VT c m1 k1 l1) (h2 : VT c m2 k2 l2) (x : Str) : num (prodM c l1 l2) x = tot (prs l1 l2) x % c := by
  rw [← num_mod hc (vt_prodM hc h1 h2) x, prodM_tab, num_foldM]
  have : num [] x = 0 := rfl
  rw [this, Int.zero_add]
def multT (l m : Tb) : Tb := addT (prs l m) []
/-! ### products by their totals -/
theorem str_cancel {u v w : Str} (h : u ++ v = u ++ w) : v = w := by
  have e : (u ++ v).cps.toList = (u ++ w).cps.toList := by rw [h]
  have e1 : ∀ a b : Str, (a ++ b).cps.toList = a.cps.toList ++ b.cps.toList := fun a b => by
    show (a.cps ++ b.cps).toList = _
    exact Array.toList_append
  rw [e1, e1] at e
  exact PySem.W.str_of_cps (List.append_cancel_left e)
theorem str_cancel_r {u v w : Str} (h : v ++ u = w ++ u) : v = w := by
  have e : (v ++ u).cps.toList = (w ++ u).cps.toList := by rw [h]
  have e1 : ∀ a b : Str, (a ++ b).cps.toList = a.cps.toList ++ b.cps.toList := fun a b => by
    show (a.cps ++ b.cps).toList = _
    exact Array.toList_append
  rw [e1, e1] at e
  exact PySem.W.str_of_cps (List.append_cancel_right e)
theorem str_assoc (u v w : Str) : (u ++ v) ++ w = u ++ (v ++ w) := by
  apply PySem.W.str_of_cps
  have e1 : ∀ a b : Str, (a ++ b).cps.toList = a.cps.toList ++ b.cps.toList := fun a b => by
    show (a.cps ++ b.cps).toList = _
    exact Array.toList_append
  rw [e1, e1, e1, e1, List.append_assoc]
/-- a word put ahead of each -/
def fwd (p : Str × Int) (m : Tb) : Tb := m.map fun q => (p.1 ++ q.1, p.2 * q.2)
theorem tot_fwd (p : Str × Int) (m : Tb) (x : Str) : (∃ v, p.1 ++ v = x ∧ tot (fwd p m) x = p.2 * tot m v) ∨ ((∀ v, p.1 ++ v ≠ x) ∧ tot (fwd p m) x = 0) := by
  by_cases h : ∃ v, p.1 ++ v = x
  · obtain ⟨v, hv⟩ := h
    refine .inl ⟨v, hv, ?_⟩
    induction m with
    | nil => rw [tot_nil, Int.mul_zero]; rfl
    | cons q r ih =>
      have e : fwd p (q :: r) = (p.1 ++ q.1, p.2 * q.2) :: fwd p r := rfl
      rw [e, tot_cons, tot_cons, ih, Int.mul_add]
      by_cases z : q.1 = v
      · rw [if_pos z, if_pos (by rw [z]; exact hv)]
      · rw [if_neg z, if_neg (fun y => z (str_cancel (y.trans hv.symm))), Int.mul_zero]
  · have h' : ∀ v, p.1 ++ v ≠ x := fun v hv => h ⟨v, hv⟩
    refine .inr ⟨h', ?_⟩
    induction m with
    | nil => rfl
    | cons q r ih =>
      have e : fwd p (q :: r) = (p.1 ++ q.1, p.2 * q.2) :: fwd p r := rfl
      rw [e, tot_cons, if_neg (h' q.1), ih, Int.zero_add]
def bwd (q : Str × Int) (l : Tb) : Tb := l.map fun p => (p.1 ++ q.1, p.2 * q.2)
theorem tot_bwd (q : Str × Int) (l : Tb) (x : Str) : (∃ v, v ++ q.1 = x ∧ tot (bwd q l) x = tot l v * q.2) ∨ ((∀ v, v ++ q.1 ≠ x) ∧ tot (bwd q l) x = 0) := by
  by_cases h : ∃ v, v ++ q.1 = x
  · obtain ⟨v, hv⟩ := h
    refine .inl ⟨v, hv, ?_⟩
    induction l with
    | nil => rw [tot_nil, Int.zero_mul]; rfl
    | cons p r ih =>
      have e : bwd q (p :: r) = (p.1 ++ q.1, p.2 * q.2) :: bwd q r := rfl
      rw [e, tot_cons, tot_cons, ih, Int.add_mul]
      by_cases z : p.1 = v
      · rw [if_pos z, if_pos (by rw [z]; exact hv)]
      · rw [if_neg z, if_neg (fun y => z (str_cancel_r (y.trans hv.symm))), Int.zero_mul]
  · have h' : ∀ v, v ++ q.1 ≠ x := fun v hv => h ⟨v, hv⟩
    refine .inr ⟨h', ?_⟩
    induction l with
    | nil => rfl
    | cons p r ih =>
      have e : bwd q (p :: r) = (p.1 ++ q.1, p.2 * q.2) :: bwd q r := rfl
      rw [e, tot_cons, if_neg (h' p.1), ih, Int.zero_add]
theorem tot_prs_cons (p : Str × Int) (l m : Tb) (x : Str) : tot (prs (p :: l) m) x = tot (fwd p m) x + tot (prs l m) x := by
  rw [prs_cons, tot_app]
  rfl
theorem prs_nil_r (l : Tb) : prs l [] = [] := by
  induction l with
  | nil => rfl
  | cons p r ih => rw [prs_cons, ih]; rfl
theorem tot_prs_cons_r (q : Str × Int) (l m : Tb) (x : Str) : tot (prs l (q :: m)) x = tot (bwd q l) x + tot (prs l m) x := by
  induction l with
  | nil => rfl
  | cons p r ih =>
    rw [tot_prs_cons, tot_prs_cons, ih]
    have e1 : fwd p (q :: m) = (p.1 ++ q.1, p.2 * q.2) :: fwd p m := rfl
    have e2 : bwd q (p :: r) = (p.1 ++ q.1, p.2 * q.2) :: bwd q r := rfl
    rw [e1, e2, tot_cons, tot_cons]
    omega
/-- alike by a clock -/
def Lk (c : Int) (l m : Tb) : Prop := ∀ x, tot l x % c = tot m x % c
theorem Lk.refl (c : Int) (l : Tb) : Lk c l l := fun _ => rfl
theorem Lk.symm {c : Int} {l m : Tb} (h : Lk c l m) : Lk c m l := fun x => (h x).symm
theorem Lk.trans {c : Int} {l m n : Tb} (h : Lk c l m) (g : Lk c m n) : Lk c l n := fun x => (h x).trans (g x)
theorem Lk.app {c : Int} {l l' m m' : Tb} (h : Lk c l l') (g : Lk c m m') : Lk c (l ++ m) (l' ++ m') := fun x => by
  rw [tot_app, tot_app, Int.add_emod, h x, g x, ← Int.add_emod]
theorem Lk.scl {c : Int} (f : Int) {l l' : Tb} (h : Lk c l l') : Lk c (scl f l) (Fp.scl f l') := fun x => by
  rw [tot_scl, tot_scl, Int.mul_emod, h x, ← Int.mul_emod]
theorem Lk.prs_r {c : Int} (l : Tb) {m m' : Tb} (h : Lk c m m') : Lk c (prs l m) (prs l m') := fun x => by
  induction l with
  | nil => rfl
  | cons p r ih =>
    rw [tot_prs_cons, tot_prs_cons, Int.add_emod, ih]
    have : tot (fwd p m) x % c = tot (fwd p m') x % c := by
      rcases tot_fwd p m x with ⟨v, hv, e⟩ | ⟨hn, e⟩
      · rcases tot_fwd p m' x with ⟨v', hv', e'⟩ | ⟨hn, e'⟩
        · have : v = v' := str_cancel (hv.trans hv'.symm)
          rw [e, e', this, Int.mul_emod, h v', ← Int.mul_emod]
        · exact absurd hv (hn v)
      · rcases tot_fwd p m' x with ⟨v', hv', e'⟩ | ⟨_, e'⟩
        · exact absurd hv' (hn v')
        · rw [e, e']
    rw [this, ← Int.add_emod]
theorem Lk.prs_l {c : Int} {l l' : Tb} (m : Tb) (h : Lk c l l') : Lk c (prs l m) (prs l' m) := fun x => by
  induction m with
  | nil => rw [prs_nil_r, prs_nil_r]
  | cons q r ih =>
    rw [tot_prs_cons_r, tot_prs_cons_r, Int.add_emod, ih]
    have : tot (bwd q l) x % c = tot (bwd q l') x % c := by
      rcases tot_bwd q l x with ⟨v, hv, e⟩ | ⟨hn, e⟩
      · rcases tot_bwd q l' x with ⟨v', hv', e'⟩ | ⟨hn, e'⟩
        · have : v = v' := str_cancel_r (hv.trans hv'.symm)
          rw [e, e', this, Int.mul_emod, h v', ← Int.mul_emod]
        · exact absurd hv (hn v)
      · rcases tot_bwd q l' x with ⟨v', hv', e'⟩ | ⟨_, e'⟩
        · exact absurd hv' (hn v')
        · rw [e, e']
    rw [this, ← Int.add_emod]
theorem Lk.prs {c : Int} {l l' m m' : Tb} (h : Lk c l l') (g : Lk c m m') : Lk c (prs l m) (Fp.prs l' m') := (Lk.prs_l m h).trans (Lk.prs_r l' g)
theorem prs_assoc (l m n : Tb) : prs (prs l m) n = prs l (prs m n) := by
  unfold prs
  rw [List.flatMap_assoc]
  congr 1
  funext p
  rw [List.flatMap_map, List.map_flatMap]
  congr 1
  funext q
  rw [List.map_map]
  congr 1
  funext r
  simp only [Function.comp]
  rw [str_assoc, Int.mul_assoc]
theorem prs_app_r (l m n : Tb) (x : Str) : tot (prs l (m ++ n)) x = tot (prs l m ++ prs l n) x := by
  induction l with
  | nil => rfl
  | cons p r ih =>
    rw [tot_app] at ih ⊢
    rw [tot_prs_cons, tot_prs_cons, tot_prs_cons, ih]
    have e : fwd p (m ++ n) = fwd p m ++ fwd p n := by unfold fwd; rw [List.map_append]
    rw [e, tot_app]
    omega
theorem str_nil_l (x : Str) : ("" : Str) ++ x = x := PySem.W.str_of_cps (by show ((#[] : Array Nat) ++ x.cps).toList = _; simp)
theorem str_nil_r (x : Str) : x ++ ("" : Str) = x := PySem.W.str_of_cps (by show (x.cps ++ (#[] : Array Nat)).toList = _; simp)
theorem prs_one_l (m : Tb) : prs [("", 1)] m = m := by
  rw [prs_cons]
  have : prs [] m = [] := rfl
  rw [this, List.append_nil]
  have e : (fun q : Str × Int => (((("" : Str), (1 : Int)).1 ++ q.1, (("" : Str), (1 : Int)).2 * q.2) : Str × Int)) = id := by
    funext q
    show ((("" : Str) ++ q.1, 1 * q.2) : Str × Int) = q
    rw [str_nil_l, Int.one_mul]
  rw [e, List.map_id]
theorem prs_one_r (l : Tb) : prs l [("", 1)] = l := by
  induction l with
  | nil => rfl
  | cons p r ih =>
    rw [prs_cons, ih]
    show ((p.1 ++ ("" : Str), p.2 * 1) : Str × Int) :: r = _
    rw [str_nil_r, Int.mul_one]
end Fp

set_option Elab.async false
set_option linter.all false
set_option maxRecDepth 100000
set_option maxHeartbeats 4000000
namespace L2
open PySem PySem.Spec PyProof.Rows
/-- a dict comprehension over what is walked: Pv by the turn and the heap, the new dict at D in it -/
theorem dc_it {J : It} {n : Nat} {G : Hp → Prop} {Y : Nat → Hp → V → Hp → Prop} (wk : Walk J n G Y) {g : TG} {tt : TT} {tk tv : TE} {vs : List Nat} {σ : St} {H1 : Hp} {D : Addr} {Qd : Hp → Prop} (Pv : Nat → Hp → Prop) (z0 : Pv 0 (upd H1 D (.dK [])))
    (zG : ∀ i H, i ≤ n → Pv i H → G H)
    (zs : ∀ i x H H', i < n → Pv i H → Y i H x H' → g x (wipe σ vs) H' fun σ2 H2 => wipe σ2 vs = wipe σ vs ∧ tt σ2 H2 fun b H3 =>
      if b = true then tk σ2 H3 fun y H4 => tv σ2 H4 fun z H5 => ∃ kvs k, y = kV k ∧ H5 D = some (.dK kvs) ∧ kvs.length < sizeLine ∧ Pv (i + 1) (upd H5 D (.dK (putK kvs k z))) else Pv (i + 1) H3)
    (zd : ∀ H, Pv n H → Qd H) :
    ∃ W : Nat → Nat → Hp → Prop, (∃ m, W 0 m (upd H1 D (.dK []))) ∧ ∀ i m H, W i m H →
      (J.stop i H ∧ Qd H) ∨ (J.go i H ∧ ∃ Nx : Hp → Prop, (∀ H', Nx H' → ∃ m', m' < m ∧ W (i + 1) m' H') ∧ ∀ x H', J.yld i H x H' → g x (wipe σ vs) H' fun σ2 H2 => wipe σ2 vs = wipe σ vs ∧ tt σ2 H2 fun b H3 =>
        if b = true then tk σ2 H3 fun y H4 => tv σ2 H4 fun z H5 => ∃ kvs k, y = kV k ∧ H5 D = some (.dK kvs) ∧ kvs.length < sizeLine ∧ Nx (upd H5 D (.dK (putK kvs k z))) else Nx H3) := by
  refine ⟨fun i m H => (m = n - i ∧ i ≤ n) ∧ Pv i H, ⟨n, ⟨by simp, Nat.zero_le _⟩, z0⟩, ?_⟩
  rintro i m H ⟨⟨rfl, hi⟩, p⟩
  have q := zG i H hi p
  by_cases hlt : i < n
  · exact .inr ⟨wk.goes i H hlt q, Pv (i + 1), fun H' p' => ⟨n - (i + 1), by omega, ⟨rfl, hlt⟩, p'⟩, fun x H' y => zs i x H H' hlt p (wk.yields i H x H' hlt q y)⟩
  · obtain rfl : i = n := by omega
    exact .inl ⟨wk.stops H q, zd H p⟩
/-- X(), X an own class without __init__ -/
theorem pmk_own0 {X : Cx} {C : Addr} {bmB : List Value} {B newId initId : String} {x : Str} {p pos : Pos} (F : ExcBaseFacts B newId initId bmB) (q : PySem.W.excIn X.K C bmB newId = true) (gC : X.mg x = some (.ref C))
    (kC : PySem.W.keepIn X.K (.ref C) = true) (r : Raises X (.ref C)) (hg : Gl X x) (hdb : (x == ("__debug__" : Str)) = false := by decide) : PMk X (.Call (.Name x p) [] [] pos) (fun _ H Q => Q (.ref C) none H) := by
  intro pins s σ H Q I h
  refine wpAny_Call_Name_kw (ld_glob I hg gC ?_ hdb)
  refine PySem.W.callWith_K0 (K := X.K) I.kIn kC ?_
  show wpAny _ _ (call (.ref C) []) _ _ _
  obtain ⟨bm, N, nm, qn, bs, hdct, sn, sub, ab, col, dd, k0, k1, k2, k3, k5, mN, hC, hN, hni, T⟩ := exc_obj I.kIn q
  refine wpAny_call_exc_subT F T hC hN hni (fun h' e hm => ?_) (Nat.zero_le _)
  exact mk_of I hm r h (I.hok.gone hm.new)
abbrev tTru (K : PySem.W.Frag) (te : TE) : TT := fun σ H Q => te σ H fun x H' => ∃ k, TruV K x H' k ∧ Q k H'
abbrev tMod (a b : TE) : TE := tOp (rI (fun _ j => 0 < j) fun i j => .int (i % j)) a b
abbrev gPair (K : PySem.W.Frag) (i j : Nat) : TG := gTup K 2 (gCons (gName i) (gCons (gName j) gNil))
end L2
namespace Fp
open PySem PySem.Spec PyProof.Rows L2
theorem tidy_take (c : Int) {l : Tb} {i : Nat} {p : Str × Int} (e : l[i]? = some p) : tidyM c (l.take (i + 1)) = if p.2 % c ≠ 0 then tidyM c (l.take i) ++ [(p.1, p.2 % c)] else tidyM c (l.take i) := by
  unfold tidyM
  rw [List.take_add_one, e]
  simp only [Option.toList_some, List.filter_append, List.map_append]
  by_cases h : p.2 % c = 0
  · rw [if_neg (fun z => z h)]
    have : [p].filter (fun p => decide (p.2 % c ≠ 0)) = [] := List.filter_cons_of_neg (by simpa using h)
    rw [this]
    simp
  · rw [if_pos h]
    have : [p].filter (fun p => decide (p.2 % c ≠ 0)) = [p] := List.filter_cons_of_pos (by simpa using h)
    rw [this]
    rfl
theorem tidy_no (c : Int) {l : Tb} (h : Nd l) {i : Nat} {p : Str × Int} (e : l[i]? = some p) : has (tidyM c (l.take i)) p.1 = false := by
  cases z : has (tidyM c (l.take i)) p.1 with
  | false => rfl
  | true =>
    exfalso
    obtain ⟨q, hq, e2⟩ := List.mem_map.mp (has_iff.mp z)
    obtain ⟨p', hp', e3, _⟩ := tidy_keys hq
    rw [e3] at e2
    have h1 : Nd (l.take (i + 1)) := by
      unfold Nd
      rw [List.map_take]
      exact (List.take_sublist _ _).nodup h
    unfold Nd at h1
    rw [List.take_add_one, e, List.map_append] at h1
    have h2 := (List.nodup_append.mp h1).2.2
    exact h2 p'.1 (List.mem_map.mpr ⟨p', hp', rfl⟩) p.1 (by simp) e2
theorem kv_item {l : Tb} {i : Nat} {k v : V} (h1 : ((kv l)[i]?.map fun kv => kV kv.1) = some k) (h2 : ((kv l)[i]?.map Prod.snd) = some v) : ∃ p, l[i]? = some p ∧ k = .str p.1 ∧ v = .int p.2 := by
  unfold kv at h1 h2
  rw [List.getElem?_map] at h1 h2
  cases q : l[i]? with
  | none => rw [q] at h1; cases h1
  | some p =>
    rw [q] at h1 h2
    exact ⟨p, rfl, (Option.some.inj h1).symm, (Option.some.inj h2).symm⟩
section
variable {P : Program} {w : World} {K : PySem.W.Frag} {mg : Str → Option Value} {base : Heap}
def spTidied : Sp := fun vs H Q _ => ∃ (d : Addr) (c : Int) (l : Tb), vs = [.ref d, .int c] ∧ 0 < c ∧ H d = some (.dK (kv l)) ∧ Nd l ∧ l.length ≤ 1000000 ∧ ∀ H' D, Same H H' → H D = none → H' D = some (.dK (kv (tidyM c l))) → Q (.ref D) H'
abbrev nTidied : List Str := ["table", "clock", "word", "number"]
theorem sc_tidied : FnScope nTidied ["table", "clock"] (defScope s_tidied) := ⟨rfl, rfl, rfl, by decide +kernel, rfl, by decide +kernel, by decide +kernel⟩
theorem ok_tidied (T : Top K mg) : Ok P w K mg base 1 "tidied" ["table", "clock"] spTidied := by
  obtain ⟨fd, F⟩ := fn_tidied T
  refine ⟨⟨fd, ?_, F.bindsN fun _ _ _ _ _ _ us hl => match us, hl with | [_, _], _ => rfl⟩, g_tidied T, F.kp⟩
  refine F.ok sc_tidied (fun vs H Q E h => ?_) (fun cdv A outer s H vs Q E hr h => ?_)
  · obtain ⟨d, c, l, rfl, _⟩ := h
    rfl
  · obtain ⟨d, c, l, rfl, hc, hd, hnd, hll, q⟩ := h
    have nd := sc_tidied.nd
    have hu := hu_of hr
    have hs : sizeLine = 16777216 := sizeLine_eq
    refine ⟨_, PSs.nox (pss_one (ps_ret (pe_lock (pe_dc (own := [("word", 2), ("number", 3)]) (g := gPair K 2 3) (tt := tTru K (tMod (tVar 3) (tVar 1))) (tk := tVar 2) (tv := tMod (tVar 3) (tVar 1)) rfl nd (pi_items (pv 0)) (blkOk_by (N := nTidied) (sc := defScope s_tidied) (by decide +kernel))
      (fun _ _ _ _ _ => pg_tup rfl (pgs_cons (pg_name (i := 2) nd rfl (Or.inl rfl)) (pgs_cons (pg_name (i := 3) nd rfl (Or.inl rfl)) pgs_nil)))
      (fun _ _ _ _ _ => pts_one (pt_truth (pe_op op_mod (pv 3) (pv 1)) (fun _ => rfl))) (fun _ _ _ _ _ => pv 2) (fun _ _ _ _ _ => pe_op op_mod (pv 3) (pv 1)))))), ?_⟩
    refine ⟨d, _, hd, trivial, fun od => ?_⟩
    refine ⟨_, rfl, d, od, kv l, rfl, upd_same, fun D hD => ?_⟩
    have nD : D ≠ d := fun e => by
      rw [e, upd_same] at hD
      cases hD
    have hD0 : H D = none := by
      rw [upd_ne nD] at hD
      exact hD
    refine dc_it walk_items (fun i H' => H' D = some (.dK (kv (tidyM c (l.take i)))) ∧ But d H H' ∧ H' d = some (.frz od (.dK (kv l)))) ⟨upd_same, ?_, ?_⟩ (fun i H' _ hP => hP.2.2) ?_ ?_
    · intro b o e n
      rw [upd_ne (ne_of_none e hD0), upd_ne n]
      exact e
    · rw [upd_ne nD.symm]
      exact upd_same
    · rintro i x H1 H2 hi ⟨p1, p2, p3⟩ ⟨t, k, v, rfl, ht, rfl, e1, e2⟩
      obtain ⟨p, ep, rfl, rfl⟩ := kv_item e1 e2
      have nt : D ≠ t := ne_of_none p1 ht
      have ndt : d ≠ t := ne_of_none p3 ht
      refine ⟨t, _, rfl, .inl (.inl upd_same), rfl, ?_⟩
      refine ⟨_, _, rfl, _, _, rfl, rfl, rfl, ?_⟩
      refine ⟨_, rfl, _, rfl, _, _, rfl, rfl, hc, _, rfl, ?_⟩
      have et := tidy_take c ep
      have el : (tidyM c (l.take i)).length ≤ i := Nat.le_trans tidy_len (by rw [List.length_take]; omega)
      rw [kv_len] at hi
      refine ite2 (fun hz => ?_) (fun hz => ?_)
      · have hz' : p.2 % c ≠ 0 := by simpa using hz
        rw [if_pos hz'] at et
        refine ⟨_, rfl, _, rfl, _, rfl, _, _, rfl, rfl, hc, _, Sum.inr p.1, rfl, by rw [upd_ne nt]; exact p1, by rw [kv_len]; omega, ?_, ?_, ?_⟩
        · rw [upd_same, putK_kv, et]
          unfold putT
          rw [tidy_no c hnd ep, if_neg Bool.false_ne_true]
        · intro b o e n
          rw [upd_ne (ne_of_none e hD0), upd_ne (ne_of_none (p2 b o e n) ht)]
          exact p2 b o e n
        · rw [upd_ne nD.symm, upd_ne ndt]
          exact p3
      · have hz' : ¬ p.2 % c ≠ 0 := by simpa using hz
        rw [if_neg hz'] at et
        refine ⟨?_, ?_, ?_⟩
        · rw [upd_ne nt, et]
          exact p1
        · intro b o e n
          rw [upd_ne (ne_of_none (p2 b o e n) ht)]
          exact p2 b o e n
        · rw [upd_ne ndt]
          exact p3
    · rintro H' ⟨p1, p2, p3⟩
      rw [kv_len, List.take_length] at p1
      refine ⟨p3, q _ D (fun b o e => ?_) hD0 (by rw [upd_ne nD]; exact p1)⟩
      by_cases n : b = d
      · rw [n, upd_same, ← hd, ← n, e]
      · rw [upd_ne n]
        exact p2 b o e n
end
end Fp

set_option Elab.async false
set_option linter.all false
set_option maxRecDepth 100000
set_option maxHeartbeats 4000000
namespace Fp
open PySem PySem.Spec PyProof.Rows L2
theorem addT_app (a b x : Tb) : addT (a ++ b) x = addT b (addT a x) := by
  unfold addT
  rw [List.foldl_append]
theorem addT_take {es : Tb} {i : Nat} {p : Str × Int} (e : es[i]? = some p) (a : Tb) : addT (es.take (i + 1)) a = putT (addT (es.take i) a) p.1 (num (addT (es.take i) a) p.1 + p.2) := by
  rw [List.take_add_one, e, addT_app]
  rfl
theorem scl_get {f : Int} {l : Tb} {i : Nat} {p : Str × Int} (e : l[i]? = some p) : (scl f l)[i]? = some (p.1, f * p.2) := by
  unfold scl
  rw [List.getElem?_map, e]
  rfl
theorem scl_len (f : Int) (l : Tb) : (scl f l).length = l.length := List.length_map _
theorem fwd_get {q : Str × Int} {l : Tb} {i : Nat} {p : Str × Int} (e : l[i]? = some p) : (fwd q l)[i]? = some (q.1 ++ p.1, q.2 * p.2) := by
  unfold fwd
  rw [List.getElem?_map, e]
  rfl
theorem fwd_len (q : Str × Int) (l : Tb) : (fwd q l).length = l.length := List.length_map _
theorem prs_take {l m : Tb} {i : Nat} {p : Str × Int} (e : l[i]? = some p) : prs (l.take (i + 1)) m = prs (l.take i) m ++ fwd p m := by
  rw [List.take_add_one, e]
  unfold prs
  rw [List.flatMap_append]
  simp only [Option.toList_some, List.flatMap_cons, List.flatMap_nil, List.append_nil]
  rfl
theorem prs_len (l m : Tb) : (prs l m).length = l.length * m.length := by
  induction l with
  | nil => rw [show prs [] m = [] from rfl]; simp
  | cons p r ih => rw [prs_cons, List.length_append, ih, List.length_map, List.length_cons, Nat.add_mul]; omega
section
variable {P : Program} {w : World} {K : PySem.W.Frag} {mg : Str → Option Value} {base : Heap}
def spAdded : Sp := fun vs H Q _ => ∃ (d1 d2 : Addr) (f c : Int) (l1 l2 : Tb), vs = [.ref d1, .ref d2, .int f, .int c] ∧ 0 < c ∧ c ≤ 7 ∧ H d1 = some (.dK (kv l1)) ∧ H d2 = some (.dK (kv l2)) ∧ Nd l1 ∧ (∀ p ∈ l2, 1 ≤ p.2 ∧ p.2 < c) ∧ l1.length ≤ 400000 ∧ l2.length ≤ 400000 ∧
  ∀ H' D, Same H H' → H D = none → H' D = some (.dK (kv (tidyM c (addT (scl f l2) l1)))) → Q (.ref D) H'
abbrev nAdded : List Str := ["one", "other", "factor", "clock", "found", "word", "number"]
theorem sc_added : FnScope nAdded ["one", "other", "factor", "clock"] (defScope s_added) := ⟨rfl, rfl, rfl, by decide +kernel, rfl, by decide +kernel, by decide +kernel⟩
theorem ok_added (T : Top K mg) : Ok P w K mg base 2 "added" ["one", "other", "factor", "clock"] spAdded := by
  obtain ⟨fd, F⟩ := fn_added T
  refine ⟨⟨fd, ?_, F.bindsN fun _ _ _ _ _ _ us hl => match us, hl with | [_, _, _, _], _ => rfl⟩, g_added T, F.kp⟩
  refine F.ok sc_added (fun vs H Q E h => ?_) (fun cdv A outer s H vs Q E hr h => ?_)
  · obtain ⟨d1, d2, f, c, l1, l2, rfl, _⟩ := h
    rfl
  · obtain ⟨d1, d2, f, c, l1, l2, rfl, hc, hc7, h1, h2, hnd, hnu, hl1, hl2, q⟩ := h
    have nd := sc_added.nd
    have hu := hu_of hr
    have hs : sizeLine = 16777216 := sizeLine_eq
    refine ⟨_, PSs.nox (pss_cons (ps_set (i := 4) nd rfl (Or.inl rfl) (pe_callTy call_dictD (by rfl) (f_dict T) (by decide +kernel) (pa_cons (pv 0) pa_nil)))
      (pss_cons (ps_lock (ps_for PassesOwn.never rfl (pi_items (pv 1)) (pg_tup rfl (pgs_cons (pg_name (i := 5) nd rfl (Or.inl rfl)) (pgs_cons (pg_name (i := 6) nd rfl (Or.inl rfl)) pgs_nil)))
        (pss_one (ps_dput hu (pv 4) (pv 5) (pe_op op_add (pe_dget2 hu (pv 4) (pv 5) pe_int ⟨rfl, rfl, rfl, rfl⟩) (pe_op op_mul (pv 2) (pv 6))) rfl))))
      (pss_one (ps_ret (pc (ok_tidied T) hr (pa_cons (pv 4) (pa_cons (pv 3) pa_nil))))))), ?_⟩
    refine ⟨_, rfl, d1, kv l1, rfl, .inl h1, fun F0 hF => ?_⟩
    have n2F : d2 ≠ F0 := ne_of_none h2 hF
    refine ⟨d2, .dK (kv l2), by rw [upd_ne n2F]; exact h2, trivial, fun od => ?_⟩
    refine ⟨_, rfl, d2, od, kv l2, rfl, upd_same, ?_⟩
    refine for_it walk_items (fun i σ H' => (∃ v u, σ = [some (.ref d1), some (.ref d2), some (.int f), some (.int c), some (.ref F0), v, u]) ∧ H' F0 = some (.dK (kv (addT ((scl f l2).take i) l1))) ∧ But d2 H H' ∧ H' d2 = some (.frz od (.dK (kv l2))))
      ⟨⟨none, none, rfl⟩, ?_, ?_, upd_same⟩ (fun i σ H' _ hP => hP.2.2.2) ?_ ?_
    · rw [upd_ne n2F.symm, upd_same]
      rfl
    · intro b o e n
      rw [upd_ne n, upd_ne (ne_of_none e hF)]
      exact e
    · rintro i x σ H1 H2 hi ⟨⟨v, u, rfl⟩, p1, p2, p3⟩ ⟨t, k, v', rfl, ht, rfl, e1, e2⟩
      obtain ⟨p, ep, rfl, rfl⟩ := kv_item e1 e2
      have hn := hnu p (List.mem_of_getElem? ep)
      have nFt : F0 ≠ t := ne_of_none p1 ht
      have ndt : d2 ≠ t := ne_of_none p3 ht
      have p1' : (upd H1 t (.tup [.str p.1, .int p.2])) F0 = some (.dK (kv (addT ((scl f l2).take i) l1))) := by
        rw [upd_ne nFt]
        exact p1
      refine ⟨t, _, rfl, .inl (.inl upd_same), rfl, ?_⟩
      refine ⟨_, _, rfl, _, _, rfl, rfl, ?_⟩
      refine ⟨_, rfl, F0, rfl, .inl ⟨_, .inl p1'⟩, _, rfl, _, DGet.k (k := Sum.inr p.1) p1', ?_⟩
      rw [num_eq]
      refine ⟨_, rfl, _, rfl, _, _, rfl, rfl, .inr ⟨by omega, by omega⟩, _, _, rfl, rfl, ?_⟩
      refine ⟨_, rfl, _, rfl, F0, _, rfl, DPut.k (k := Sum.inr p.1) p1' ?_, ?_⟩
      · have := len_addT ((scl f l2).take i) l1
        rw [List.length_take, scl_len] at this
        rw [kv_len]
        omega
      · refine ⟨⟨_, _, rfl⟩, ?_, ?_, ?_⟩
        · rw [upd_same, putK_kv, addT_take (scl_get ep)]
        · intro b o z n
          rw [upd_ne (ne_of_none z hF), upd_ne (ne_of_none (p2 b o z n) ht)]
          exact p2 b o z n
        · rw [upd_ne n2F, upd_ne ndt]
          exact p3
    · rintro σ H' ⟨⟨v, u, rfl⟩, p1, p2, p3⟩
      rw [kv_len, List.take_of_length_le (by rw [scl_len]; exact Nat.le_refl _)] at p1
      refine ⟨p3, ?_⟩
      have base' : Same H (upd H' d2 (.dK (kv l2))) := fun b o e => by
        by_cases n : b = d2
        · rw [n, upd_same, ← h2, ← n, e]
        · rw [upd_ne n]
          exact p2 b o e n
      refine ⟨_, rfl, _, rfl, F0, c, _, rfl, hc, by rw [upd_ne n2F.symm]; exact p1, nd_addT _ _ hnd, ?_, fun H2 D s2 nD eD => q H2 D (base'.trans s2) (base'.free nD) eD⟩
      have := len_addT (scl f l2) l1
      rw [scl_len] at this
      omega
def spMult : Sp := fun vs H Q _ => ∃ (d1 d2 : Addr) (c : Int) (m1 k1 m2 k2 : Nat) (l1 l2 : Tb), vs = [.ref d1, .ref d2, .int c] ∧ 0 < c ∧ c ≤ 7 ∧ d1 ≠ d2 ∧ H d1 = some (.dK (kv l1)) ∧ H d2 = some (.dK (kv l2)) ∧ VT c m1 k1 l1 ∧ VT c m2 k2 l2 ∧ m1 ≤ 1000 ∧ m2 ≤ 1000 ∧ k1 * k2 ≤ 900000 ∧
  ∀ H' D, Same H H' → H D = none → H' D = some (.dK (kv (tidyM c (multT l1 l2)))) → Q (.ref D) H'
abbrev nMult : List Str := ["one", "other", "clock", "found", "front", "number", "back", "amount"]
end
end Fp

set_option Elab.async false
set_option linter.all false
set_option maxRecDepth 100000
set_option maxHeartbeats 4000000
namespace L2
open PySem PySem.Spec PyProof.Rows
/-- a walk over a list or a tuple, told by the heap -/
def iSeqV (K : PySem.W.Frag) (tl : TE) : TI := fun σ H R => tl σ H fun x H1 => ∃ a, x = .ref a ∧ (((∃ xs, SqL K H1 a xs) ∧ R (Itl K a) H1) ∨ ((∃ xs, SqT K H1 a xs) ∧ R (Itt K a) H1))
theorem pi_seqV {X : Cx} {tg : Expr} {l : Expr} {tl : TE} (he : PE X l tl) : PI X tg l (iSeqV X.K tl) := by
  constructor
  intro pins s σ H R I h
  refine thn (he.run pins s σ H _ I h) fun v t ⟨x, G, J, rr, a, e, hh⟩ => ?_
  subst e
  cases rr
  have fp : ∀ b ∈ [t.heap.objs.size], FpOk X pins G b := fun b hb => by
    rw [List.mem_singleton.mp hb]
    exact J.fpOk (Nat.le_refl _) (J.hok.fresh (Nat.le_refl _))
  have go : ∀ o, Inv X pins σ G { t with heap := t.heap.push o } := fun o => J.kept (t' := t.toks) fun b u z => Heap.get?_push_of_some _ z
  rcases hh with ⟨⟨xs, hq⟩, q⟩ | ⟨⟨xs, hq⟩, q⟩
  · obtain ⟨its, _, pl, _⟩ := J.list hq
    exact wpAny_pyIter_list pl.isList ⟨t.heap.objs.size, [t.heap.objs.size], _, _, G, rfl, go _, turn_list a _, ⟨_, Heap.get?_push_size _ rfl, rfl, rfl⟩, fp, q⟩
  · obtain ⟨its, _, pl, _⟩ := J.tuple hq
    exact wpAny_pyIter_tuple (show t.heap.IsTuple a its.toArray from pl) ⟨t.heap.objs.size, [t.heap.objs.size], _, _, G, rfl, go _, turn_tuple a _, ⟨_, Heap.get?_push_size _ rfl, rfl, rfl⟩, fp, q⟩
end L2
namespace Fp
open PySem PySem.Spec PyProof.Rows L2
/-! ### defs that may raise -/
structure OkX (P : Program) (w : World) (K : PySem.W.Frag) (mg : Str → Option Value) (base : Heap) (k : Nat) (x : Str) (ps : List Str) (sp : Sp) : Prop where
  ex : ∃ fd, FnOk P w K mg base (L2.CX P w) k (He.ga K x) fd ps sp ∧ Binds K fd ps []
  g : mg x = some (.ref (He.ga K x))
  kp : PySem.W.keepIn K (.ref (He.ga K x)) = true
/-- called where it doesn't raise -/
theorem pcL {X : Cx} {x : Str} {p pos : Pos} {e : Expr} {es : List Expr} {t : TA} {k : Nat} {ps : List Str} {sp : Sp} (G : OkX X.prog X.w X.K X.mg X.base k x ps sp) (hr : Room k X.A) (ha : PA X (e :: es) t) (hg : Gl X x := by rfl) (hdb : (x == ("__debug__" : Str)) = false := by decide)
    (he : starEach (e :: es) X.env = (false, eval e X.env) :: starEach es X.env := by rfl) (hpl : (backTo pos (starEach es X.env)).any (·.1) = false := by rfl) : PE X (.Call (.Name x p) (e :: es) [] pos) (tCall sp [] E0 t) := by
  obtain ⟨fd, F, b⟩ := G.ex
  exact pe_call F hr hg G.g G.kp b .nil passL ha hdb he hpl
/-- called where it may -/
theorem pcX {X : Cx} {W : WX} (tk : Takes X W) {x : Str} {p pos : Pos} {e : Expr} {es : List Expr} {t : TA} {k : Nat} {ps : List Str} {sp : Sp} (G : OkX X.prog X.w X.K X.mg X.base k x ps sp) (hr : Room k X.A) (ha : PA X (e :: es) t) (hg : Gl X x := by rfl) (hdb : (x == ("__debug__" : Str)) = false := by decide)
    (he : starEach (e :: es) X.env = (false, eval e X.env) :: starEach es X.env := by rfl) (hpl : (backTo pos (starEach es X.env)).any (·.1) = false := by rfl) : PE X (.Call (.Name x p) (e :: es) [] pos) (tCallS sp (fun σ => WE W σ) t) := by
  obtain ⟨fd, F, b⟩ := G.ex
  exact pe_callS F hr hg G.g G.kp b (fun σ => passAt tk σ) ha hdb he hpl
/-! ### bags: what callers know -/
theorem ck_range {c : Int} (h : isCk c) : 2 ≤ c ∧ c ≤ 7 := by
  rcases h with rfl | rfl | rfl | rfl <;> constructor <;> decide
theorem Lk.of_num {c : Int} {l m : Tb} (hl : Nd l) (hm : Nd m) (h : ∀ x, num l x = num m x) : Lk c l m := fun x => by rw [tot_num hl, tot_num hm, h x]
theorem lk_canon {c : Int} {l : Tb} (h : Nd l) : Lk c (canon l) l := Lk.of_num (canon_nd h) h (canon_num h)
theorem lk_tidy {c : Int} {l : Tb} (h : Nd l) : Lk c (tidyM c l) l := fun x => by rw [tot_num (tidy_nd h), tot_num h, num_tidy h, Int.emod_emod_of_dvd _ (Int.dvd_refl c)]
theorem lk_addT {c : Int} {es a : Tb} (h : Nd a) : Lk c (addT es a) (a ++ es) := fun x => by rw [tot_num (nd_addT _ _ h), num_addT, tot_app, tot_num h]
theorem lk_same {c : Int} {m k m' k' : Nat} {l l' : Tb} (hc : 0 < c) (h : VT c m k l) (h' : VT c m' k' l') (e : Lk c l l') : canon l = canon l' :=
  vt_ext h h' fun x => by
    have := e x
    rw [tot_num h.nd, tot_num h'.nd, num_mod hc h, num_mod hc h'] at this
    exact this
theorem lk_diff {c : Int} {m k m' k' : Nat} {l l' : Tb} (hc : 0 < c) (h : VT c m k l) (h' : VT c m' k' l') (e : canon l = canon l') : Lk c l l' := (lk_canon h.nd).symm.trans (e ▸ lk_canon h'.nd)
theorem lk_plus {c f : Int} {m k m' k' : Nat} {l1 l2 : Tb} (hc : 0 < c) (h1 : VT c m k l1) (h2 : VT c m k' l2) : Lk c (plusM c l1 l2 f) (l1 ++ scl f l2) := fun x => by
  rw [tot_num (vt_plusM hc h1 h2 f).nd, num_plusM (m' := 0) hc h1 h2, tot_app, tot_scl, tot_num h1.nd, tot_num h2.nd, Int.emod_emod_of_dvd _ (Int.dvd_refl c)]
theorem lk_prod {c : Int} {m1 k1 m2 k2 : Nat} {l1 l2 : Tb} (hc : 0 < c) (h1 : VT c m1 k1 l1) (h2 : VT c m2 k2 l2) : Lk c (prodM c l1 l2) (prs l1 l2) := fun x => by
  rw [tot_num (vt_prodM hc h1 h2).nd, num_prodM hc h1 h2, Int.emod_emod_of_dvd _ (Int.dvd_refl c)]
/-- a Bag of a table -/
def Bg (K : PySem.W.Frag) (H : Hp) (b : Addr) (c : Int) (m k : Nat) (l : Tb) : Prop := BagAt K H b c (canon l) ∧ VT c m k l
theorem Bg.same {K : PySem.W.Frag} {H H' : Hp} {b : Addr} {c : Int} {m k : Nat} {l : Tb} (h : Bg K H b c m k l) (s : Same H H') : Bg K H' b c m k l := ⟨h.1.same s, h.2⟩
theorem Bg.mono {K : PySem.W.Frag} {H : Hp} {b : Addr} {c : Int} {m k m' k' : Nat} {l : Tb} (h : Bg K H b c m k l) (h1 : m ≤ m') (h2 : k ≤ k') : Bg K H b c m' k' l := ⟨h.1, h.2.mono h1 h2⟩
theorem putF_flds (c : Int) (t t' : Addr) : putF "words" (.ref t') (flds c t) = flds c t' := by
  rw [flds_eq, flds_eq]
  show (if ("clock" : Str) = "words" then (("words" : Str), V.ref t') :: [("words", V.ref t)] else (("clock" : Str), V.int c) :: putF "words" (.ref t') [("words", V.ref t)]) = _
  rw [if_neg kwc]
  show (("clock" : Str), V.int c) :: (if ("words" : Str) = "words" then [(("words" : Str), V.ref t')] else _) = _
  rw [if_pos rfl]
section
variable {P : Program} {w : World} {K : PySem.W.Frag} {mg : Str → Option Value} {base : Heap}
def spTable (K : PySem.W.Frag) : Sp := fun vs H Q _ => ∃ (a : Addr) (c : Int) (L : Tb), vs = [.ref a] ∧ BagAt K H a c L ∧ Nd L ∧ ∀ D, H D = none → Q (.ref D) (upd H D (.dK (kv L)))
theorem pairs_kv {K : PySem.W.Frag} {H : Hp} {ps : List Addr} {L : Tb} (h : Paired (fun p (q : Str × Int) => H p = some (.tup [.str q.1, .int q.2])) ps L) : Paired (fun p (x : Key × V) => SqT K H p [kV x.1, x.2]) ps (kv L) := by
  induction h with
  | nil => exact .nil
  | cons e _ ih => exact .cons (.inl (.inl e)) ih
abbrev nTable : List Str := ["bag"]
theorem sc_table_of : FnScope nTable nTable (defScope s_table_of) := ⟨rfl, rfl, rfl, by decide +kernel, rfl, by decide +kernel, by decide +kernel⟩
theorem ok_table_of (T : Top K mg) : Ok P w K mg base 1 "table_of" nTable (spTable K) := by
  obtain ⟨fd, F⟩ := fn_table_of T
  refine ⟨⟨fd, ?_, F.bindsN fun _ _ _ _ _ _ us hl => match us, hl with | [_], _ => rfl⟩, g_table_of T, F.kp⟩
  refine F.ok sc_table_of (fun vs H Q E h => ?_) (fun cdv A outer s H vs Q E hr h => ?_)
  · obtain ⟨a, c, L, rfl, _⟩ := h
    rfl
  · obtain ⟨a, c, L, rfl, ⟨dx, t, ea, ps, o, hps, hpt, hpr⟩, hnd, q⟩ := h
    refine ⟨_, PSs.nox (pss_one (ps_ret (pe_callTy (call_dictPT rfl) (by rfl) (f_dict T) (by decide +kernel) (pa_cons (pe_fld (pv 0) rfl) pa_nil)))), ?_⟩
    refine ⟨_, rfl, a, _, dx, _, _, rfl, ea, cls_Bag T, na_Bag_words T, flds_words _ _, ?_⟩
    refine ⟨t, o, ps, kv L, rfl, hps, hpt, pairs_kv hpr, fun D nD => ?_⟩
    rw [merge_kv hnd]
    exact q D nD
def spBagOf (K : PySem.W.Frag) : Sp := fun vs H Q _ => ∃ (c : Int) (d : Addr) (l : Tb), vs = [.int c, .ref d] ∧ isCk c ∧ H d = some (.dK (kv l)) ∧ Nd l ∧ (∀ p ∈ l, p.1.length ≤ 1000000) ∧ l.length ≤ 1000000 ∧
  ∀ H' b, Same H H' → H b = none → BagAt K H' b c (canon (tidyM c l)) → Q (.ref b) H'
abbrev nBagOf : List Str := ["clock", "table", "bag"]
theorem sc_bag_of : FnScope nBagOf ["clock", "table"] (defScope s_bag_of) := ⟨rfl, rfl, rfl, by decide +kernel, rfl, by decide +kernel, by decide +kernel⟩
theorem made_dict {H : Hp} {d x dx : Addr} {o u v : HO} (hd : H d = some o) (hx : H x = none) (hdx : H dx = none) : (upd (upd H dx u) x v) d = some o := by
  rw [upd_ne (ne_of_none hd hx), upd_ne (ne_of_none hd hdx)]
  exact hd
theorem made_same {H H' : Hp} {x dx : Addr} {u v : HO} (k : But x (upd (upd H dx u) x v) H') (hx : H x = none) (hdx : H dx = none) : Same H H' := fun b o e => by
  refine k b o ?_ (ne_of_none e hx)
  rw [upd_ne (ne_of_none e hx), upd_ne (ne_of_none e hdx)]
  exact e
theorem ok_bag_of (T : Top K mg) : Ok P w K mg base 7 "bag_of" ["clock", "table"] (spBagOf K) := by
  obtain ⟨fd, F⟩ := fn_bag_of T
  refine ⟨⟨fd, ?_, F.bindsN fun _ _ _ _ _ _ us hl => match us, hl with | [_, _], _ => rfl⟩, g_bag_of T, F.kp⟩
  refine F.ok sc_bag_of (fun vs H Q E h => ?_) (fun cdv A outer s H vs Q E hr h => ?_)
  · obtain ⟨c, d, l, rfl, _⟩ := h
    rfl
  · obtain ⟨c, d, l, rfl, hc, hd, hnd, hwl, hll, q⟩ := h
    have nd := sc_bag_of.nd
    have hu := hu_of hr
    have hr1 : Room 1 _ := hr.mono (by decide)
    have hr2 : Room 2 _ := hr.mono (by decide)
    obtain ⟨hc2, hc7⟩ := ck_range hc
    refine ⟨_, PSs.nox (pss_cons (ps_set (i := 2) nd rfl (Or.inl rfl) (pbag T hr (pa_cons (pv 0) (pa_cons pe_dnewK pa_nil))))
      (pss_cons (ps_fld (pv 2) (pc (ok_pairs_of T) hr2 (pa_cons (pc (ok_tidied T) hr1 (pa_cons (pv 1) (pa_cons (pv 0) pa_nil))) pa_nil)) rfl)
      (pss_one (ps_ret (pv 2))))), ?_⟩
    refine ⟨_, rfl, fun D hD b dx hb hdx ne => ?_⟩
    refine ⟨b, D, dx, c, [], rfl, upd_same, hc, made_dict upd_same hb hdx, (vt_nil c 12).mono (Nat.le_refl _) (by decide), fun H1 k1 hb1 => ⟨rfl, ?_⟩⟩
    have s1 : Same H H1 := (same_upd hD).trans (made_same k1 hb hdx)
    have hb0 : H b = none := (same_upd hD).free hb
    refine ⟨_, rfl, _, rfl, d, c, l, rfl, by omega, s1 _ _ hd, hnd, hll, fun H2 D2 s2 nD2 eD2 => ?_⟩
    refine ⟨D2, tidyM c l, rfl, eD2, tidy_nd hnd, fun p hp => ?_, Nat.le_trans tidy_len hll, fun H3 t s3 nt wt => ?_⟩
    · obtain ⟨p', h1, rfl, _⟩ := tidy_keys hp
      exact hwl p' h1
    obtain ⟨dx', t0, eb, w0⟩ := (hb1.same s2).same s3
    refine ⟨_, rfl, b, _, dx', _, rfl, eb, cls_Bag T, na_Bag_words T, by rw [flds_eq]; show 2 < 1000; decide, ?_⟩
    refine ⟨_, rfl, q _ b (fun y o e => ?_) hb0 ⟨dx', t, ?_, ?_⟩⟩
    · rw [upd_ne (ne_of_none e hb0)]
      exact s3 _ _ (s2 _ _ (s1 _ _ e))
    · rw [upd_same, putF_flds]
      rfl
    · refine wt.but (a := b) but_upd (fun e => ?_) fun xs z => ?_
      · obtain ⟨ps, o, h1, _⟩ := wt
        rw [e, eb] at h1
        cases h1
      · rw [eb] at z
        cases z
/-! ### unlike clocks -/
def spClocks (K : PySem.W.Frag) : Sp := fun vs H Q E => ∃ (a b : Addr) (c c' : Int) (L M : Tb), vs = [.ref a, .ref b] ∧ BagAt K H a c L ∧ BagAt K H b c' M ∧ (c = c' → Q .non H) ∧ (c ≠ c' → E (.ref (He.ga K "UnlikeClocks")) none H)
abbrev nClocks : List Str := ["one", "other"]
theorem sc_check_clocks : FnScope nClocks nClocks (defScope s_check_clocks) := ⟨rfl, rfl, rfl, by decide +kernel, rfl, by decide +kernel, by decide +kernel⟩
theorem ok_check_clocks (T : Top K mg) : OkX P w K mg base 1 "check_clocks" nClocks (spClocks K) := by
  obtain ⟨fd, F⟩ := fn_check_clocks T
  obtain ⟨x1, x2, x3, x4⟩ := e_UnlikeClocks T
  refine ⟨⟨fd, ?_, F.bindsN fun _ _ _ _ _ _ us hl => match us, hl with | [_, _], _ => rfl⟩, g_check_clocks T, F.kp⟩
  refine F.ok sc_check_clocks (fun vs H Q E h => ?_) (fun cdv A outer s H vs Q E hr h => ?_)
  · obtain ⟨a, b, c, c', L, M, rfl, _⟩ := h
    rfl
  · obtain ⟨a, b, c, c', L, M, rfl, ⟨dx, t, ea, _⟩, ⟨dy, t', eb, _⟩, q1, q2⟩ := h
    refine ⟨_, pss_one (ps_if (pt_cmpR op_ne (pe_fld (pv 0) rfl) (pe_fld (pv 1) rfl) (nomark _)) (pss_one (ps_raise rfl (takes_of rfl rfl rfl rfl) (pmk_own0 PySem.F.excBase_ValueError x1 (g_UnlikeClocks T) x2 (raises_own x3 x4) rfl))) pss_nil), ?_⟩
    refine ⟨_, rfl, a, _, dx, _, _, rfl, ea, cls_Bag T, na_Bag_clock T, flds_clock _ _, _, rfl, b, _, dy, _, _, rfl, eb, cls_Bag T, na_Bag_clock T, flds_clock _ _, rfl, _, rfl, ?_⟩
    refine ite2 (fun hne => ?_) (fun hne => ?_)
    · refine q2 fun z => ?_
      rw [z] at hne
      simp at hne
    · refine q1 ?_
      simpa using hne
end
end Fp

set_option Elab.async false
set_option linter.all false
set_option maxRecDepth 100000
set_option maxHeartbeats 4000000
namespace Fp
open PySem PySem.Spec PyProof.Rows L2
abbrev invs : WTab := [(2, [0, 1]), (3, [0, 1, 2]), (5, [0, 1, 3, 2, 4]), (7, [0, 1, 4, 5, 2, 3, 6])]
theorem inv_get {c : Int} (hc : isCk c) : ∃ ns : List Int, (c, ns) ∈ invs ∧ ∀ r : Nat, (r : Int) < c → ∃ m : Int, ns[r]? = some m ∧ 0 ≤ m ∧ m < c ∧ (r ≠ 0 → ((r : Int) * m) % c = 1 ∧ 1 ≤ m) := by
  rcases hc with rfl | rfl | rfl | rfl
  · refine ⟨[0, 1], by decide, fun r hr => ?_⟩
    have hr : r < 2 := by omega
    match r, hr with
    | 0, _ => exact ⟨0, rfl, by decide, by decide, fun h => absurd rfl h⟩
    | 1, _ => exact ⟨1, rfl, by decide, by decide, fun _ => by decide⟩
  · refine ⟨[0, 1, 2], by decide, fun r hr => ?_⟩
    have hr : r < 3 := by omega
    match r, hr with
    | 0, _ => exact ⟨0, rfl, by decide, by decide, fun h => absurd rfl h⟩
    | 1, _ => exact ⟨1, rfl, by decide, by decide, fun _ => by decide⟩
    | 2, _ => exact ⟨2, rfl, by decide, by decide, fun _ => by decide⟩
  · refine ⟨[0, 1, 3, 2, 4], by decide, fun r hr => ?_⟩
    have hr : r < 5 := by omega
    match r, hr with
    | 0, _ => exact ⟨0, rfl, by decide, by decide, fun h => absurd rfl h⟩
    | 1, _ => exact ⟨1, rfl, by decide, by decide, fun _ => by decide⟩
    | 2, _ => exact ⟨3, rfl, by decide, by decide, fun _ => by decide⟩
    | 3, _ => exact ⟨2, rfl, by decide, by decide, fun _ => by decide⟩
    | 4, _ => exact ⟨4, rfl, by decide, by decide, fun _ => by decide⟩
  · refine ⟨[0, 1, 4, 5, 2, 3, 6], by decide, fun r hr => ?_⟩
    have hr : r < 7 := by omega
    match r, hr with
    | 0, _ => exact ⟨0, rfl, by decide, by decide, fun h => absurd rfl h⟩
    | 1, _ => exact ⟨1, rfl, by decide, by decide, fun _ => by decide⟩
    | 2, _ => exact ⟨4, rfl, by decide, by decide, fun _ => by decide⟩
    | 3, _ => exact ⟨5, rfl, by decide, by decide, fun _ => by decide⟩
    | 4, _ => exact ⟨2, rfl, by decide, by decide, fun _ => by decide⟩
    | 5, _ => exact ⟨3, rfl, by decide, by decide, fun _ => by decide⟩
    | 6, _ => exact ⟨6, rfl, by decide, by decide, fun _ => by decide⟩
section
variable {P : Program} {w : World} {K : PySem.W.Frag} {mg : Str → Option Value} {base : Heap}
/-- the number that gives 1 -/
def spInv : Sp := fun vs H Q _ => ∃ (n c : Int), vs = [.int n, .int c] ∧ isCk c ∧ ∀ m : Int, 0 ≤ m → m < c → (n % c ≠ 0 → (n * m) % c = 1 ∧ 1 ≤ m) → Q (.int m) H
abbrev nInv : List Str := ["number", "clock"]
theorem sc_inverse : FnScope nInv nInv (defScope s_inverse) := ⟨rfl, rfl, rfl, by decide +kernel, rfl, by decide +kernel, by decide +kernel⟩
theorem ok_inverse (T : Top K mg) : Ok P w K mg base 1 "inverse" nInv spInv := by
  obtain ⟨fd, F⟩ := fn_inverse T
  refine ⟨⟨fd, ?_, F.bindsN fun _ _ _ _ _ _ us hl => match us, hl with | [_, _], _ => rfl⟩, g_inverse T, F.kp⟩
  refine F.ok sc_inverse (fun vs H Q E h => ?_) (fun cdv A outer s H vs Q E hr h => ?_)
  · obtain ⟨n, c, rfl, _⟩ := h
    rfl
  · obtain ⟨n, c, rfl, hc, q⟩ := h
    obtain ⟨hc2, hc7⟩ := ck_range hc
    refine ⟨_, PSs.nox (pss_one (ps_ret (pe_ix ix_tup (pe_wd (t := invs) (by decide) (pe_glob (v := .ref (He.ga K "INVERSES")) rfl (g_INVERSES T) rfl) (pv 1) (fun _ _ => rfl)) (pe_op op_mod (pv 0) (pv 1)) (fun _ _ => rfl)))), ?_⟩
    obtain ⟨ns, h1, h2⟩ := inv_get hc
    have m0 := Int.emod_nonneg n (show c ≠ 0 by omega)
    have m1 := Int.emod_lt_of_pos n (show 0 < c by omega)
    obtain ⟨r, er⟩ : ∃ r : Nat, n % c = r := ⟨(n % c).toNat, (Int.toNat_of_nonneg m0).symm⟩
    obtain ⟨m, e1, e2, e3, e4⟩ := h2 r (by omega)
    refine ⟨_, rfl, He.ga K "INVERSES", c, ns, rfl, w_INVERSES T, rfl, h1, fun b hb => ?_⟩
    refine ⟨_, rfl, _, rfl, _, _, rfl, rfl, (by show 0 < c; omega), b, ns.map V.int, r, .int m, rfl, ?_, tupO_sq hb _, atI_nat (by rw [List.getElem?_map, e1]; rfl), q m e2 e3 fun hz => ?_⟩
    · show V.int (n % c) = _
      rw [er]
    · have := e4 (by omega)
      rw [Int.mul_emod, er, Int.emod_eq_of_lt e2 e3]
      exact this
def spScaled : Sp := fun vs H Q _ => ∃ (d : Addr) (f c : Int) (l : Tb), vs = [.ref d, .int f, .int c] ∧ 0 < c ∧ c ≤ 7 ∧ H d = some (.dK (kv l)) ∧ Nd l ∧ (∀ p ∈ l, 1 ≤ p.2 ∧ p.2 < c) ∧ l.length ≤ 1000000 ∧ ∀ H' D, Same H H' → H D = none → H' D = some (.dK (kv (tidyM c (scl f l)))) → Q (.ref D) H'
abbrev nScaled : List Str := ["table", "factor", "clock", "word", "number"]
theorem sc_scaled : FnScope nScaled ["table", "factor", "clock"] (defScope s_scaled) := ⟨rfl, rfl, rfl, by decide +kernel, rfl, by decide +kernel, by decide +kernel⟩
theorem scl_nd {f : Int} {l : Tb} (h : Nd l) : Nd (scl f l) := by
  unfold Nd scl
  rw [List.map_map]
  exact h
theorem scl_take {f : Int} {l : Tb} {i : Nat} {p : Str × Int} (e : l[i]? = some p) : scl f (l.take (i + 1)) = scl f (l.take i) ++ [(p.1, f * p.2)] := by
  rw [List.take_add_one, e]
  unfold scl
  rw [List.map_append]
  rfl
theorem has_take {l : Tb} (h : Nd l) {i : Nat} {p : Str × Int} (e : l[i]? = some p) : has (l.take i) p.1 = false := by
  cases z : has (l.take i) p.1 with
  | false => rfl
  | true =>
    exfalso
    have h1 : Nd (l.take (i + 1)) := by
      unfold Nd
      rw [List.map_take]
      exact (List.take_sublist _ _).nodup h
    unfold Nd at h1
    rw [List.take_add_one, e, List.map_append] at h1
    exact (List.nodup_append.mp h1).2.2 p.1 (has_iff.mp z) p.1 (by simp) rfl
theorem ok_scaled (T : Top K mg) : Ok P w K mg base 2 "scaled" ["table", "factor", "clock"] spScaled := by
  obtain ⟨fd, F⟩ := fn_scaled T
  refine ⟨⟨fd, ?_, F.bindsN fun _ _ _ _ _ _ us hl => match us, hl with | [_, _, _], _ => rfl⟩, g_scaled T, F.kp⟩
  refine F.ok sc_scaled (fun vs H Q E h => ?_) (fun cdv A outer s H vs Q E hr h => ?_)
  · obtain ⟨d, f, c, l, rfl, _⟩ := h
    rfl
  · obtain ⟨d, f, c, l, rfl, hc, hc7, hd, hnd, hnu, hll, q⟩ := h
    have nd := sc_scaled.nd
    have hu := hu_of hr
    have hs : sizeLine = 16777216 := sizeLine_eq
    refine ⟨_, PSs.nox (pss_one (ps_ret (pc (ok_tidied T) hr (pa_cons (pe_lock (pe_dc (own := [("word", 3), ("number", 4)]) (g := gPair K 3 4) (tt := tYes) (tk := tVar 3) (tv := tOp (rI CMul fun i j => .int (i * j)) (tVar 4) (tVar 1)) rfl nd (pi_items (pv 0)) (blkOk_by (N := nScaled) (sc := defScope s_scaled) (by decide +kernel))
      (fun _ _ _ _ _ => pg_tup rfl (pgs_cons (pg_name (i := 3) nd rfl (Or.inl rfl)) (pgs_cons (pg_name (i := 4) nd rfl (Or.inl rfl)) pgs_nil)))
      (fun _ _ _ _ _ => pts_nil) (fun _ _ _ _ _ => pv 3) (fun _ _ _ _ _ => pe_op op_mul (pv 4) (pv 1)))) (pa_cons (pv 2) pa_nil))))), ?_⟩
    refine ⟨d, _, hd, trivial, fun od => ?_⟩
    refine ⟨_, rfl, d, od, kv l, rfl, upd_same, fun D hD => ?_⟩
    have nD : D ≠ d := fun e => by
      rw [e, upd_same] at hD
      cases hD
    have hD0 : H D = none := by
      rw [upd_ne nD] at hD
      exact hD
    refine dc_it walk_items (fun i H' => H' D = some (.dK (kv (scl f (l.take i)))) ∧ But d H H' ∧ H' d = some (.frz od (.dK (kv l)))) ⟨upd_same, ?_, ?_⟩ (fun i H' _ hP => hP.2.2) ?_ ?_
    · intro b o e n
      rw [upd_ne (ne_of_none e hD0), upd_ne n]
      exact e
    · rw [upd_ne nD.symm]
      exact upd_same
    · rintro i x H1 H2 hi ⟨p1, p2, p3⟩ ⟨t, k, v, rfl, ht, rfl, e1, e2⟩
      obtain ⟨p, ep, rfl, rfl⟩ := kv_item e1 e2
      have hn := hnu p (List.mem_of_getElem? ep)
      have nt : D ≠ t := ne_of_none p1 ht
      have ndt : d ≠ t := ne_of_none p3 ht
      rw [kv_len] at hi
      refine ⟨t, _, rfl, .inl (.inl upd_same), rfl, ?_⟩
      refine ⟨_, _, rfl, _, _, rfl, rfl, rfl, ?_⟩
      have hz : has (scl f (l.take i)) p.1 = false := by
        rw [← Bool.not_eq_true, has_iff]
        intro hm
        have : p.1 ∈ (l.take i).map (·.1) := by
          unfold scl at hm
          rw [List.map_map] at hm
          exact hm
        rw [← has_iff, has_take hnd ep] at this
        cases this
      refine ⟨_, rfl, _, rfl, _, rfl, _, _, rfl, rfl, .inl ⟨by omega, by omega⟩, _, Sum.inr p.1, rfl, by rw [upd_ne nt]; exact p1, by rw [kv_len, scl_len, List.length_take]; omega, ?_, ?_, ?_⟩
      · rw [upd_same, putK_kv, scl_take ep, Int.mul_comm p.2 f]
        unfold putT
        rw [hz, if_neg Bool.false_ne_true]
      · intro b o e n
        rw [upd_ne (ne_of_none e hD0), upd_ne (ne_of_none (p2 b o e n) ht)]
        exact p2 b o e n
      · rw [upd_ne nD.symm, upd_ne ndt]
        exact p3
    · rintro H' ⟨p1, p2, p3⟩
      rw [kv_len, List.take_length] at p1
      refine ⟨p3, ?_⟩
      have base' : Same H (upd H' d (.dK (kv l))) := fun b o e => by
        by_cases n : b = d
        · rw [n, upd_same, ← hd, ← n, e]
        · rw [upd_ne n]
          exact p2 b o e n
      exact ⟨_, rfl, D, c, _, rfl, hc, by rw [upd_ne nD]; exact p1, scl_nd hnd, by rw [scl_len]; exact hll, fun H2 D2 s2 n2 e2 => q H2 D2 (base'.trans s2) (base'.free n2) e2⟩
end
end Fp

set_option Elab.async false
set_option linter.all false
set_option maxRecDepth 100000
set_option maxHeartbeats 4000000
namespace Fp
open PySem PySem.Spec PyProof.Rows L2
section
variable {P : Program} {w : World} {K : PySem.W.Frag} {mg : Str → Option Value} {base : Heap}
def spWords : Sp := fun vs H Q _ => ∃ (d : Addr) (l : Tb), vs = [.ref d] ∧ H d = some (.dK (kv l)) ∧ Nd l ∧ (∀ p ∈ l, p.1.length ≤ 1000000) ∧ l.length ≤ 1000000 ∧ ∀ H' t, Same H H' → H t = none → WordsAt H' t (canon l) → Q (.ref t) H'
abbrev nWords : List Str := ["_law_bag", "_law_word_here"]
/-- told just so -/
def spIs (K : PySem.W.Frag) : Sp := fun vs H Q _ => ∃ (b d : Addr) (c : Int) (l : Tb), vs = [.ref b, .int c, .ref d] ∧ BagAt K H b c (canon l) ∧ H d = some (.dK (kv l)) ∧ Nd l ∧ (∀ p ∈ l, p.1.length ≤ 1000000) ∧ l.length ≤ 1000000 ∧ ∀ H', Same H H' → Q (.bl true) H'
abbrev nIs : List Str := ["_law_told", "_law_clock_here", "_law_bag"]
end
end Fp

set_option Elab.async false
set_option linter.all false
set_option maxRecDepth 100000
set_option maxHeartbeats 4000000
namespace Fp
open PySem PySem.Spec PyProof.Rows L2
/-- the pairs at a tuple, told by place -/
theorem WordsAt.get {H : Hp} {t : Addr} {L : Tb} (h : WordsAt H t L) : ∃ (ps : List Addr) (o : Obj), H t = some (.frz o (.tup (ps.map V.ref))) ∧ ps.length = L.length ∧ ∀ (i : Nat) (q : Str × Int), L[i]? = some q → ∃ p, ps[i]? = some p ∧ H p = some (.tup [.str q.1, .int q.2]) := by
  obtain ⟨ps, o, h1, _, h3⟩ := h
  refine ⟨ps, o, h1, ?_, ?_⟩
  · clear h1
    induction h3 with
    | nil => rfl
    | cons _ _ ih => rw [List.length_cons, List.length_cons, ih]
  · clear h1
    induction h3 with
    | nil => intro i q e; simp at e
    | @cons p q0 ps L e _ ih =>
      intro i q eq
      cases i with
      | zero =>
        have : q0 = q := Option.some.inj eq
        exact ⟨p, rfl, this ▸ e⟩
      | succ i => exact ih i q eq
section
variable {P : Program} {w : World} {K : PySem.W.Frag} {mg : Str → Option Value} {base : Heap}
def spSomething (K : PySem.W.Frag) : Sp := fun vs H Q E => ∃ (a : Addr) (c : Int) (L : Tb), vs = [.ref a] ∧ BagAt K H a c L ∧ (L ≠ [] → Q .non H) ∧ (L = [] → E (.ref (He.ga K "IsNothing")) none H)
theorem sc_check_something : FnScope ["bag"] ["bag"] (defScope s_check_something) := ⟨rfl, rfl, rfl, by decide +kernel, rfl, by decide +kernel, by decide +kernel⟩
theorem ok_check_something (T : Top K mg) : OkX P w K mg base 1 "check_something" ["bag"] (spSomething K) := by
  obtain ⟨fd, F⟩ := fn_check_something T
  obtain ⟨x1, x2, x3, x4⟩ := e_IsNothing T
  refine ⟨⟨fd, ?_, F.bindsN fun _ _ _ _ _ _ us hl => match us, hl with | [_], _ => rfl⟩, g_check_something T, F.kp⟩
  refine F.ok sc_check_something (fun vs H Q E h => ?_) (fun cdv A outer s H vs Q E hr h => ?_)
  · obtain ⟨a, c, L, rfl, _⟩ := h
    rfl
  · obtain ⟨a, c, L, rfl, ⟨dx, t, ea, wt⟩, q1, q2⟩ := h
    obtain ⟨ps, o, e1, e2, e3⟩ := WordsAt.get wt
    refine ⟨_, pss_one (ps_if (pt_not (pt_truth (pe_fld (pv 0) rfl) (fun _ => rfl))) (pss_one (ps_raise rfl (takes_of rfl rfl rfl rfl) (pmk_own0 PySem.F.excBase_ValueError x1 (g_IsNothing T) x2 (raises_own x3 x4) rfl))) pss_nil), ?_⟩
    refine ⟨_, rfl, a, _, dx, _, _, rfl, ea, cls_Bag T, na_Bag_words T, flds_words _ _, ?_⟩
    refine ⟨_, .inr (.inl ⟨_, .inl (.inr ⟨o, e1⟩), rfl⟩), ?_⟩
    cases L with
    | nil =>
      have : ps = [] := List.eq_nil_of_length_eq_zero e2
      subst this
      exact ite2 (fun _ => q2 rfl) (fun z => absurd rfl z)
    | cons p r =>
      cases ps with
      | nil => simp at e2
      | cons p1 ps => exact ite2 (fun z => absurd z (by simp)) (fun _ => q1 (by simp))
end
end Fp

set_option Elab.async false
set_option linter.all false
set_option maxRecDepth 100000
set_option maxHeartbeats 2000000
/-! heaps in arrays: what one exchange keeps -/
namespace Fp
section
variable {α : Type} {le : α → α → Prop}
/-- two places exchanged -/
def swapA (X : Array α) (i j : Nat) (x y : α) : Array α := (X.setIfInBounds i y).setIfInBounds j x
theorem swapA_size (X : Array α) (i j : Nat) (x y : α) : (swapA X i j x y).size = X.size := by
  unfold swapA
  rw [Array.size_setIfInBounds, Array.size_setIfInBounds]
theorem swapA_get {X : Array α} {i j : Nat} {x y : α} (hi : i < X.size) (hj : j < X.size) (k : Nat) : (swapA X i j x y)[k]? = if k = j then some x else if k = i then some y else X[k]? := by
  unfold swapA
  rw [Array.getElem?_setIfInBounds]
  by_cases h1 : j = k
  · subst h1
    rw [if_pos rfl, if_pos rfl, if_pos (by rw [Array.size_setIfInBounds]; exact hj)]
  · rw [if_neg h1, if_neg (fun z => h1 z.symm), Array.getElem?_setIfInBounds]
    by_cases h2 : i = k
    · subst h2
      rw [if_pos rfl, if_pos hi, if_pos rfl]
    · rw [if_neg h2, if_neg (fun z => h2 z.symm)]
theorem swapA_perm {X : Array α} {i j : Nat} {x y : α} (hx : X[i]? = some x) (hy : X[j]? = some y) : (swapA X i j x y).toList.Perm X.toList := by
  obtain ⟨hi, ex⟩ := Array.getElem?_eq_some_iff.mp hx
  obtain ⟨hj, ey⟩ := Array.getElem?_eq_some_iff.mp hy
  have e : swapA X i j x y = X.swap i j hi hj := by
    apply Array.ext_getElem?
    intro k
    rw [swapA_get hi hj, Array.getElem?_swap, ex, ey]
    by_cases h1 : k = j
    · subst h1
      simp
    · by_cases h2 : k = i
      · subst h2
        simp [h1, Ne.symm h1]
      · simp [h1, h2, Ne.symm h1, Ne.symm h2]
  rw [e]
  exact Array.perm_iff_toList_perm.mp (Array.swap_perm hi hj)
/-- the edge above a place is in order -/
def Ed (le : α → α → Prop) (X : Array α) (i : Nat) : Prop := ∀ v p, X[i]? = some v → X[(i - 1) / 2]? = some p → le p v
/-- a place below a top -/
inductive Sub (top : Nat) : Nat → Prop
  | top : Sub top top
  | down {p c : Nat} (h : Sub top p) (h1 : 1 ≤ c) (h2 : (c - 1) / 2 = p) : Sub top c
theorem Sub.le_ {top pos : Nat} (h : Sub top pos) : top ≤ pos := by
  induction h with
  | top => exact Nat.le_refl _
  | down _ h1 h2 ih => omega
theorem Sub.up {top pos : Nat} (h : Sub top pos) (hp : top < pos) : Sub top ((pos - 1) / 2) := by
  cases h with
  | top => omega
  | down h h1 h2 => rw [h2]; exact h
theorem Sub.tp {top pos : Nat} (h : Sub top pos) : top ≤ pos ∧ (top = pos ∨ top ≤ (pos - 1) / 2) := by
  have := h.le_
  by_cases e : top = pos
  · exact ⟨this, .inl e⟩
  · exact ⟨this, .inr (h.up (by omega)).le_⟩
/-- all edges but those at one place, from a top on; what stands below the place is behind what stands above it -/
structure Dn (le : α → α → Prop) (X : Array α) (top pos : Nat) : Prop where
  ed : ∀ i, 1 ≤ i → top ≤ (i - 1) / 2 → (i - 1) / 2 ≠ pos → i ≠ pos → Ed le X i
  br : ∀ c, 1 ≤ c → (c - 1) / 2 = pos → top < pos → ∀ v p, X[c]? = some v → X[(pos - 1) / 2]? = some p → le p v
  sb : Sub top pos
/-- all edges but the one above a place -/
structure Up (le : α → α → Prop) (X : Array α) (top pos : Nat) : Prop where
  ed : ∀ i, 1 ≤ i → top ≤ (i - 1) / 2 → i ≠ pos → Ed le X i
  br : ∀ c, 1 ≤ c → (c - 1) / 2 = pos → top < pos → ∀ v p, X[c]? = some v → X[(pos - 1) / 2]? = some p → le p v
  sb : Sub top pos
def Hpd (le : α → α → Prop) (X : Array α) (top : Nat) : Prop := ∀ i, 1 ≤ i → top ≤ (i - 1) / 2 → Ed le X i
theorem Dn.leaf {X : Array α} {top pos : Nat} (h : Dn le X top pos) (hp : X.size / 2 ≤ pos) : Up le X top pos := by
  refine ⟨fun i h1 h2 h3 => ?_, fun c h1 h2 h3 v p e1 e2 => ?_, h.sb⟩
  · by_cases hq : (i - 1) / 2 = pos
    · intro v p e1 e2
      have := (Array.getElem?_eq_some_iff.mp e1).1
      omega
    · exact h.ed i h1 h2 hq h3
  · have := (Array.getElem?_eq_some_iff.mp e1).1
    omega
theorem Up.stop {X : Array α} {top pos : Nat} (h : Up le X top pos) (hp : pos ≤ top ∨ Ed le X pos) : Hpd le X top := fun i h1 h2 => by
  by_cases e : i = pos
  · subst e
    rcases hp with hp | hp
    · have := h.sb.tp
      omega
    · exact hp
  · exact h.ed i h1 h2 e
/-- one place down: the lesser of two, or the only one, comes up -/
theorem Dn.step {X : Array α} {top pos c : Nat} {v x : α} (h : Dn le X top pos) (hc : (c - 1) / 2 = pos) (c1 : 1 ≤ c) (hv : X[pos]? = some v) (hx : X[c]? = some x) (hmin : ∀ d y, 1 ≤ d → (d - 1) / 2 = pos → d ≠ c → X[d]? = some y → le x y) :
    Dn le (swapA X c pos x v) top c := by
  obtain ⟨hcs, _⟩ := Array.getElem?_eq_some_iff.mp hx
  obtain ⟨hps, _⟩ := Array.getElem?_eq_some_iff.mp hv
  have htp := h.sb.tp
  have get := fun k => swapA_get (x := x) (y := v) hcs hps k
  have hne : c ≠ pos := by omega
  refine ⟨fun i h1 h2 h3 h4 u p e1 e2 => ?_, fun d h1 h2 h3 u p e1 e2 => ?_, .down h.sb c1 hc⟩
  · rw [get] at e1 e2
    by_cases hi : i = pos
    · subst hi
      rw [if_pos rfl] at e1
      have hpp : (i - 1) / 2 ≠ i := by omega
      rw [if_neg hpp, if_neg h3] at e2
      cases e1
      exact h.br c c1 hc (by omega) x p hx e2
    · rw [if_neg hi, if_neg h4] at e1
      by_cases hq : (i - 1) / 2 = pos
      · rw [if_pos hq] at e2
        cases e2
        exact hmin i u h1 hq h4 e1
      · rw [if_neg hq, if_neg h3] at e2
        exact h.ed i h1 h2 hq hi u p e1 e2
  · rw [get] at e1 e2
    have hd1 : d ≠ pos := by omega
    have hd2 : d ≠ c := by omega
    rw [if_neg hd1, if_neg hd2] at e1
    rw [hc, if_pos rfl] at e2
    cases e2
    exact h.ed d h1 (by omega) (by omega) hd1 u x e1 (by rw [h2]; exact hx)
/-- one place up -/
theorem Up.step (tot : ∀ a b, le a b ∨ le b a) (tr : ∀ a b c, le a b → le b c → le a c) {X : Array α} {top pos : Nat} {v x : α} (h : Up le X top pos) (ht : top < pos) (hv : X[pos]? = some v) (hx : X[(pos - 1) / 2]? = some x) (hlt : ¬ le x v) :
    Up le (swapA X ((pos - 1) / 2) pos x v) top ((pos - 1) / 2) := by
  obtain ⟨hcs, _⟩ := Array.getElem?_eq_some_iff.mp hx
  obtain ⟨hps, _⟩ := Array.getElem?_eq_some_iff.mp hv
  have htp := h.sb.tp
  have htq := (h.sb.up ht).tp
  have get := fun k => swapA_get (x := x) (y := v) hcs hps k
  have hne : (pos - 1) / 2 ≠ pos := by omega
  have hvx : le v x := (tot v x).resolve_right hlt
  have hE : ∀ i u, 1 ≤ i → (i - 1) / 2 = (pos - 1) / 2 → i ≠ pos → X[i]? = some u → le x u := fun i u h1 h2 h3 e => h.ed i h1 (by omega) h3 u x e (by rw [h2]; exact hx)
  refine ⟨fun i h1 h2 h3 u p e1 e2 => ?_, fun d h1 h2 h3 u p e1 e2 => ?_, h.sb.up ht⟩
  · rw [get] at e1 e2
    by_cases hi : i = pos
    · subst hi
      rw [if_pos rfl] at e1
      rw [if_neg hne, if_pos rfl] at e2
      cases e1
      cases e2
      exact hvx
    · rw [if_neg hi, if_neg h3] at e1
      by_cases hq : (i - 1) / 2 = pos
      · rw [if_pos hq] at e2
        cases e2
        exact h.br i h1 hq ht u x e1 hx
      · rw [if_neg hq] at e2
        by_cases hq2 : (i - 1) / 2 = (pos - 1) / 2
        · rw [if_pos hq2] at e2
          cases e2
          exact tr _ _ _ hvx (hE i u h1 hq2 hi e1)
        · rw [if_neg hq2] at e2
          exact h.ed i h1 h2 hi u p e1 e2
  · rw [get] at e1 e2
    have hpp : ((pos - 1) / 2 - 1) / 2 ≠ pos := by omega
    have hpq : ((pos - 1) / 2 - 1) / 2 ≠ (pos - 1) / 2 := by omega
    rw [if_neg hpp, if_neg hpq] at e2
    have hpx : le p x := h.ed ((pos - 1) / 2) (by omega) (by omega) hne x p hx e2
    by_cases hd : d = pos
    · rw [if_pos hd] at e1
      cases e1
      exact hpx
    · rw [if_neg hd, if_neg (by omega)] at e1
      exact tr _ _ _ hpx (hE d u h1 h2 hd e1)
/-- the first is the least -/
theorem Hpd.least (rf : ∀ a, le a a) (tr : ∀ a b c, le a b → le b c → le a c) {X : Array α} (h : Hpd le X 0) {m : α} (hm : X[0]? = some m) : ∀ (i : Nat) (v : α), X[i]? = some v → le m v := by
  intro i
  induction i using Nat.strongRecOn with
  | _ i ih =>
    intro v e
    by_cases hi : i = 0
    · subst hi
      rw [hm] at e
      cases e
      exact rf m
    · obtain ⟨hs, _⟩ := Array.getElem?_eq_some_iff.mp e
      have hps : (i - 1) / 2 < X.size := by omega
      have ep : X[(i - 1) / 2]? = some X[(i - 1) / 2] := Array.getElem?_eq_getElem hps
      exact tr _ _ _ (ih _ (by omega) _ ep) (h i (by omega) (Nat.zero_le _) v _ e ep)
end
end Fp

set_option Elab.async false
set_option linter.all false
set_option maxRecDepth 100000
set_option maxHeartbeats 2000000
/-! the heap's moves, run: ranks (of words) in a list -/
namespace Fp
open PySem PySem.Spec PyProof.Rows
theorem plain_sift : plainId "_heapq.heapify.sift" = true := by decide +kernel
theorem entry_sift : entryFor table "_heapq.heapify.sift" = some Builtin.«_heapq.heapify.sift» := entryFor_of_fast (by kernel_rfl)
def lob (X : Array Value) (n : Nat) : Obj := { cls := .type "list", dict := none, data := .seq X n, slots := #[] }
/-- a word's rank as an object -/
def RkAt (h : Heap) (v : Value) (x : Str) : Prop := ∃ p o t1 t2 n, v = .ref p ∧ h.get? p = some o ∧ o.cls = .type "tuple" ∧ o.data = .seq #[.int (-(x.length : Int)) t1, .str x t2] n
theorem RkAt.reads {h : Heap} {v : Value} {x : Str} (r : RkAt h v x) : Reads h v (rk x) [] := by
  obtain ⟨p, o, t1, t2, n, rfl, h1, h2, h3⟩ := r
  exact Reads.tuple h1 h2 h3 (ReadsAll.cons (Reads.int _ _) (ReadsAll.cons (Reads.str x t2) ReadsAll.nil))
def StH (a : Addr) (s0 : Shared) (X : Array Value) (s : Shared) : Prop := ∃ h n, s = { s0 with heap := h } ∧ h.get? a = some (lob X n) ∧ ∀ b u, b ≠ a → s0.heap.get? b = some u → h.get? b = some u
def KeyH (a : Addr) (s0 : Shared) (wd : Value → Str) (v : Value) : Prop := RkAt s0.heap v (wd v) ∧ v ≠ .ref a
theorem KeyH.now {a : Addr} {s0 s : Shared} {X : Array Value} {wd : Value → Str} {v : Value} (k : KeyH a s0 wd v) (z : StH a s0 X s) : RkAt s.heap v (wd v) := by
  obtain ⟨⟨p, o, t1, t2, n, rfl, h1, h2, h3⟩, hne⟩ := k
  obtain ⟨h, n', rfl, _, hk⟩ := z
  exact ⟨p, o, t1, t2, n, rfl, hk p o (fun e => hne (by rw [e])) h1, h2, h3⟩
def leV (wd : Value → Str) (v v' : Value) : Prop := leR (wd v) (wd v') = true
theorem at_get {M : Model} {A : Around} {E : Value → Shared → Prop} {s : Shared} {X : Array Value} {i : Nat} {v : Value} {Q : Value → Shared → Prop} (h : X[i]? = some v) (q : Q v s) :
    wpAny M A (match X[i]? with | some v => pure v | none => unsupported "internal:_heapq.index" : Sem Value) Q E s := by
  rw [h]
  exact wpAny_pure q
theorem StH.swap {a : Addr} {s0 s : Shared} {X : Array Value} (z : StH a s0 X s) (f : Array Value → Array Value) : StH a s0 (f X) { s with heap := s.heap.update a (Obj.mapSeq f) } := by
  obtain ⟨h, n, rfl, h1, h2⟩ := z
  have q := PySem.IsL.update h1 f
  exact ⟨_, _, rfl, q, fun b u hb hu => (Heap.get?_update_other h (Obj.mapSeq f) (Ne.symm hb)).trans (h2 b u hb hu)⟩
theorem leR_tl : PySem.W.TotalLe leR := PySem.W.sortLe_total (listOrd itemOrd) false fun b => PySem.W.keyToks (rk b)
theorem leV_tot {wd : Value → Str} (a b : Value) : leV wd a b ∨ leV wd b a := leR_tl.total _ _
theorem leV_tr {wd : Value → Str} (a b c : Value) (h1 : leV wd a b) (h2 : leV wd b c) : leV wd a c := leR_tl.trans _ _ _ h1 h2
section
variable {prog : Program} {w : World} {A : Around} {R : Result → Shared → Prop} {a : Addr} {s0 : Shared} {wd : Value → Str} {res : Value}
abbrev sft (a : Addr) (down : Bool) (pos top : Nat) (res : Value) (after : Int) : Args := ⟨[.ref a, .bool false, .bool down, rawInt pos, rawInt top, res, rawInt after], []⟩
abbrev FPo (prog : Program) (w : World) (A : Around) (R : Result → Shared → Prop) : PySem.Fin → Shared → Prop := fun fin s' => match fin with | .done f => R (.ok f) s' | .again c' => c'.quiet = true ∧ codeAny (model prog w) A c' R s'
abbrev runs (prog : Program) (w : World) (A : Around) (R : Result → Shared → Prop) (a : Addr) (down : Bool) (pos top : Nat) (res : Value) (after : Int) (s : Shared) : Prop :=
  wpAny (model prog w) A.in1 (Builtin.«_heapq.heapify.sift» (sft a down pos top res after)) (FPo prog w A R) (fun e s' => R (.error e) s') s
theorem go_on {down : Bool} {pos top : Nat} {after : Int} {s : Shared} (h : runs prog w A R a down pos top res after s) :
    wpAny (model prog w) A.in1 (pure (.again (.builtin "_heapq.heapify.sift" (sft a down pos top res after))) : Sem PySem.Fin) (FPo prog w A R) (fun e s' => R (.error e) s') s :=
  wpAny_pure ⟨plainId_quiet plain_sift _, codeAny_builtin entry_sift (by
    rw [Around.under_plainId plain_sift _]
    exact h)⟩
/-- upward -/
theorem run_up {top : Nat} (hu : A.in1.units + 2 < cLine) (X0 : Array Value) (hk : ∀ v ∈ X0, KeyH a s0 wd v) (hz : X0.size ≤ sizeLine)
    (hd : ∀ X s, StH a s0 X s → X.toList.Perm X0.toList → Hpd (leV wd) X top → (top = 0 → R (.ok (.ret res)) s) ∧ ∀ t, top = t + 1 → runs prog w A R a true t t res ((t : Int) - 1) s) :
    ∀ (pos : Nat) (X : Array Value) (s : Shared), StH a s0 X s → X.toList.Perm X0.toList → Up (leV wd) X top pos → pos < X.size → runs prog w A R a false pos top res ((top : Int) - 1) s := by
  intro pos
  induction pos using Nat.strongRecOn with
  | _ pos ih =>
    intro X s z hp hup hlt
    obtain ⟨h, n, es, hl, hkp⟩ := id z
    have hl' : s.heap.get? a = some (lob X n) := by rw [es]; exact hl
    unfold runs Builtin.«_heapq.heapify.sift»
    dsimp only [sft, rawInt]
    refine wpAny_bind (wpAny_bind (wpAny_seqItems hl' rfl ?_))
    dsimp only
    refine wpAny_pure ?_
    rw [if_neg Bool.false_ne_true, Int.toNat_natCast, Int.toNat_natCast]
    have fin : ∀ (hH : Hpd (leV wd) X top), wpAny (model prog w) A.in1 (if ((top : Int) - 1) < 0 then ret res else (pure (.again (.builtin "_heapq.heapify.sift" (sft a true ((top : Int) - 1).toNat ((top : Int) - 1).toNat res (((top : Int) - 1) - 1))))) : Sem PySem.Fin) (FPo prog w A R) (fun e s' => R (.error e) s') s := fun hH => by
      obtain ⟨d1, d2⟩ := hd X s z hp hH
      cases top with
      | zero =>
        rw [if_pos (by decide)]
        exact wpAny_pure (d1 rfl)
      | succ t =>
        rw [if_neg (by omega)]
        have e : (((t + 1 : Nat) : Int) - 1).toNat = t := by omega
        have e2 : (((t + 1 : Nat) : Int) - 1) = (t : Int) := by omega
        rw [e2, Int.toNat_natCast]
        exact go_on (d2 t rfl)
    by_cases ht : top < pos
    · rw [if_pos ht]
      have ev : X[pos]? = some X[pos] := Array.getElem?_eq_getElem hlt
      have hpar : (pos - 1) / 2 < X.size := by omega
      have ex : X[(pos - 1) / 2]? = some X[(pos - 1) / 2] := Array.getElem?_eq_getElem hpar
      have kv : KeyH a s0 wd X[pos] := hk _ (Array.mem_toList_iff.mp (hp.mem_iff.mp (Array.mem_toList_iff.mpr (Array.getElem_mem hlt))))
      have kx : KeyH a s0 wd X[(pos - 1) / 2] := hk _ (Array.mem_toList_iff.mp (hp.mem_iff.mp (Array.mem_toList_iff.mpr (Array.getElem_mem hpar))))
      generalize X[pos] = v at ev kv
      generalize X[(pos - 1) / 2] = x at ex kx
      refine wpAny_bind (at_get ev (wpAny_bind (at_get ex ?_)))
      rw [if_neg Bool.false_ne_true]
      refine wpAny_bind (wpAny_bind (wpAny_holding (wpAny_bind (PySem.W.lt_data (kv.now z).reads (kx.now z).reads (alike_rk _ _) (by intro e; cases e) ?_ ?_))))
      · have h1 := rk_depth (wd v)
        have h2 := rk_depth (wd x)
        omega
      refine wpAny_truthy_bool ?_
      refine wpAny_bind (wpAny_bind (wpAny_seqItems hl' rfl ?_))
      dsimp only
      refine wpAny_pure ?_
      rw [if_neg (by simp)]
      refine wpAny_pure ?_
      by_cases hq : PySem.W.dataLt (rk (wd v)) (rk (wd x)) = true
      · rw [if_pos hq]
        have hnle : ¬ leV wd x v := fun e => by
          have : (!PySem.W.dataLt (rk (wd v)) (rk (wd x))) = true := e
          rw [hq] at this
          cases this
        refine wpAny_bind (wpAny_bind (wpAny_bind (wpAny_seqItems hl' rfl ?_)))
        dsimp only
        refine wpAny_pure ?_
        refine wpAny_bind (at_get ex (wpAny_bind (at_get ev ?_)))
        have hXs : X.size = X0.size := by
          have := hp.length_eq
          rw [Array.length_toList, Array.length_toList] at this
          exact this
        refine wpAny_updateSeq hl' rfl ?_ (by omega) (by show (swapA X ((pos - 1) / 2) pos x v).size ≤ sizeLine + 1; rw [swapA_size]; omega)
        refine go_on (ih _ (by omega) (swapA X ((pos - 1) / 2) pos x v) _ (z.swap fun xs => swapA xs ((pos - 1) / 2) pos x v) ((swapA_perm ex ev).trans hp) (hup.step leV_tot leV_tr ht ev ex hnle) (by rw [swapA_size]; exact hpar))
      · rw [if_neg hq]
        refine fin (hup.stop (.inr fun v' p' e1 e2 => ?_))
        rw [ev] at e1
        rw [ex] at e2
        cases e1
        cases e2
        show (!PySem.W.dataLt (rk (wd v)) (rk (wd x))) = true
        rw [Bool.eq_false_iff.mpr hq]
        rfl
    · rw [if_neg ht]
      exact fin (hup.stop (.inl (by omega)))
/-- downward -/
theorem run_down {top : Nat} (hu : A.in1.units + 2 < cLine) (X0 : Array Value) (hk : ∀ v ∈ X0, KeyH a s0 wd v) (hz : X0.size ≤ sizeLine)
    (hd : ∀ X s, StH a s0 X s → X.toList.Perm X0.toList → Hpd (leV wd) X top → (top = 0 → R (.ok (.ret res)) s) ∧ ∀ t, top = t + 1 → runs prog w A R a true t t res ((t : Int) - 1) s) :
    ∀ (k pos : Nat) (X : Array Value) (s : Shared), X.size - pos = k → StH a s0 X s → X.toList.Perm X0.toList → Dn (leV wd) X top pos → pos < X.size → runs prog w A R a true pos top res ((top : Int) - 1) s := by
  intro k
  induction k using Nat.strongRecOn with
  | _ k ih =>
    intro pos X s hkp z hp hdn hlt
    obtain ⟨h, n, es, hl, _⟩ := id z
    have hl' : s.heap.get? a = some (lob X n) := by rw [es]; exact hl
    have hXs : X.size = X0.size := by
      have := hp.length_eq
      rw [Array.length_toList, Array.length_toList] at this
      exact this
    have hkx : ∀ (i : Nat) (hi : i < X.size), KeyH a s0 wd X[i] := fun i hi => hk _ (Array.mem_toList_iff.mp (hp.mem_iff.mp (Array.mem_toList_iff.mpr (Array.getElem_mem hi))))
    have ev : X[pos]? = some X[pos] := Array.getElem?_eq_getElem hlt
    unfold runs Builtin.«_heapq.heapify.sift»
    dsimp only [sft, rawInt]
    refine wpAny_bind (wpAny_bind (wpAny_seqItems hl' rfl ?_))
    dsimp only
    refine wpAny_pure ?_
    rw [if_pos rfl, Int.toNat_natCast, Int.toNat_natCast]
    by_cases hh : pos < X.size / 2
    · rw [if_pos hh]
      have hL : 2 * pos + 1 < X.size := by omega
      have eL : X[2 * pos + 1]? = some X[2 * pos + 1] := Array.getElem?_eq_getElem hL
      have kL := hkx _ hL
      generalize X[pos] = v at ev
      generalize X[2 * pos + 1] = l at eL kL
      by_cases hR : 2 * pos + 1 + 1 < X.size
      · rw [if_pos hR]
        have eR : X[2 * pos + 1 + 1]? = some X[2 * pos + 1 + 1] := Array.getElem?_eq_getElem hR
        have kR := hkx _ hR
        generalize X[2 * pos + 1 + 1] = r at eR kR
        refine wpAny_bind (at_get eL (wpAny_bind (at_get eR ?_)))
        rw [if_neg Bool.false_ne_true]
        refine wpAny_bind (wpAny_bind (wpAny_holding (wpAny_bind (PySem.W.lt_data (kL.now z).reads (kR.now z).reads (alike_rk _ _) (by intro e; cases e) ?_ ?_))))
        · have h1 := rk_depth (wd l)
          have h2 := rk_depth (wd r)
          omega
        refine wpAny_truthy_bool ?_
        refine wpAny_bind (wpAny_bind (wpAny_seqItems hl' rfl ?_))
        dsimp only
        refine wpAny_pure ?_
        rw [if_neg (by simp)]
        refine wpAny_pure ?_
        by_cases hq : PySem.W.dataLt (rk (wd l)) (rk (wd r)) = true
        · rw [hq, if_neg (by simp)]
          have hm : ∀ d y, 1 ≤ d → (d - 1) / 2 = pos → d ≠ 2 * pos + 1 → X[d]? = some y → leV wd l y := fun d y d1 d2 d3 e => by
            have : d = 2 * pos + 1 + 1 := by omega
            subst this
            rw [eR] at e
            cases e
            refine (leV_tot l r).resolve_right fun e => ?_
            have : (!PySem.W.dataLt (rk (wd l)) (rk (wd r))) = true := e
            rw [hq] at this
            cases this
          refine wpAny_bind (wpAny_bind (wpAny_bind (wpAny_seqItems hl' rfl ?_)))
          dsimp only
          refine wpAny_pure ?_
          refine wpAny_bind (at_get eL (wpAny_bind (at_get ev ?_)))
          refine wpAny_updateSeq hl' rfl ?_ (by omega) (by show (swapA X (2 * pos + 1) pos l v).size ≤ sizeLine + 1; rw [swapA_size]; omega)
          exact go_on (ih (X.size - (2 * pos + 1)) (by omega) _ (swapA X (2 * pos + 1) pos l v) _ (by rw [swapA_size]) (z.swap fun xs => swapA xs (2 * pos + 1) pos l v) ((swapA_perm eL ev).trans hp) (hdn.step (by omega) (by omega) ev eL hm) (by rw [swapA_size]; omega))
        · rw [Bool.eq_false_iff.mpr hq, if_pos (by simp)]
          have hm : ∀ d y, 1 ≤ d → (d - 1) / 2 = pos → d ≠ 2 * pos + 1 + 1 → X[d]? = some y → leV wd r y := fun d y d1 d2 d3 e => by
            have : d = 2 * pos + 1 := by omega
            subst this
            rw [eL] at e
            cases e
            show (!PySem.W.dataLt (rk (wd l)) (rk (wd r))) = true
            rw [Bool.eq_false_iff.mpr hq]
            rfl
          refine wpAny_bind (wpAny_bind (wpAny_bind (wpAny_seqItems hl' rfl ?_)))
          dsimp only
          refine wpAny_pure ?_
          refine wpAny_bind (at_get eR (wpAny_bind (at_get ev ?_)))
          refine wpAny_updateSeq hl' rfl ?_ (by omega) (by show (swapA X (2 * pos + 1 + 1) pos r v).size ≤ sizeLine + 1; rw [swapA_size]; omega)
          exact go_on (ih (X.size - (2 * pos + 1 + 1)) (by omega) _ (swapA X (2 * pos + 1 + 1) pos r v) _ (by rw [swapA_size]) (z.swap fun xs => swapA xs (2 * pos + 1 + 1) pos r v) ((swapA_perm eR ev).trans hp) (hdn.step (by omega) (by omega) ev eR hm) (by rw [swapA_size]; omega))
      · rw [if_neg hR]
        have hm : ∀ d y, 1 ≤ d → (d - 1) / 2 = pos → d ≠ 2 * pos + 1 → X[d]? = some y → leV wd l y := fun d y d1 d2 d3 e => by
          have := (Array.getElem?_eq_some_iff.mp e).1
          omega
        refine wpAny_bind (wpAny_bind (wpAny_bind (wpAny_seqItems hl' rfl ?_)))
        dsimp only
        refine wpAny_pure ?_
        refine wpAny_bind (at_get eL (wpAny_bind (at_get ev ?_)))
        refine wpAny_updateSeq hl' rfl ?_ (by omega) (by show (swapA X (2 * pos + 1) pos l v).size ≤ sizeLine + 1; rw [swapA_size]; omega)
        exact go_on (ih (X.size - (2 * pos + 1)) (by omega) _ (swapA X (2 * pos + 1) pos l v) _ (by rw [swapA_size]) (z.swap fun xs => swapA xs (2 * pos + 1) pos l v) ((swapA_perm eL ev).trans hp) (hdn.step (by omega) (by omega) ev eL hm) (by rw [swapA_size]; omega))
    · rw [if_neg hh]
      exact go_on (run_up hu X0 hk hz hd pos X s z hp (hdn.leaf (by omega)) hlt)
/-- from a top down to the first -/
theorem run_all (hu : A.in1.units + 2 < cLine) (X0 : Array Value) (hk : ∀ v ∈ X0, KeyH a s0 wd v) (hz : X0.size ≤ sizeLine) (hfin : ∀ X s, StH a s0 X s → X.toList.Perm X0.toList → Hpd (leV wd) X 0 → R (.ok (.ret res)) s) :
    ∀ top : Nat, top ≤ X0.size → ∀ X s, StH a s0 X s → X.toList.Perm X0.toList → Hpd (leV wd) X top → (top = 0 → R (.ok (.ret res)) s) ∧ ∀ t, top = t + 1 → runs prog w A R a true t t res ((t : Int) - 1) s := by
  intro top
  induction top using Nat.strongRecOn with
  | _ top ih =>
    intro htz X s z hp hH
    refine ⟨fun e => hfin X s z hp (e ▸ hH), fun t e => ?_⟩
    subst e
    have hXs : X.size = X0.size := by
      have := hp.length_eq
      rw [Array.length_toList, Array.length_toList] at this
      exact this
    exact run_down hu X0 hk hz (ih t (by omega) (by omega)) _ t X s rfl z hp ⟨fun i h1 h2 h3 h4 => hH i h1 (by omega), fun c h1 h2 h3 => absurd h3 (Nat.lt_irrefl _), .top⟩ (by omega)
end
end Fp

set_option Elab.async false
set_option linter.all false
set_option maxRecDepth 100000
set_option maxHeartbeats 2000000
/-! min(d, key=rank_of) of a dict of texts -/
namespace Fp
open PySem PySem.W PySem.Spec PyProof.Rows
section
variable {prog : Program} {w : World} {A : Around} {E : Value → Shared → Prop} {s : Shared} {K : Frag} {mg : Str → Option Value} {base : Heap} {fR : Addr} {fd : FuncData} {p0 p1 p2 p3 p4 p5 p6 p7 : Pos}
theorem rank_call2 (F : L2.FunD K "rank_of" "rank_of" (rkA p0) (rkB p1 p2 p3 p4 p5 p6 p7) rkS [] [] fR fd) (Mo : L2.Mod K mg base) (kb : ∀ b o, base.get? b = some o → s.heap.get? b = some o) (hlen : mg "len" = none) (hroom : A.depth + 1 < recursionLimit)
    {w0 : Str} {t : Tok} (hw : w0.length ≤ sizeLine) : wpAny (model prog w) A (call (.ref fR) [.str w0 t]) (fun v s' => ∃ h' tk p, v = .ref p ∧ s' = { s with heap := h', toks := tk } ∧ (∀ b o, s.heap.get? b = some o → h'.get? b = some o) ∧ s.heap.get? p = none ∧ RkAt h' v w0) E s := by
  obtain ⟨oc, od, dV, kV, doc, pm, an, cdv, ct, osl, rfl, lk, hcd, hD, _⟩ := F.ex
  obtain rfl : dV = .none := by
    rcases hD with ⟨_, e⟩ | ⟨e, _⟩
    · exact e
    · exact absurd rfl e
  have X : K.In s.heap := Mo.kin.keeps kb
  refine wpAny_call (Att.call_fn (binds := [("word", .str w0 t)]) X (Mo.nolimit.keeps kb) lk hcd (Nat.lt_of_succ_lt hroom) (BindsTo.of_eq (by first | rfl | with_unfolding_all rfl)) (by first | rfl | decide | with_unfolding_all rfl) (fun s₁ IC => ?_) rfl rfl rfl)
  obtain ⟨h₁, tk₁, rfl⟩ := IC.toInCall.same
  have k : ∀ b o, s.heap.get? b = some o → h₁.get? b = some o := IC.toInCall.keep
  have hn := IC.toInCall.ns
  obtain ⟨mb, b1, b2⟩ := Mo.blt
  show wpAny _ _ (execs _ _) _ _ _
  refine wpAny_execs_cons (wpAny_Return_some (wpAny_Tuple_spliced ?_))
  show wpAny _ _ (spliced ((false, eval _ _) :: backTo p6 (starEach [_] _))) _ _ _
  refine Calls.spliced_cons (wpAny_UnaryOp ?_)
  refine wpAny_Call_Name_kw (Calls.Name_function_global rfl rfl (Calls.loadGlobal_builtin (Mo.glob.keeps fun b o e => k b o (kb b o e)) hlen (b1.keeps fun b o e => k b o (kb b o e)) ((b2 "len" (by decide)).trans boot_len) ?_) (by decide))
  refine callWith_builtin1 (spliced_more (ldC (v := .str w0 t) hn (by first | rfl | with_unfolding_all rfl | kernel_rfl) (spliced_none ?_))) rfl rfl
  have hs : sizeLine = 16777216 := sizeLine_eq
  have hl63 := L2.line63
  refine len_str (by omega) (neg_int ?_)
  show wpAny _ _ (spliced ((false, eval _ _) :: backTo p6 (starEach [] _))) _ _ _
  refine Calls.spliced_cons (ldC (v := .str w0 t) hn (by first | rfl | with_unfolding_all rfl | kernel_rfl) (Calls.spliced_nil ?_))
  refine ⟨by show 2 ≤ sizeLine; rw [sizeLine_eq]; decide, ?_⟩
  refine ⟨_, _, _, rfl, rfl, fun b o e => Heap.get?_push_of_some _ (k b o e), ?_, ?_⟩
  · cases q : s.heap.get? h₁.objs.size with
    | none => rfl
    | some u =>
      have := Heap.lt_size (k _ _ q)
      exact absurd this (Nat.lt_irrefl _)
  · exact ⟨_, _, _, _, _, rfl, Heap.get?_push_size _ rfl, rfl, rfl⟩
end
theorem best_le {bt : Nat → Nat → Bool} {le : Nat → Nat → Prop} (rf : ∀ i, le i i) (tr : ∀ i j k, le i j → le j k → le i k) (h1 : ∀ i j, bt i j = true → le i j) (h2 : ∀ i j, bt i j = false → le j i) : ∀ k, argBest bt k ≤ k ∧ ∀ j, j ≤ k → le (argBest bt k) j
  | 0 => ⟨Nat.le_refl _, fun j hj => by
    have : j = 0 := by omega
    subst this
    exact rf 0⟩
  | k + 1 => by
    obtain ⟨a1, a2⟩ := best_le rf tr h1 h2 k
    simp only [argBest]
    cases hb : bt (k + 1) (argBest bt k) with
    | true =>
      rw [if_pos rfl]
      refine ⟨Nat.le_refl _, fun j hj => ?_⟩
      by_cases e : j = k + 1
      · rw [e]
        exact rf _
      · exact tr _ _ _ (h1 _ _ hb) (a2 j (by omega))
    | false =>
      rw [if_neg Bool.false_ne_true]
      refine ⟨by omega, fun j hj => ?_⟩
      by_cases e : j = k + 1
      · rw [e]
        exact h2 _ _ hb
      · exact a2 j (by omega)
end Fp
namespace L2
open PySem PySem.Spec PyProof.Rows
def rMinRk (fR : Addr) : List V → List V → Hp → VK → Prop := fun vs zs H Q => ∃ (a : Addr) (kvs : List (Key × V)) (ws : List Str), vs = [.ref a] ∧ zs = [.ref fR] ∧ H a = some (.dK kvs) ∧ kvs.map (·.1) = ws.map Sum.inr ∧ ws ≠ [] ∧ (∀ w ∈ ws, w.length ≤ sizeLine) ∧
  ∀ m ∈ ws, (∀ y ∈ ws, Fp.leR m y = true) → Q (.str m) H
section
variable {X : Cx} {fR : Addr} {fd : FuncData} {p0 p1 p2 p3 p4 p5 p6 p7 : Pos}
theorem cr_minRk (hcalm : X.calm = true) (F : FunD X.K "rank_of" "rank_of" (Fp.rkA p0) (Fp.rkB p1 p2 p3 p4 p5 p6 p7) Fp.rkS [] [] fR fd) (hlen : X.mg "len" = none) (hr : Room 3 X.A) : CallRK X (.builtin "min") [Str.ofString "key"] (rMinRk fR) := by
  intro pins s σ H vs zs us ws Q I r rz h
  obtain ⟨a, kvs, ks, rfl, rfl, ha, hks, hne, hwl, q⟩ := h
  obtain rfl := Vals.ref1 r
  obtain ⟨w1, rfl, e1⟩ := vals1 rz
  obtain rfl : w1 = Value.ref fR := e1
  obtain ⟨_, hsys, vs, rel, dof⟩ := dk_of I.hok ha
  obtain ⟨ep, dat⟩ := dof.dictAt
  obtain ⟨ob, es, ho, hex, hdat, hko, hpr, hnd⟩ := id dat
  have hlt : a < s.heap.objs.size := Heap.lt_size ho
  have hkeys : vs.map (·.1) = ks.map Sum.inr := (KV.keys rel).symm.trans hks
  have hlv : vs.length = ks.length := by
    have e1 := congrArg List.length hkeys
    rw [List.length_map, List.length_map] at e1
    exact e1
  have hpos : 0 < ks.length := List.length_pos_iff.mpr hne
  have hval : ∀ (i : Nat) (v : Value), (∃ k x, vs[i]? = some (k, x) ∧ (mixKind X.prog X.w).is k v = true) → ∃ x t, ks[i]? = some x ∧ v = Value.str x t := fun i v ⟨k, x, hk, hkey⟩ => by
    have e1 : (vs.map (·.1))[i]? = some k := by rw [List.getElem?_map, hk] <;> rfl
    rw [hkeys, List.getElem?_map] at e1
    obtain ⟨j, hj, e2⟩ := Option.map_eq_some_iff.mp e1
    subst e2
    obtain ⟨t, e3⟩ := Value.isStrOf_shape (x := j) (v := v) hkey
    exact ⟨j, t, hj, e3⟩
  refine call_min_walkK (wpAny_pyIter_dict (knd := mixKind X.prog X.w) hsys dat ?_)
  refine ⟨_, _, _, _, _, _, _, (fun s' => ∃ h' tk, s' = { s with heap := h', toks := tk } ∧ ∀ b o, s.heap.get? b = some o → h'.get? b = some o),
    (fun i v s' => ∃ x, ks[i]? = some x ∧ Fp.RkAt s'.heap v x ∧ v ≠ .ref s.heap.objs.size ∧ v ≠ .ref (s.heap.objs.size + 1)), (fun i j => PySem.W.dataLt (Fp.rk (ks.getD i "")) (Fp.rk (ks.getD j ""))), rfl,
    (Walks.dictKeys (knd := mixKind X.prog X.w) (A := X.A.in1) (I.ok.hd hcalm) s.heap.objs.size a (Nat.ne_of_lt hlt) vs ep).toS,
    ⟨⟨_, Heap.get?_push_size _ rfl, rfl, rfl⟩, dat.keep fun b u e => Heap.get?_push_of_some _ e⟩, fun b hb => ?_, by rw [hlv]; exact hpos, ?_, ⟨_, s.toks, rfl, fun b o e => Heap.get?_push_of_some _ e⟩, fun v s' hP hJ => ?_⟩
  · show b < (s.heap.push _).objs.size
    rw [Heap.size_push]
    rcases List.mem_cons.mp hb with e | hb
    · rw [e]
      exact Nat.lt_succ_self _
    · rw [List.mem_singleton.mp hb]
      exact Nat.lt_succ_of_lt hlt
  · have hS : (s.heap.push { cls := .type "dict_keyiterator", data := .fields #[.ref a, .int 0 0, .int vs.length 0, .int ep 0] }).objs.size = s.heap.objs.size + 1 := Heap.size_push _ _
    have old : ∀ {b : Addr} {o : Obj}, s.heap.get? b = some o → b ∉ (s.heap.push { cls := .type "dict_keyiterator", data := .fields #[.ref a, .int 0 0, .int vs.length 0, .int ep 0] }).objs.size :: [s.heap.objs.size] := fun e hm => by
      have hb := Heap.lt_size e
      rw [hS] at hm
      rcases List.mem_cons.mp hm with h1 | h1
      · rw [h1] at hb
        exact absurd hb (Nat.not_lt.mpr (Nat.le_succ _))
      · rw [List.mem_singleton.mp h1] at hb
        exact Nat.lt_irrefl _ hb
    have rkk : ∀ {h1 h2 : Heap} {v : Value} {x : Str}, Fp.RkAt h1 v x → (∀ p o, v = .ref p → h1.get? p = some o → h2.get? p = some o) → Fp.RkAt h2 v x := fun ⟨p, o, t1, t2, n, e0, e1, e2, e3⟩ hk => ⟨p, o, t1, t2, n, e0, hk p o e0 e1, e2, e3⟩
    have gd : ∀ {i : Nat} {x : Str}, ks[i]? = some x → ks.getD i "" = x := fun e => by
      rw [List.getD_eq_getElem?_getD, e]
      rfl
    refine ⟨fun s1 s2 hJ hm => ?_, fun i k s1 s2 hV hm => ?_, fun i v s1 o Q' E' hi hP hJ hst hSo hq => ?_, fun i j ki kj s1 Q' E' hJ hVi hVj hq => ?_⟩
    · obtain ⟨h1, tk, rfl, hk⟩ := hJ
      obtain ⟨m1, m2, m3, m4, m5⟩ := hm
      obtain ⟨hp2, g2, d2, t2, o2⟩ := s2
      have m2 : g2 = s.gens := m2
      have m3 : d2 = s.drawn := m3
      have m4 : o2 = s.os := m4
      subst m2
      subst m3
      subst m4
      exact ⟨hp2, t2, rfl, fun b o e => m1 b o (old e) (hk b o e)⟩
    · obtain ⟨x, hx, hr', n1, n2⟩ := hV
      refine ⟨x, hx, rkk hr' fun p o e0 e1 => hm.heap p o (fun hmem => ?_) e1, n1, n2⟩
      rw [hS] at hmem
      rcases List.mem_cons.mp hmem with h1 | h1
      · exact n2 (by rw [e0, h1])
      · exact n1 (by rw [e0, List.mem_singleton.mp h1])
    · obtain ⟨x, t, hx, rfl⟩ := hval i v hP
      obtain ⟨h1, tk, rfl, hk⟩ := hJ
      have hdp := hr.dp
      refine wpAny_mono (Fp.rank_call2 (s := { s with heap := h1, toks := tk }) F I.ok.mod (fun b o e => hk b o (I.bk b o e)) hlen (by show X.A.depth + 1 < _; omega) (hwl x (List.mem_of_getElem? hx))) (fun k s' hk' => ?_) fun _ _ e => e
      obtain ⟨h2, tk2, p, rfl, rfl, kp, np, hr'⟩ := hk'
      have hI := hst.1
      refine hq _ _ ⟨h2, tk2, rfl, fun b o e => kp b o (hk b o e)⟩ ((Walks.dictKeys (prog := X.prog) (w := X.w) (knd := mixKind X.prog X.w) (A := X.A.in1) (I.ok.hd hcalm) s.heap.objs.size a (Nat.ne_of_lt hlt) vs ep).frame _ _ _ hst fun b _ o e => kp b o e) (kp _ _ hSo) ⟨x, hx, hr', fun e => ?_, fun e => ?_⟩ fun j k' hV => ?_
      · obtain ⟨oi, hoi, _⟩ := hI
        injection e with e
        rw [e] at np
        rw [np] at hoi
        cases hoi
      · injection e with e
        rw [hS] at hSo
        rw [e] at np
        rw [np] at hSo
        cases hSo
      · obtain ⟨y, hy, hr2, n1, n2⟩ := hV
        exact ⟨y, hy, rkk hr2 fun p o _ e1 => kp p o e1, n1, n2⟩
    · obtain ⟨x, hx, r1, _⟩ := hVi
      obtain ⟨y, hy, r2, _⟩ := hVj
      have hu := hr.in1.in1.in1.units0
      refine PySem.W.lt_data r1.reads r2.reads (Fp.alike_rk _ _) (by intro e; cases e) ?_ ?_
      · have a1 := Fp.rk_depth x
        have a2 := Fp.rk_depth y
        show X.A.in1.units + min (Fp.rk x).depth (Fp.rk y).depth < cLine
        have hu : X.A.in1.units + 2 < cLine := hu
        omega
      · rw [gd hx, gd hy] at hq
        exact hq
  · obtain ⟨h', tk, rfl, hk⟩ := hJ
    obtain ⟨x, t, hx, rfl⟩ := hval _ v hP
    refine ⟨.str x, H, I.kept (t' := tk) hk, ⟨t, rfl⟩, q x (List.mem_of_getElem? hx) fun y hy => ?_⟩
    obtain ⟨b1, b2⟩ := Fp.best_le (bt := fun i j => PySem.W.dataLt (Fp.rk (ks.getD i "")) (Fp.rk (ks.getD j ""))) (le := fun i j => Fp.leR (ks.getD i "") (ks.getD j "") = true) (fun i => (Fp.leR_tl.total _ _).elim id id) (fun i j k => Fp.leR_tl.trans _ _ _)
      (fun i j e => (Fp.leR_tl.total _ _).resolve_right fun e2 => by
        have : (!PySem.W.dataLt (Fp.rk (ks.getD i "")) (Fp.rk (ks.getD j ""))) = true := e2
        rw [e] at this
        cases this) (fun i j e => by
        show (!PySem.W.dataLt (Fp.rk (ks.getD i "")) (Fp.rk (ks.getD j ""))) = true
        rw [e]
        rfl) (vs.length - 1)
    obtain ⟨j, hj, ej⟩ := List.mem_iff_getElem.mp hy
    have := b2 j (by omega)
    rw [List.getD_eq_getElem?_getD, hx, List.getD_eq_getElem?_getD, List.getElem?_eq_getElem hj, ej] at this
    exact this
end
end L2

set_option Elab.async false
set_option linter.all false
set_option maxRecDepth 100000
set_option maxHeartbeats 2000000
/-! heapify, heappush, heappop, run -/
namespace Fp
open PySem PySem.Spec PyProof.Rows
theorem Hpd.sub {α : Type} {le : α → α → Prop} {X Y : Array α} {top : Nat} (h : Hpd le X top) (e : ∀ i, 1 ≤ i → ∀ v, Y[i]? = some v → X[i]? = some v) (e0 : ∀ i p, top ≤ i → Y[i]? = some p → X[i]? = some p) : Hpd le Y top := fun i h1 h2 v p a b =>
  h i h1 h2 v p (e i h1 v a) (e0 _ p h2 b)
section
variable {prog : Program} {w : World} {A : Around} {R : Result → Shared → Prop} {a : Addr} {s : Shared} {wd : Value → Str}
theorem StH.refl {X : Array Value} {n : Nat} (h : s.heap.get? a = some (lob X n)) : StH a s X s := ⟨s.heap, n, rfl, h, fun _ _ _ e => e⟩
theorem StH.get {s0 : Shared} {X : Array Value} (z : StH a s0 X s) : ∃ n, s.heap.get? a = some (lob X n) := by
  obtain ⟨h, n, rfl, e, _⟩ := z
  exact ⟨n, e⟩
theorem isl {X : Array Value} {n : Nat} (h : s.heap.get? a = some (lob X n)) : s.TypeIs (.ref a) "list" := ⟨_, h, rfl⟩
theorem sub_list : isSubtype (.type "list") (.type "list") = pure true := by with_unfolding_all rfl
theorem pop_run (hu : A.in1.units + 2 < cLine) {n : Nat} {f lst : Value} {mid : List Value} (h : s.heap.get? a = some (lob (f :: (mid ++ [lst])).toArray n)) (hz : mid.length + 2 ≤ sizeLine)
    (hk : ∀ v ∈ f :: (mid ++ [lst]), KeyH a s wd v) (hh : Hpd (leV wd) (f :: (mid ++ [lst])).toArray 0)
    (q : ∀ X' s', StH a s X' s' → X'.toList.Perm (lst :: mid) → Hpd (leV wd) X' 0 → R (.ok (.ret f)) s') :
    wpAny (model prog w) A.in1 (Builtin.«_heapq.heappop» ⟨[.ref a], []⟩) (FPo prog w A R) (fun e s' => R (.error e) s') s := by
  unfold Builtin.«_heapq.heappop»
  refine wpAny_bind (wpAny_bind (wpAny_bind (wpAny_pure (wpAny_pure ?_))))
  dsimp only
  refine wpAny_bind (wpAny_bind (wpAny_isInstance (isl h) sub_list ?_))
  rw [if_pos rfl]
  refine wpAny_pure (wpAny_pure ?_)
  dsimp only
  refine wpAny_bind (wpAny_bind (wpAny_seqItems h rfl (wpAny_pure ?_)))
  have hb : ((f :: (mid ++ [lst])).toArray).back? = some lst := by
    rw [List.back?_toArray]
    exact List.getLast?_concat (l := f :: mid)
  have hs : ((f :: (mid ++ [lst])).toArray).size = mid.length + 2 := by simp
  rw [hb]
  dsimp only
  have z0 := (StH.refl h).swap fun x => x.pop
  refine wpAny_bind (wpAny_updateSeq h rfl ?_ (by omega) (by rw [Array.size_pop]; omega))
  rw [if_neg (show ¬ ((((f :: (mid ++ [lst])).toArray).size == 1) = true) from by rw [hs]; simp)]
  refine wpAny_bind (at_get (X := (f :: (mid ++ [lst])).toArray) (i := 0) (v := f) (by rfl) ?_)
  obtain ⟨n1, h1⟩ := z0.get
  have z1 := z0.swap fun x => x.setIfInBounds 0 lst
  refine wpAny_bind (wpAny_updateSeq h1 rfl ?_ (by rw [Array.size_pop]; omega) (by rw [Array.size_setIfInBounds, Array.size_pop]; omega))
  have eY : (((f :: (mid ++ [lst])).toArray).pop).setIfInBounds 0 lst = (lst :: mid).toArray := by
    apply Array.ext'
    simp [List.dropLast_cons_of_ne_nil]
  rw [eY] at z1
  have hY : ∀ i, 1 ≤ i → ∀ v, ((lst :: mid).toArray)[i]? = some v → ((f :: (mid ++ [lst])).toArray)[i]? = some v := fun i hi v e => by
    obtain ⟨j, rfl⟩ : ∃ j, i = j + 1 := ⟨i - 1, by omega⟩
    simp at e ⊢
    rw [List.getElem?_append_left ((List.getElem?_eq_some_iff.mp e).1)]
    exact e
  have hsY : ((lst :: mid).toArray).size = mid.length + 1 := by simp
  refine go_on (top := 0) (after := -1) (run_down (s0 := s) (wd := wd) (top := 0) hu ((lst :: mid).toArray) (fun v hv => hk v ?_) (by omega) (fun X s' z hp hH => ⟨fun _ => q X s' z hp hH, fun t e => by cases e⟩) _ 0 _ _ rfl z1 (List.Perm.refl _) ⟨fun i i1 i2 i3 i4 v p e1 e2 => ?_, fun c c1 c2 c3 => absurd c3 (Nat.lt_irrefl _), .top⟩ (by omega))
  · have : v ∈ lst :: mid := by simpa using hv
    rcases List.mem_cons.mp this with e | e
    · rw [e]
      simp
    · exact List.mem_cons_of_mem _ (List.mem_append_left _ e)
  · exact hh i i1 i2 v p (hY i i1 v e1) (hY _ (by omega) p e2)
theorem pop1_run {n : Nat} {f : Value} (h : s.heap.get? a = some (lob #[f] n)) (q : ∀ s', StH a s #[] s' → R (.ok (.ret f)) s') :
    wpAny (model prog w) A.in1 (Builtin.«_heapq.heappop» ⟨[.ref a], []⟩) (FPo prog w A R) (fun e s' => R (.error e) s') s := by
  unfold Builtin.«_heapq.heappop»
  refine wpAny_bind (wpAny_bind (wpAny_bind (wpAny_pure (wpAny_pure ?_))))
  dsimp only
  refine wpAny_bind (wpAny_bind (wpAny_isInstance (isl h) sub_list ?_))
  rw [if_pos rfl]
  refine wpAny_pure (wpAny_pure ?_)
  dsimp only
  refine wpAny_bind (wpAny_bind (wpAny_seqItems h rfl (wpAny_pure ?_)))
  have hb : (#[f] : Array Value).back? = some f := by simp
  rw [hb]
  dsimp only
  have hs : sizeLine = 16777216 := sizeLine_eq
  have z0 := (StH.refl h).swap fun x => x.pop
  refine wpAny_bind (wpAny_updateSeq h rfl ?_ (by show 1 ≤ sizeLine; omega) (by rw [Array.size_pop]; show 0 ≤ sizeLine + 1; omega))
  rw [if_pos (by simp)]
  refine wpAny_bind (wpAny_pure ?_)
  exact wpAny_pure (q _ z0)
theorem push_run (hu : A.in1.units + 2 < cLine) {n : Nat} {X : Array Value} {v : Value} (h : s.heap.get? a = some (lob X n)) (hz : X.size + 1 ≤ sizeLine)
    (hk : ∀ u ∈ X.push v, KeyH a s wd u) (hh : Hpd (leV wd) X 0) (q : ∀ X' s', StH a s X' s' → X'.toList.Perm (X.push v).toList → Hpd (leV wd) X' 0 → R (.ok (.ret .none)) s') :
    wpAny (model prog w) A.in1 (Builtin.«_heapq.heappush» ⟨[.ref a, v], []⟩) (FPo prog w A R) (fun e s' => R (.error e) s') s := by
  unfold Builtin.«_heapq.heappush»
  refine wpAny_bind (wpAny_bind (wpAny_pure ?_))
  refine wpAny_bind (wpAny_pure ?_)
  dsimp only
  refine wpAny_bind (wpAny_bind (wpAny_isInstance (isl h) sub_list ?_))
  rw [if_pos rfl]
  refine wpAny_pure (wpAny_pure ?_)
  dsimp only
  have z0 := (StH.refl h).swap fun x => x.push v
  refine wpAny_bind (wpAny_updateSeq h rfl ?_ (by omega) (by rw [Array.size_push]; omega))
  obtain ⟨n1, h1⟩ := z0.get
  refine wpAny_bind (wpAny_bind (wpAny_seqItems h1 rfl (wpAny_pure ?_)))
  have hs : (X.push v).size - 1 = X.size := by rw [Array.size_push]; omega
  rw [hs]
  have hY : ∀ (i : Nat) (u : Value), i ≠ X.size → (X.push v)[i]? = some u → X[i]? = some u := fun i u hi e => by
    rw [Array.getElem?_push, if_neg hi] at e
    exact e
  refine go_on (top := 0) (after := -1) (run_up (s0 := s) (wd := wd) (top := 0) hu (X.push v) hk (by rw [Array.size_push]; omega) (fun X s' z hp hH => ⟨fun _ => q X s' z hp hH, fun t e => by cases e⟩) X.size _ _ z0 (List.Perm.refl _) ⟨fun i i1 i2 i3 u p e1 e2 => ?_, fun c c1 c2 c3 u p e1 e2 => ?_, ?_⟩ (by rw [Array.size_push]; omega))
  · have hi := (Array.getElem?_eq_some_iff.mp e1).1
    rw [Array.size_push] at hi
    exact hh i i1 i2 u p (hY i u i3 e1) (hY _ p (by omega) e2)
  · have hi := (Array.getElem?_eq_some_iff.mp e1).1
    rw [Array.size_push] at hi
    omega
  · have : ∀ k, Sub 0 k := fun k => by
      induction k using Nat.strongRecOn with
      | _ k ih =>
        by_cases hk0 : k = 0
        · rw [hk0]
          exact .top
        · exact .down (ih ((k - 1) / 2) (by omega)) (by omega) rfl
    exact this _
theorem ify_run (hu : A.in1.units + 2 < cLine) {n : Nat} {X : Array Value} (h : s.heap.get? a = some (lob X n)) (hz : X.size ≤ 2500)
    (hk : ∀ u ∈ X, KeyH a s wd u) (q : ∀ X' s', StH a s X' s' → X'.toList.Perm X.toList → Hpd (leV wd) X' 0 → R (.ok (.ret .none)) s') :
    wpAny (model prog w) A.in1 (Builtin.«_heapq.heapify» ⟨[.ref a], []⟩) (FPo prog w A R) (fun e s' => R (.error e) s') s := by
  have hs : sizeLine = 16777216 := sizeLine_eq
  unfold Builtin.«_heapq.heapify»
  refine wpAny_bind (wpAny_bind (wpAny_bind (wpAny_pure (wpAny_pure ?_))))
  dsimp only
  refine wpAny_bind (wpAny_bind (wpAny_isInstance (isl h) sub_list ?_))
  rw [if_pos rfl]
  refine wpAny_pure (wpAny_pure ?_)
  dsimp only
  refine wpAny_bind (wpAny_bind (wpAny_seqItems h rfl (wpAny_pure ?_)))
  rw [if_neg (show ¬ (X.size > 2500) by omega)]
  by_cases h2 : X.size < 2
  · rw [if_pos h2]
    refine wpAny_bind (wpAny_pure ?_)
    refine wpAny_pure (q X s (StH.refl h) (List.Perm.refl _) fun i i1 i2 v p e1 e2 => ?_)
    have := (Array.getElem?_eq_some_iff.mp e1).1
    omega
  · rw [if_neg h2]
    have e1 : (((X.size / 2 : Nat) : Int) - 2) = ((X.size / 2 - 1 : Nat) : Int) - 1 := by omega
    rw [e1]
    have hall := run_all (prog := prog) (w := w) (A := A) (s0 := s) (wd := wd) (R := R) (res := .none) hu X hk (by omega) (fun X' s' z hp hH => q X' s' z hp hH) (X.size / 2 - 1 + 1) (by omega) X s (StH.refl h) (List.Perm.refl _) (fun i i1 i2 v p e1 e2 => by
      have := (Array.getElem?_eq_some_iff.mp e1).1
      omega)
    exact go_on (hall.2 (X.size / 2 - 1) rfl)
end
end Fp

set_option Elab.async false
set_option linter.all false
set_option maxRecDepth 100000
set_option maxHeartbeats 2000000
/-! heapify, heappush, heappop of ranks of words: the rules -/
namespace L2
open PySem PySem.Spec PyProof.Rows
abbrev PQ : Type := List (Addr × Str)
/-- a list in heap order -/
def HpL (ws : List Str) : Prop := ∀ i, 1 ≤ i → ∀ a b, ws[i]? = some a → ws[(i - 1) / 2]? = some b → Fp.leR b a = true
def QAt (H : Hp) (ps : PQ) : Prop := ∀ p ∈ ps, H p.1 = some (.tup [.int (-(p.2.length : Int)), .str p.2])
def adr : Value → Addr
  | .ref p => p
  | _ => 0
def wdQ (ps : PQ) (v : Value) : Str := ((ps.find? fun p => decide (p.1 = adr v)).map (·.2)).getD ""
theorem wdQ_of {H : Hp} {ps : PQ} (h : QAt H ps) {p : Addr × Str} (hp : p ∈ ps) : wdQ ps (.ref p.1) = p.2 := by
  unfold wdQ
  cases e : ps.find? fun q => decide (q.1 = adr (.ref p.1)) with
  | none =>
    have := List.find?_eq_none.mp e p hp
    exact absurd (decide_eq_true rfl) this
  | some q =>
    have h1 := List.mem_of_find?_eq_some e
    have h2 := List.find?_some e
    have h2 : q.1 = p.1 := of_decide_eq_true h2
    have h3 := h q h1
    have h4 := h p hp
    rw [h2, h4] at h3
    injection h3 with h3
    injection h3 with h3
    injection h3 with _ h3
    injection h3 with h3 _
    injection h3 with h3
    exact h3.symm
/-- the values of a queue, in another order, are those of a queue in another order -/
theorem wdQ_perm {H : Hp} {ps : PQ} (h : QAt H ps) {vs : List Value} (hp : vs.Perm (ps.map fun p => Value.ref p.1)) : ∃ ps' : PQ, ps'.Perm ps ∧ vs = ps'.map fun p => Value.ref p.1 := by
  refine ⟨vs.map fun v => (adr v, wdQ ps v), ?_, ?_⟩
  · have h1 := hp.map fun v => ((adr v, wdQ ps v) : Addr × Str)
    rw [List.map_map] at h1
    have h2 : ps.map ((fun v => ((adr v, wdQ ps v) : Addr × Str)) ∘ fun p => Value.ref p.1) = ps := by
      conv => rhs; rw [← List.map_id ps]
      apply List.map_congr_left
      intro p hp
      show ((p.1, wdQ ps (.ref p.1)) : Addr × Str) = p
      rw [wdQ_of h hp]
    rw [h2] at h1
    exact h1
  · rw [List.map_map]
    conv => lhs; rw [← List.map_id vs]
    apply List.map_congr_left
    intro v hv
    obtain ⟨p, _, rfl⟩ := List.mem_map.mp (hp.mem_iff.mp hv)
    rfl
theorem QAt.perm {H : Hp} {ps ps' : PQ} (h : QAt H ps) (hp : ps'.Perm ps) : QAt H ps' := fun p hq => h p (hp.mem_iff.mp hq)
theorem hpd_l {H : Hp} {ps ps' : PQ} (h : QAt H ps) (hp : ps'.Perm ps) (x : Fp.Hpd (Fp.leV (wdQ ps)) (ps'.map fun p => Value.ref p.1).toArray 0) : HpL (ps'.map (·.2)) := fun i i1 a b e1 e2 => by
  rw [List.getElem?_map] at e1 e2
  cases q1 : ps'[i]? with
  | none => rw [q1] at e1; cases e1
  | some p1 =>
    cases q2 : ps'[(i - 1) / 2]? with
    | none => rw [q2] at e2; cases e2
    | some p2 =>
      rw [q1] at e1
      rw [q2] at e2
      cases e1
      cases e2
      have := x i i1 (Nat.zero_le _) (.ref p1.1) (.ref p2.1) (by simp [q1]) (by simp [q2])
      have h1 := wdQ_of h (hp.mem_iff.mp (List.mem_of_getElem? q1))
      have h2 := wdQ_of h (hp.mem_iff.mp (List.mem_of_getElem? q2))
      have this : Fp.leR (wdQ ps (.ref p2.1)) (wdQ ps (.ref p1.1)) = true := this
      rw [h1, h2] at this
      exact this
theorem l_hpd {H : Hp} {ps qs : PQ} (h : QAt H ps) (hs : ∀ p ∈ qs, p ∈ ps) (x : HpL (qs.map (·.2))) : Fp.Hpd (Fp.leV (wdQ ps)) (qs.map fun p => Value.ref p.1).toArray 0 := fun i i1 i2 v u e1 e2 => by
  simp only [List.getElem?_toArray, List.getElem?_map] at e1 e2
  cases q1 : qs[i]? with
  | none => rw [q1] at e1; cases e1
  | some p1 =>
    cases q2 : qs[(i - 1) / 2]? with
    | none => rw [q2] at e2; cases e2
    | some p2 =>
      rw [q1] at e1
      rw [q2] at e2
      cases e1
      cases e2
      show Fp.leR (wdQ ps (.ref p2.1)) (wdQ ps (.ref p1.1)) = true
      rw [wdQ_of h (hs _ (List.mem_of_getElem? q1)), wdQ_of h (hs _ (List.mem_of_getElem? q2))]
      exact x i i1 p1.2 p2.2 (by rw [List.getElem?_map, q1]; rfl) (by rw [List.getElem?_map, q2]; rfl)
section
variable {X : Cx}
theorem keyq_of {pins : List (Addr × Obj)} {σ : St} {H : Hp} {s : Shared} (I : Inv X pins σ H s) {q : Addr} {xs : List V} (hq : H q = some (.lst xs)) {ps : PQ} (h : QAt H ps) : ∀ p ∈ ps, Fp.KeyH q s (wdQ ps) (.ref p.1) := fun p hp => by
  have hp' := h p hp
  obtain ⟨its, r, pl, hz⟩ := I.tuple (.inl (.inl hp'))
  obtain ⟨o, ho, hc, n, hd⟩ := (show s.heap.IsTuple p.1 its.toArray from pl)
  refine ⟨?_, fun e => ?_⟩
  · rw [wdQ_of h hp]
    cases r with
    | cons r1 r =>
      cases r with
      | cons r2 r =>
        cases r
        obtain ⟨t1, rfl⟩ := r1
        obtain ⟨t2, rfl⟩ := r2
        exact ⟨p.1, o, t1, t2, n, rfl, ho, hc, hd⟩
  · injection e with e
    rw [e, hq] at hp'
    cases hp'
theorem inv_q {pins : List (Addr × Obj)} {σ : St} {H : Hp} {s s' : Shared} (I : Inv X pins σ H s) {q : Addr} {xs : List V} (hq : H q = some (.lst xs)) {Y : Array Value} (z : Fp.StH q s Y s') {qs : PQ} (e : Y.toList = qs.map fun p => Value.ref p.1) (hz : qs.length ≤ sizeLine) :
    Inv X pins σ (upd H q (.lst (qs.map fun p => V.ref p.1))) s' := by
  obtain ⟨h, n, rfl, h1, h2⟩ := z
  have hY : Y = (qs.map fun p => Value.ref p.1).toArray := by rw [← e]
  rw [hY] at h1
  refine I.write (x := q) (e := q) (by rw [hq]; exact trivial) (.inl rfl) (fun b' u hb hu => h2 b' u hb hu) ⟨_, h1⟩ ?_
  refine ⟨by rw [List.length_map]; exact hz, _, _, ?_, h1⟩
  clear e hY h1 hz
  induction qs with
  | nil => exact .nil
  | cons p r ih => exact .cons rfl ih
theorem refsq_of : ∀ {ps : PQ} {us : List Value}, Vals (ps.map fun p => V.ref p.1) us → us = ps.map fun p => Value.ref p.1
  | [], _, h => by cases h; rfl
  | p :: ps, _, h => by
    cases h with
    | cons r t =>
      cases r
      rw [refsq_of t] <;> rfl
theorem kind_ify : builtinKind "_heapq.heapify" = none := by kernel_rfl
theorem kind_pop : builtinKind "_heapq.heappop" = none := by kernel_rfl
theorem kind_push : builtinKind "_heapq.heappush" = none := by kernel_rfl
theorem plain_ify : plainId "_heapq.heapify" = true := by decide +kernel
theorem plain_pop : plainId "_heapq.heappop" = true := by decide +kernel
theorem plain_push : plainId "_heapq.heappush" = true := by decide +kernel
theorem entry_ify : entryFor table "_heapq.heapify" = some Builtin.«_heapq.heapify» := entryFor_of_tree (by kernel_rfl)
theorem entry_pop : entryFor table "_heapq.heappop" = some Builtin.«_heapq.heappop» := entryFor_of_tree (by kernel_rfl)
theorem entry_push : entryFor table "_heapq.heappush" = some Builtin.«_heapq.heappush» := entryFor_of_tree (by kernel_rfl)
theorem args_ify (v : Value) : argsOk "_heapq.heapify" ⟨[v], []⟩ := by unfold argsOk; kernel_rfl
theorem args_pop (v : Value) : argsOk "_heapq.heappop" ⟨[v], []⟩ := by unfold argsOk; kernel_rfl
theorem args_push (v u : Value) : argsOk "_heapq.heappush" ⟨[v, u], []⟩ := by unfold argsOk; kernel_rfl
def rHIfy : List V → Hp → VK → Prop := fun vs H Q => ∃ (q : Addr) (ps : PQ), vs = [.ref q] ∧ H q = some (.lst (ps.map fun p => V.ref p.1)) ∧ QAt H ps ∧ ps.length ≤ 2500 ∧
  ∀ qs : PQ, qs.Perm ps → HpL (qs.map (·.2)) → Q .non (upd H q (.lst (qs.map fun p => V.ref p.1)))
theorem cr_ify (hr : Room 3 X.A) : CallR X (.builtin "_heapq.heapify") rHIfy := by
  intro pins s σ H vs us Q I r h
  obtain ⟨q, ps, rfl, hq, hk, hz, k⟩ := h
  obtain rfl := Vals.ref1 r
  obtain ⟨z, its, n, r2, hl, e⟩ := I.lstM hq
  have ei := refsq_of r2
  subst ei
  refine call_function_meets (S := fun A R s' => s' = s ∧ A = X.A ∧ R = wants (EP X pins σ Q) X.xe) kind_ify plain_ify entry_ify (args_ify _) (fun prog w A R s' hS => ?_) ⟨rfl, rfl, rfl⟩
  obtain ⟨rfl, rfl, rfl⟩ := hS
  refine Fp.ify_run (wd := wdQ ps) hr.in1.in1.in1.units0 e (by simp; exact hz) (fun u hu => ?_) (fun Y s' zz hp hH => ?_)
  · have : u ∈ ps.map fun p => Value.ref p.1 := by simpa using hu
    obtain ⟨p, hp, rfl⟩ := List.mem_map.mp this
    exact keyq_of I hq hk p hp
  · obtain ⟨qs, h1, h2⟩ := wdQ_perm hk (vs := Y.toList) (by simpa using hp)
    have hs : sizeLine = 16777216 := sizeLine_eq
    have I2 := inv_q I hq zz h2 (by rw [h1.length_eq]; omega)
    refine ⟨.non, _, I2, rfl, k qs h1 (hpd_l hk h1 ?_)⟩
    have : Y = (qs.map fun p => Value.ref p.1).toArray := by rw [← h2]
    rw [← this]
    exact hH
def rHPush : List V → Hp → VK → Prop := fun vs H Q => ∃ (q t : Addr) (x : Str) (ps : PQ), vs = [.ref q, .ref t] ∧ H q = some (.lst (ps.map fun p => V.ref p.1)) ∧ QAt H (ps ++ [(t, x)]) ∧ ps.length + 1 ≤ sizeLine ∧ HpL (ps.map (·.2)) ∧
  ∀ qs : PQ, qs.Perm (ps ++ [(t, x)]) → HpL (qs.map (·.2)) → Q .non (upd H q (.lst (qs.map fun p => V.ref p.1)))
theorem cr_push (hr : Room 3 X.A) : CallR X (.builtin "_heapq.heappush") rHPush := by
  intro pins s σ H vs us Q I r h
  obtain ⟨q, t, x, ps, rfl, hq, hk, hz, hh, k⟩ := h
  obtain ⟨u1, u2, rfl, r1, r2⟩ : ∃ u1 u2, us = [u1, u2] ∧ RelV (V.ref q) u1 ∧ RelV (V.ref t) u2 := by
    cases r with
    | cons a r =>
      cases r with
      | cons b r =>
        cases r
        exact ⟨_, _, rfl, a, b⟩
  cases r1
  cases r2
  obtain ⟨z, its, n, r2, hl, e⟩ := I.lstM hq
  have ei := refsq_of r2
  subst ei
  have epush : ((ps.map fun p => Value.ref p.1).toArray.push (.ref t)).toList = (ps ++ [(t, x)]).map fun p => Value.ref p.1 := by simp
  refine call_function_meets (S := fun A R s' => s' = s ∧ A = X.A ∧ R = wants (EP X pins σ Q) X.xe) kind_push plain_push entry_push (args_push _ _) (fun prog w A R s' hS => ?_) ⟨rfl, rfl, rfl⟩
  obtain ⟨rfl, rfl, rfl⟩ := hS
  refine Fp.push_run (wd := wdQ (ps ++ [(t, x)])) hr.in1.in1.in1.units0 e (by simp; exact hz) (fun u hu => ?_) (l_hpd hk (fun p hp => List.mem_append_left _ hp) hh) (fun Y s' zz hp hH => ?_)
  · have : u ∈ (ps ++ [(t, x)]).map fun p => Value.ref p.1 := by
      rw [← epush]
      exact Array.mem_toList_iff.mpr hu
    obtain ⟨p, hp, rfl⟩ := List.mem_map.mp this
    exact keyq_of I hq hk p hp
  · rw [epush] at hp
    obtain ⟨qs, h1, h2⟩ := wdQ_perm hk hp
    have I2 := inv_q I hq zz h2 (by rw [h1.length_eq, List.length_append]; exact hz)
    refine ⟨.non, _, I2, rfl, k qs h1 (hpd_l hk h1 ?_)⟩
    have : Y = (qs.map fun p => Value.ref p.1).toArray := by rw [← h2]
    rw [← this]
    exact hH
def rHPop : List V → Hp → VK → Prop := fun vs H Q => ∃ (q : Addr) (ps : PQ), vs = [.ref q] ∧ H q = some (.lst (ps.map fun p => V.ref p.1)) ∧ QAt H ps ∧ ps ≠ [] ∧ HpL (ps.map (·.2)) ∧
  ∀ (p : Addr × Str) (qs : PQ), (p :: qs).Perm ps → HpL (qs.map (·.2)) → (∀ r ∈ qs, Fp.leR p.2 r.2 = true) → Q (.ref p.1) (upd H q (.lst (qs.map fun p => V.ref p.1)))
theorem cr_pop (hr : Room 3 X.A) : CallR X (.builtin "_heapq.heappop") rHPop := by
  intro pins s σ H vs us Q I r h
  obtain ⟨q, ps, rfl, hq, hk, hne, hh, k⟩ := h
  obtain rfl := Vals.ref1 r
  obtain ⟨z, its, n, r2, hl, e⟩ := I.lstM hq
  have ei := refsq_of r2
  subst ei
  rw [List.length_map] at z
  refine call_function_meets (S := fun A R s' => s' = s ∧ A = X.A ∧ R = wants (EP X pins σ Q) X.xe) kind_pop plain_pop entry_pop (args_pop _) (fun prog w A R s' hS => ?_) ⟨rfl, rfl, rfl⟩
  obtain ⟨rfl, rfl, rfl⟩ := hS
  cases ps with
  | nil => exact absurd rfl hne
  | cons p rest =>
    rcases List.eq_nil_or_concat rest with rfl | ⟨mid, lst, hrest⟩
    · refine Fp.pop1_run (f := .ref p.1) e (fun s' zz => ?_)
      have I2 := inv_q I hq zz (qs := []) rfl (Nat.zero_le _)
      exact ⟨.ref p.1, _, I2, rfl, k p [] (List.Perm.refl _) (fun i _ a b e => by simp at e) (fun r hr => by cases hr)⟩
    · rw [List.concat_eq_append] at hrest
      subst hrest
      have ev : (p :: (mid ++ [lst])).map (fun p => Value.ref p.1) = .ref p.1 :: ((mid.map fun p => Value.ref p.1) ++ [.ref lst.1]) := by simp
      have e' : s'.heap.get? q = some (Fp.lob (.ref p.1 :: ((mid.map fun p => Value.ref p.1) ++ [.ref lst.1])).toArray n) := by
        rw [← ev]
        exact e
      have hl0 := l_hpd hk (fun p hp => hp) hh
      rw [ev] at hl0
      refine Fp.pop_run (wd := wdQ (p :: (mid ++ [lst]))) hr.in1.in1.in1.units0 e' (by rw [List.length_map]; simp at z; omega) (fun u hu => ?_) hl0 (fun Y s2 zz hp hH => ?_)
      · rw [← ev] at hu
        obtain ⟨r, hr', rfl⟩ := List.mem_map.mp hu
        exact keyq_of I hq hk r hr'
      · have hk2 : QAt H (mid ++ [lst]) := fun r hr' => hk r (List.mem_cons_of_mem _ hr')
        have hp2 : Y.toList.Perm ((mid ++ [lst]).map fun p => Value.ref p.1) := by
          refine hp.trans ?_
          rw [List.map_append]
          exact (List.perm_append_comm (l₁ := [Value.ref lst.1])).trans (List.Perm.refl _)
        obtain ⟨qs, h1, h2⟩ := wdQ_perm hk2 hp2
        have I2 := inv_q I hq zz h2 (by rw [h1.length_eq]; simp at z ⊢; omega)
        have hqs : ∀ r ∈ qs, r ∈ p :: (mid ++ [lst]) := fun r hr' => List.mem_cons_of_mem _ (h1.mem_iff.mp hr')
        have eY : Y = (qs.map fun p => Value.ref p.1).toArray := by rw [← h2]
        rw [eY] at hH
        refine ⟨.ref p.1, _, I2, rfl, k p qs (h1.cons p) (fun i i1 a b e1 e2 => ?_) fun r hr' => ?_⟩
        · rw [List.getElem?_map] at e1 e2
          cases q1 : qs[i]? with
          | none => rw [q1] at e1; cases e1
          | some p1 =>
            cases q2 : qs[(i - 1) / 2]? with
            | none => rw [q2] at e2; cases e2
            | some p2 =>
              rw [q1] at e1
              rw [q2] at e2
              cases e1
              cases e2
              have := hH i i1 (Nat.zero_le _) (.ref p1.1) (.ref p2.1) (by simp [q1]) (by simp [q2])
              have g1 := wdQ_of hk (hqs _ (List.mem_of_getElem? q1))
              have g2 := wdQ_of hk (hqs _ (List.mem_of_getElem? q2))
              have this : Fp.leR (wdQ (p :: (mid ++ [lst])) (.ref p2.1)) (wdQ (p :: (mid ++ [lst])) (.ref p1.1)) = true := this
              rw [g1, g2] at this
              exact this
        · have hr2 : r ∈ p :: (mid ++ [lst]) := hqs r hr'
          have h0 : Fp.Hpd (Fp.leV (wdQ (p :: (mid ++ [lst])))) ((p :: (mid ++ [lst])).map fun p => Value.ref p.1).toArray 0 := l_hpd hk (fun p hp => hp) hh
          obtain ⟨i, hi, ei⟩ := List.mem_iff_getElem.mp hr2
          have := h0.least (fun a => (Fp.leV_tot a a).elim id id) Fp.leV_tr (m := .ref p.1) (by simp) i (.ref r.1) (by
            simp only [List.getElem?_toArray, List.getElem?_map]
            rw [List.getElem?_eq_getElem hi, ei]
            rfl)
          have this : Fp.leR (wdQ (p :: (mid ++ [lst])) (.ref p.1)) (wdQ (p :: (mid ++ [lst])) (.ref r.1)) = true := this
          rw [wdQ_of hk List.mem_cons_self, wdQ_of hk hr2] at this
          exact this
end
end L2

set_option Elab.async false
set_option linter.all false
set_option maxRecDepth 100000
set_option maxHeartbeats 4000000
namespace Fp
open PySem PySem.Spec PyProof.Rows L2
/-- the shortest beginning of z among ws -/
def startOf (ws : List Str) (z : Str) : Option Str := (List.range (z.length + 1)).findSome? fun (k : Nat) => if cutS z none (some (k : Int)) ∈ ws then some (cutS z none (some (k : Int))) else none
theorem startOf_none {ws : List Str} {z : Str} (h : ∀ k : Nat, k < z.length + 1 → cutS z none (some (k : Int)) ∉ ws) : startOf ws z = none := by
  unfold startOf
  rw [List.findSome?_eq_none_iff]
  intro k hk
  rw [if_neg (h k (List.mem_range.mp hk))]
theorem startOf_hit {ws : List Str} {z : Str} {i : Nat} (hi : i < z.length + 1) (hm : cutS z none (some (i : Int)) ∈ ws) (h : ∀ k : Nat, k < i → cutS z none (some (k : Int)) ∉ ws) : startOf ws z = some (cutS z none (some (i : Int))) := by
  unfold startOf
  obtain ⟨m, hm2⟩ : ∃ m, z.length + 1 = i + (1 + m) := ⟨z.length - i, by omega⟩
  rw [hm2, List.range_add, List.findSome?_append, List.findSome?_eq_none_iff.mpr (fun k hk => by rw [if_neg (h k (List.mem_range.mp hk))]), Option.none_or, List.range_add, List.map_append, List.findSome?_append]
  have e1 : List.findSome? (fun (k : Nat) => if cutS z none (some (k : Int)) ∈ ws then some (cutS z none (some (k : Int))) else none) ((List.range 1).map (i + ·)) = some (cutS z none (some (i : Int))) := by
    simp [hm]
  rw [e1]
  rfl
theorem val_some {kvs : List (Key × V)} {ws : List Str} (h : kvs.map (·.1) = ws.map Sum.inr) {s : Str} : (valV kvs (Sum.inr s)).isSome = decide (s ∈ ws) := by
  unfold valV
  rw [Option.isSome_map, Bool.eq_iff_iff, List.find?_isSome, decide_eq_true_iff]
  refine ⟨fun ⟨p, hp, e⟩ => ?_, fun hs => ?_⟩
  · have e := of_decide_eq_true e
    have : p.1 ∈ ws.map Sum.inr := by rw [← h]; exact List.mem_map.mpr ⟨p, hp, rfl⟩
    rw [e] at this
    obtain ⟨y, hy, e2⟩ := List.mem_map.mp this
    cases e2
    exact hy
  · have : (Sum.inr s : Key) ∈ kvs.map (·.1) := by rw [h]; exact List.mem_map.mpr ⟨s, hs, rfl⟩
    obtain ⟨p, hp, e⟩ := List.mem_map.mp this
    exact ⟨p, hp, decide_eq_true e⟩
def optV : Option Str → V
  | some s => .str s
  | none => .non
section
variable {P : Program} {w : World} {K : PySem.W.Frag} {mg : Str → Option Value} {base : Heap}
def spRank : Sp := fun vs H Q _ => ∃ z : Str, vs = [.str z] ∧ z.length ≤ sizeLine ∧ ∀ p, H p = none → Q (.ref p) (upd H p (.tup [.int (-(z.length : Int)), .str z]))
theorem sc_rank : FnScope ["word"] ["word"] (defScope s_rank_of) := ⟨rfl, rfl, rfl, by decide +kernel, rfl, by decide +kernel, by decide +kernel⟩
theorem ok_rank (T : Top K mg) : Ok P w K mg base 1 "rank_of" ["word"] spRank := by
  obtain ⟨fd, F⟩ := fn_rank_of T
  refine ⟨⟨fd, ?_, F.bindsN fun _ _ _ _ _ _ us hl => match us, hl with | [_], _ => rfl⟩, g_rank_of T, F.kp⟩
  refine F.ok sc_rank (fun vs H Q E h => ?_) (fun cdv A outer s H vs Q E hr h => ?_)
  · obtain ⟨z, rfl, _⟩ := h
    rfl
  · obtain ⟨z, rfl, hz, q⟩ := h
    have hs : sizeLine = 16777216 := sizeLine_eq
    refine ⟨_, PSs.nox (pss_one (ps_ret (pe_tup (pa_cons (pe_un un_neg (pe_callB call_len_str (by rfl) (f_len T) PySem.boot_len (pa_cons (pv 0) pa_nil))) (pa_cons (pv 0) pa_nil))))), ?_⟩
    exact ⟨_, rfl, z, rfl, hz, _, rfl, _, rfl, by show 2 ≤ sizeLine; omega, fun p hp => q p hp⟩
def spFirstW : Sp := fun vs H Q _ => ∃ (d : Addr) (kvs : List (Key × V)) (ws : List Str), vs = [.ref d] ∧ H d = some (.dK kvs) ∧ kvs.map (·.1) = ws.map Sum.inr ∧ ws ≠ [] ∧ (∀ x ∈ ws, x.length ≤ sizeLine) ∧ ∀ m ∈ ws, (∀ y ∈ ws, leR m y = true) → Q (.str m) H
theorem sc_firstW : FnScope ["table"] ["table"] (defScope s_first_word) := ⟨rfl, rfl, rfl, by decide +kernel, rfl, by decide +kernel, by decide +kernel⟩
theorem ok_firstW (T : Top K mg) : Ok P w K mg base 4 "first_word" ["table"] spFirstW := by
  obtain ⟨fd, F⟩ := fn_first_word T
  obtain ⟨fdR, FR⟩ := fn_rank_of T
  refine ⟨⟨fd, ?_, F.bindsN fun _ _ _ _ _ _ us hl => match us, hl with | [_], _ => rfl⟩, g_first_word T, F.kp⟩
  refine F.ok sc_firstW (fun vs H Q E h => ?_) (fun cdv A outer s H vs Q E hr h => ?_)
  · obtain ⟨d, kvs, ws, rfl, _⟩ := h
    rfl
  · obtain ⟨d, kvs, ws, rfl, hd, hk, hne, hw, q⟩ := h
    refine ⟨_, PSs.nox (pss_one (ps_ret (pe_callBK (cr_minRk rfl FR (f_len T) hr) (by rfl) (f_min T) (by decide +kernel) (pa_cons (pv 0) pa_nil) (pk_cons (pe_glob (v := .ref (He.ga K "rank_of")) rfl (g_rank_of T) rfl) pk_nil)))), ?_⟩
    exact ⟨_, rfl, d, kvs, ws, rfl, rfl, hd, hk, hne, hw, q⟩
def spStart : Sp := fun vs H Q _ => ∃ (z : Str) (D : Addr) (kvs : List (Key × V)) (ws : List Str), vs = [.str z, .ref D] ∧ z.length ≤ 1000 ∧ H D = some (.dK kvs) ∧ kvs.map (·.1) = ws.map Sum.inr ∧ Q (optV (startOf ws z)) H
theorem sc_start : FnScope ["word", "leads", "size"] ["word", "leads"] (defScope s_start_of) := ⟨rfl, rfl, rfl, by decide +kernel, rfl, by decide +kernel, by decide +kernel⟩
theorem ok_start (T : Top K mg) : Ok P w K mg base 1 "start_of" ["word", "leads"] spStart := by
  obtain ⟨fd, F⟩ := fn_start_of T
  refine ⟨⟨fd, ?_, F.bindsN fun _ _ _ _ _ _ us hl => match us, hl with | [_, _], _ => rfl⟩, g_start_of T, F.kp⟩
  refine F.ok sc_start (fun vs H Q E h => ?_) (fun cdv A outer s H vs Q E hr h => ?_)
  · obtain ⟨z, D, kvs, ws, rfl, _⟩ := h
    rfl
  · obtain ⟨z, D, kvs, ws, rfl, hz, hD, hk, q⟩ := h
    have nd := sc_start.nd
    have hu := hu_of hr
    have hs : sizeLine = 16777216 := sizeLine_eq
    refine ⟨_, PSs.nox (pss_cons (ps_for PassesOwn.never rfl (pi_range1 (by rfl) (f_range T) (pa_cons (pe_op op_add (pe_callB call_len_str (by rfl) (f_len T) PySem.boot_len (pa_cons (pv 0) pa_nil)) pe_int) pa_nil)) (pg_name (i := 2) nd rfl (Or.inl rfl))
        (pss_one (ps_if (pt_cmp (pc_din hu (pe_slice sl_str (pv 0) po_none (po_some (pv 2))) (pv 1)) rfl) (pss_one (ps_ret (pe_slice sl_str (pv 0) po_none (po_some (pv 2))))) pss_nil)))
      (pss_one (ps_ret pe_non))), ?_⟩
    refine ⟨_, rfl, z, rfl, by omega, _, _, rfl, rfl, ?_⟩
    refine ⟨(z.length : Int) + 1, rfl, by omega, by omega, ?_⟩
    have en : ((z.length : Int) + 1).toNat = z.length + 1 := by omega
    rw [en]
    refine for_it walk_range (fun i σ H' => (∃ v2, σ = [some (.str z), some (.ref D), v2]) ∧ H' = H ∧ ∀ k : Nat, k < i → cutS z none (some (k : Int)) ∉ ws) ⟨⟨none, rfl⟩, rfl, fun k h => absurd h (Nat.not_lt_zero k)⟩ (fun _ _ _ _ _ => trivial) ?_ ?_
    · rintro i x σ G G' hi ⟨⟨v2, rfl⟩, rfl, hno⟩ ⟨rfl, rfl⟩
      show gName 2 (V.int (0 + (i : Int))) _ _ _
      rw [Int.zero_add]
      refine ⟨_, rfl, _, rfl, _, rfl, z, rfl, by omega, _, rfl, D, _, rfl, .inl ⟨kvs, Sum.inr (cutS z none (some (i : Int))), .inl hD, rfl, rfl⟩, ?_⟩
      refine ⟨_, rfl, ?_⟩
      rw [val_some hk]
      by_cases hm : cutS z none (some (i : Int)) ∈ ws
      · rw [decide_eq_true hm]
        refine iteT ?_
        refine ⟨_, rfl, _, rfl, _, rfl, z, rfl, by omega, ?_⟩
        rw [startOf_hit hi hm hno] at q
        exact q
      · rw [decide_eq_false hm]
        refine iteF ?_
        refine ⟨⟨_, rfl⟩, rfl, fun k hk2 => ?_⟩
        by_cases e : k < i
        · exact hno k e
        · obtain rfl : k = i := by omega
          exact hm
    · rintro σ G ⟨⟨v2, rfl⟩, rfl, hno⟩
      rw [startOf_none hno] at q
      exact q
end
end Fp

set_option Elab.async false
set_option linter.all false
set_option maxRecDepth 100000
set_option maxHeartbeats 4000000
namespace Fp
open PySem PySem.Spec PyProof.Rows L2
/-- n times u, b behind each word, taken off t -/
def takeT (c n : Int) (b : Str) (u t : Tb) : Tb := u.foldl (fun t p => putT t (p.1 ++ b) ((num t (p.1 ++ b) - n * p.2) % c)) t
theorem takeT_take {c n : Int} {b : Str} {u : Tb} {i : Nat} {p : Str × Int} (e : u[i]? = some p) (t : Tb) : takeT c n b (u.take (i + 1)) t = putT (takeT c n b (u.take i) t) (p.1 ++ b) ((num (takeT c n b (u.take i) t) (p.1 ++ b) - n * p.2) % c) := by
  unfold takeT
  rw [List.take_add_one, e, List.foldl_append]
  rfl
theorem putT_len (l : Tb) (x : Str) (n : Int) : (putT l x n).length ≤ l.length + 1 := by
  unfold putT
  split
  · rw [List.length_map]
    omega
  · rw [List.length_append]
    exact Nat.le_refl _
theorem takeT_len (c n : Int) (b : Str) : ∀ (u t : Tb), (takeT c n b u t).length ≤ t.length + u.length
  | [], t => by show t.length ≤ _; exact Nat.le_add_right _ _
  | p :: u, t => by
    have h := takeT_len c n b u (putT t (p.1 ++ b) ((num t (p.1 ++ b) - n * p.2) % c))
    have h2 := putT_len t (p.1 ++ b) ((num t (p.1 ++ b) - n * p.2) % c)
    have e0 : takeT c n b (p :: u) t = takeT c n b u (putT t (p.1 ++ b) ((num t (p.1 ++ b) - n * p.2) % c)) := rfl
    rw [e0, List.length_cons]
    omega
abbrev At : Type := List (Addr × Tb)
section
variable {P : Program} {w : World} {K : PySem.W.Frag} {mg : Str → Option Value} {base : Heap}
structure TakePre (H : Hp) (L C : Addr) (n : Int) (b : Str) (c : Int) (ts us : At) : Prop where
  hc : 0 < c
  hc7 : c ≤ 7
  hb : b.length ≤ 1000
  hL : H L = some (.lst (ts.map fun p => V.ref p.1))
  hC : H C = some (.lst (us.map fun p => V.ref p.1))
  len : ts.length = us.length
  nd : (ts.map (·.1)).Nodup
  ht : ∀ p ∈ ts, H p.1 = some (.dK (kv p.2)) ∧ p.2.length ≤ 4000000
  hu : ∀ p ∈ us, H p.1 = some (.dK (kv p.2)) ∧ p.1 ∉ ts.map (·.1) ∧ (∀ q ∈ p.2, 1 ≤ q.2 ∧ q.2 < c ∧ q.1.length ≤ 1000) ∧ p.2.length ≤ 1000000
def spTake : Sp := fun vs H Q _ => ∃ (L C : Addr) (n : Int) (b : Str) (c : Int) (ts us : At), vs = [.ref L, .ref C, .int n, .str b, .int c] ∧ TakePre H L C n b c ts us ∧
  ∀ H', (∀ a o, H a = some o → a ∉ ts.map (·.1) → H' a = some o) → (∀ (i : Nat) (p q : Addr × Tb), ts[i]? = some p → us[i]? = some q → H' p.1 = some (.dK (kv (takeT c n b q.2 p.2)))) → Q .non H'
abbrev nTake : List Str := ["left", "column", "number", "back", "clock", "table", "pieces", "piece", "amount"]
theorem sc_take : FnScope nTake ["left", "column", "number", "back", "clock"] (defScope s_take_off) := ⟨rfl, rfl, rfl, by decide +kernel, rfl, by decide +kernel, by decide +kernel⟩
theorem ok_take (T : Top K mg) : Ok P w K mg base 1 "take_off" ["left", "column", "number", "back", "clock"] spTake := by
  obtain ⟨fd, F⟩ := fn_take_off T
  refine ⟨⟨fd, ?_, F.bindsN fun _ _ _ _ _ _ us hl => match us, hl with | [_, _, _, _, _], _ => rfl⟩, g_take_off T, F.kp⟩
  refine F.ok sc_take (fun vs H Q E h => ?_) (fun cdv A outer s H vs Q E hr h => ?_)
  · obtain ⟨L, C, n, b, c, ts, us, rfl, _⟩ := h
    rfl
  · obtain ⟨L, C, n, b, c, ts, us, rfl, pr, q⟩ := h
    obtain ⟨hc, hc7, hb, hL, hC, hlen, hnd, ht, hus⟩ := pr
    have nd := sc_take.nd
    have hu := hu_of hr
    have hs : sizeLine = 16777216 := sizeLine_eq
    refine ⟨_, PSs.nox (pss_one (ps_for PassesOwn.never rfl (pi_zip (by rfl) (f_zip T) (pa_cons (pv 0) (pa_cons (pv 1) pa_nil))) (pg_tup rfl (pgs_cons (pg_name (i := 5) nd rfl (Or.inl rfl)) (pgs_cons (pg_name (i := 6) nd rfl (Or.inl rfl)) pgs_nil)))
      (pss_one (ps_lock (ps_for PassesOwn.never rfl (pi_items (pv 6)) (pg_tup rfl (pgs_cons (pg_name (i := 7) nd rfl (Or.inl rfl)) (pgs_cons (pg_name (i := 8) nd rfl (Or.inl rfl)) pgs_nil)))
        (pss_one (ps_dput hu (pv 5) (pe_op op_add_str (pv 7) (pv 3)) (pe_op op_mod (pe_op op_sub (pe_dget2 hu (pv 5) (pe_op op_add_str (pv 7) (pv 3)) pe_int ⟨rfl, rfl, rfl, rfl⟩) (pe_op op_mul (pv 2) (pv 8))) (pv 4)) rfl))))))), ?_⟩
    have hLn : L ∉ ts.map (·.1) := fun z => by
      obtain ⟨p, hp, rfl⟩ := List.mem_map.mp z
      have := (ht p hp).1
      rw [hL] at this
      cases this
    have hCn : C ∉ ts.map (·.1) := fun z => by
      obtain ⟨p, hp, rfl⟩ := List.mem_map.mp z
      have := (ht p hp).1
      rw [hC] at this
      cases this
    refine ⟨_, rfl, _, rfl, L, C, _, _, rfl, SqL.of hL, SqL.of hC, ?_⟩
    refine for_it (walk_zip (xs := ts.map fun p => V.ref p.1) (ys := us.map fun p => V.ref p.1) (n := ts.length) (by rw [List.length_map, List.length_map]; omega))
      (fun i σ H' => (∃ v5 v6 v7 v8, σ = [some (.ref L), some (.ref C), some (.int n), some (.str b), some (.int c), v5, v6, v7, v8]) ∧ (∀ a o, H a = some o → a ∉ ts.map (·.1) → H' a = some o) ∧
        ∀ (j : Nat) (p q : Addr × Tb), ts[j]? = some p → us[j]? = some q → H' p.1 = some (.dK (kv (if j < i then takeT c n b q.2 p.2 else p.2))))
      ⟨⟨none, none, none, none, rfl⟩, fun a o e _ => e, fun j p q e1 e2 => by rw [if_neg (Nat.not_lt_zero j)]; exact (ht p (List.mem_of_getElem? e1)).1⟩ (fun i σ H' _ hP => ⟨SqL.of (hP.2.1 _ _ hL hLn), SqL.of (hP.2.1 _ _ hC hCn)⟩) ?_ ?_
    · rintro i x σ H1 H2 hi ⟨⟨v5, v6, v7, v8, rfl⟩, p1, p2⟩ ⟨t0, k, v', rfl, ht0, rfl, e1, e2⟩
      change (ts.map fun p => V.ref p.1)[i]? = some k at e1
      change (us.map fun p => V.ref p.1)[i]? = some v' at e2
      rw [List.getElem?_map] at e1 e2
      obtain ⟨p, ep, rfl⟩ := Option.map_eq_some_iff.mp e1
      obtain ⟨u, eu, rfl⟩ := Option.map_eq_some_iff.mp e2
      obtain ⟨hp1, hp2⟩ := ht p (List.mem_of_getElem? ep)
      obtain ⟨hu1, hu2, hu3, hu4⟩ := hus u (List.mem_of_getElem? eu)
      have pm : p.1 ∈ ts.map (·.1) := List.mem_map.mpr ⟨p, List.mem_of_getElem? ep, rfl⟩
      have npu : u.1 ≠ p.1 := fun z => hu2 (z ▸ pm)
      have s1 := same_upd (o := .tup [.ref p.1, .ref u.1]) ht0
      have d0 := s1 _ _ (p2 i p u ep eu)
      rw [if_neg (Nat.lt_irrefl i)] at d0
      refine ⟨t0, _, rfl, .inl (.inl upd_same), rfl, ?_⟩
      refine ⟨_, _, rfl, _, _, rfl, rfl, ?_⟩
      have p1' : ∀ a o, H a = some o → a ∉ ts.map (·.1) → (upd H1 t0 (.tup [.ref p.1, .ref u.1])) a = some o := fun a o e z => s1 _ _ (p1 a o e z)
      have p2' : ∀ (j : Nat) (p' q : Addr × Tb), ts[j]? = some p' → us[j]? = some q → (upd H1 t0 (.tup [.ref p.1, .ref u.1])) p'.1 = some (.dK (kv (if j < i then takeT c n b q.2 p'.2 else p'.2))) := fun j p' q a z => s1 _ _ (p2 j p' q a z)
      generalize upd H1 t0 (.tup [.ref p.1, .ref u.1]) = G at d0 p1' p2' ⊢
      have eG := p1' _ _ hu1 hu2
      refine ⟨u.1, .dK (kv u.2), eG, trivial, fun od => ?_⟩
      refine ⟨_, rfl, u.1, od, kv u.2, rfl, upd_same, ?_⟩
      refine for_it walk_items (fun k σ G' => (∃ v7 v8, σ = [some (.ref L), some (.ref C), some (.int n), some (.str b), some (.int c), some (.ref p.1), some (.ref u.1), v7, v8]) ∧ G' p.1 = some (.dK (kv (takeT c n b (u.2.take k) p.2))) ∧
          (∀ a o, G a = some o → a ≠ p.1 → a ≠ u.1 → G' a = some o) ∧ G' u.1 = some (.frz od (.dK (kv u.2))))
        ⟨⟨_, _, rfl⟩, by rw [upd_ne npu.symm]; exact d0, fun a o z _ n2 => by rw [upd_ne n2]; exact z, upd_same⟩ (fun k σ G' _ hP => hP.2.2.2) ?_ ?_
      · rintro k x σ H3 H4 hk ⟨⟨v7', v8', rfl⟩, r1, r2, r3⟩ ⟨t2, k', v', rfl, ht2, rfl, e3, e4⟩
        obtain ⟨q0, eq0, rfl, rfl⟩ := kv_item e3 e4
        obtain ⟨hq1, hq2, hq3⟩ := hu3 q0 (List.mem_of_getElem? eq0)
        have hkl : k < u.2.length := (List.getElem?_eq_some_iff.mp eq0).1
        have y1 : (upd H3 t2 (.tup [.str q0.1, .int q0.2])) p.1 = some (.dK (kv (takeT c n b (u.2.take k) p.2))) := same_upd ht2 _ _ r1
        have hwl : q0.1.length + b.length ≤ sizeLine := by omega
        refine ⟨t2, _, rfl, .inl (.inl upd_same), rfl, ?_⟩
        refine ⟨_, _, rfl, _, _, rfl, rfl, ?_⟩
        refine ⟨_, rfl, p.1, rfl, .inl ⟨_, .inl y1⟩, _, rfl, _, rfl, _, _, rfl, rfl, hwl, _, DGet.k (k := Sum.inr (q0.1 ++ b)) y1, ?_⟩
        rw [num_eq]
        refine ⟨_, rfl, _, rfl, _, _, rfl, rfl, .inr ⟨by omega, by omega⟩, _, _, rfl, rfl, ?_⟩
        refine ⟨_, rfl, _, _, rfl, rfl, hc, ?_⟩
        refine ⟨_, rfl, _, rfl, _, rfl, _, _, rfl, rfl, hwl, p.1, _, rfl, DPut.k (k := Sum.inr (q0.1 ++ b)) y1 ?_, ?_⟩
        · have b1 := takeT_len c n b (u.2.take k) p.2
          rw [List.length_take] at b1
          rw [kv_len]
          omega
        · refine ⟨⟨_, _, rfl⟩, ?_, ?_, ?_⟩
          · rw [upd_same, putK_kv, takeT_take eq0]
          · intro a o z na nb
            rw [upd_ne na]
            exact same_upd ht2 _ _ (r2 a o z na nb)
          · rw [upd_ne npu]
            exact same_upd ht2 _ _ r3
      · rintro σ H3 ⟨⟨v7', v8', rfl⟩, r1, r2, r3⟩
        rw [kv_len, List.take_length] at r1
        refine ⟨r3, ⟨_, _, _, _, rfl⟩, ?_, ?_⟩
        · intro a o z na
          by_cases nb : a = u.1
          · rw [nb, upd_same, ← hu1, ← nb, z]
          · rw [upd_ne nb]
            exact r2 a o (p1' a o z na) (fun e => na (e ▸ pm)) nb
        · intro j p' q' e5 e6
          have hpu : p'.1 ≠ u.1 := fun z => hu2 (z ▸ List.mem_map.mpr ⟨p', List.mem_of_getElem? e5, rfl⟩)
          rw [upd_ne hpu]
          by_cases hj : j = i
          · subst hj
            rw [ep] at e5
            rw [eu] at e6
            cases e5
            cases e6
            rw [if_pos (Nat.lt_succ_self j)]
            exact r1
          · have hpp : p'.1 ≠ p.1 := fun z => by
              have h1 : (ts.map (·.1))[j]? = some p.1 := by rw [List.getElem?_map, e5, ← z]; rfl
              have h2 : (ts.map (·.1))[i]? = some p.1 := by rw [List.getElem?_map, ep]; rfl
              obtain ⟨l1, g1⟩ := List.getElem?_eq_some_iff.mp h1
              obtain ⟨l2, g2⟩ := List.getElem?_eq_some_iff.mp h2
              exact hj ((List.getElem_inj hnd).mp (g1.trans g2.symm))
            have := r2 _ _ (p2' j p' q' e5 e6) hpp hpu
            rw [this]
            by_cases hji : j < i
            · rw [if_pos hji, if_pos (by omega)]
            · rw [if_neg hji, if_neg (by omega)]
    · rintro σ H' ⟨⟨v5, v6, v7, v8, rfl⟩, p1, p2⟩
      refine q H' p1 fun i p q' e1 e2 => ?_
      have := p2 i p q' e1 e2
      rw [if_pos (List.getElem?_eq_some_iff.mp e1).1] at this
      exact this
end
end Fp

set_option Elab.async false
set_option linter.all false
set_option maxRecDepth 100000
set_option maxHeartbeats 4000000
namespace Fp
open PySem PySem.Spec PyProof.Rows L2
/-! ### taking off, the numbers -/
theorem num_put_self {l : Tb} {x : Str} (n : Int) : num (putT l x n) x = n := by
  unfold putT
  cases h : has l x with
  | true =>
    rw [if_pos rfl]
    induction l with
    | nil => cases h
    | cons p r ih =>
      rw [List.map_cons, num_cons]
      by_cases e : p.1 = x
      · rw [if_pos e]
        show (if p.1 = x then n else num _ x) = n
        rw [if_pos e]
      · rw [if_neg e, if_neg e]
        refine ih ?_
        have h2 : (decide (p.1 = x) || has r x) = true := h
        rw [decide_eq_false e, Bool.false_or] at h2
        exact h2
  | false =>
    rw [if_neg Bool.false_ne_true]
    induction l with
    | nil => rw [List.nil_append, num_cons, if_pos rfl]
    | cons p r ih =>
      have h2 : (decide (p.1 = x) || has r x) = false := h
      obtain ⟨h3, h4⟩ := Bool.or_eq_false_iff.mp h2
      rw [List.cons_append, num_cons, if_neg (of_decide_eq_false h3), ih h4]
theorem num_takeT {c n : Int} {b : Str} : ∀ (u t : Tb) (x : Str), num (takeT c n b u t) x % c = (num t x - tot (bwd (b, n) u) x) % c
  | [], t, x => by
    show num t x % c = (num t x - tot [] x) % c
    rw [tot_nil, Int.sub_zero]
  | p :: u, t, x => by
    have e0 : takeT c n b (p :: u) t = takeT c n b u (putT t (p.1 ++ b) ((num t (p.1 ++ b) - n * p.2) % c)) := rfl
    have e1 : bwd (b, n) (p :: u) = (p.1 ++ b, p.2 * n) :: bwd (b, n) u := rfl
    rw [e0, num_takeT u, e1, tot_cons]
    by_cases e : p.1 ++ b = x
    · subst e
      rw [num_put_self, if_pos rfl, Int.sub_emod, Int.emod_emod_of_dvd _ (Int.dvd_refl c), ← Int.sub_emod, Int.mul_comm n p.2]
      congr 1
      omega
    · rw [num_put_ne _ e, if_neg e, Int.zero_add]
theorem takeT_nd {c n : Int} {b : Str} : ∀ (u t : Tb), Nd t → Nd (takeT c n b u t)
  | [], _, h => h
  | p :: u, t, h => takeT_nd u (putT t (p.1 ++ b) ((num t (p.1 ++ b) - n * p.2) % c)) (nd_put h _ _)
theorem takeT_key {c n : Int} {b : Str} : ∀ (u t : Tb) (x : Str), x ∈ (takeT c n b u t).map (·.1) ↔ x ∈ t.map (·.1) ∨ ∃ p ∈ u, p.1 ++ b = x
  | [], t, x => by
    show x ∈ t.map (·.1) ↔ _
    simp
  | p :: u, t, x => by
    have e0 : takeT c n b (p :: u) t = takeT c n b u (putT t (p.1 ++ b) ((num t (p.1 ++ b) - n * p.2) % c)) := rfl
    rw [e0, takeT_key u, putT_keys]
    cases h : has t (p.1 ++ b) with
    | true =>
      rw [if_pos rfl]
      have hm := has_iff.mp h
      constructor
      · rintro (z | ⟨q, hq, e⟩)
        · exact .inl z
        · exact .inr ⟨q, List.mem_cons_of_mem _ hq, e⟩
      · rintro (z | ⟨q, hq, e⟩)
        · exact .inl z
        · rcases List.mem_cons.mp hq with rfl | hq
          · exact .inl (e ▸ hm)
          · exact .inr ⟨q, hq, e⟩
    | false =>
      rw [if_neg Bool.false_ne_true, List.mem_append, List.mem_singleton]
      constructor
      · rintro ((z | z) | ⟨q, hq, e⟩)
        · exact .inl z
        · exact .inr ⟨p, List.mem_cons_self, z.symm⟩
        · exact .inr ⟨q, List.mem_cons_of_mem _ hq, e⟩
      · rintro (z | ⟨q, hq, e⟩)
        · exact .inl (.inl z)
        · rcases List.mem_cons.mp hq with rfl | hq
          · exact .inl (.inr e.symm)
          · exact .inr ⟨q, hq, e⟩
theorem put_rg {c : Int} {t : Tb} {x : Str} {n : Int} (h : ∀ p ∈ t, 0 ≤ p.2 ∧ p.2 < c) (hn : 0 ≤ n ∧ n < c) : ∀ p ∈ putT t x n, 0 ≤ p.2 ∧ p.2 < c := fun p hp => by
  unfold putT at hp
  split at hp
  · obtain ⟨q, hq, rfl⟩ := List.mem_map.mp hp
    split
    · exact hn
    · exact h q hq
  · rcases List.mem_append.mp hp with hp | hp
    · exact h p hp
    · have : p = (x, n) := by simpa using hp
      subst this
      exact hn
theorem takeT_rg {c n : Int} {b : Str} (hc : 0 < c) : ∀ (u t : Tb), (∀ p ∈ t, 0 ≤ p.2 ∧ p.2 < c) → ∀ p ∈ takeT c n b u t, 0 ≤ p.2 ∧ p.2 < c
  | [], _, h => h
  | p :: u, t, h => takeT_rg hc u _ (put_rg h ⟨Int.emod_nonneg _ (by omega), Int.emod_lt_of_pos _ hc⟩)
theorem num_rg {c : Int} {t : Tb} (hc : 0 < c) (h : ∀ p ∈ t, 0 ≤ p.2 ∧ p.2 < c) (x : Str) : 0 ≤ num t x ∧ num t x < c := by
  unfold num
  cases e : t.find? fun p => decide (p.1 = x) with
  | none => exact ⟨Int.le_refl _, hc⟩
  | some p => exact h p (List.mem_of_find?_eq_some e)
/-- as sums: u with n, b behind, less -/
theorem lk_takeT {c n : Int} {b : Str} {u t : Tb} (h : Nd t) : Lk c (takeT c n b u t) (t ++ scl (-1) (bwd (b, n) u)) := fun x => by
  rw [tot_num (takeT_nd u t h), num_takeT, tot_app, tot_scl, tot_num h]
  congr 1
  omega
/-! ### how many words there are -/
def stp (a : Nat) (w : Str) : Str := ⟨#[a] ++ w.cps⟩
def thr (w : Str) : List Str := [stp 120 w, stp 121 w, stp 122 w]
def allW : Nat → List Str
  | 0 => [""]
  | m + 1 => "" :: (allW m).flatMap thr
theorem flat3 (l : List Str) : (l.flatMap thr).length = 3 * l.length := by
  induction l with
  | nil => rfl
  | cons a r ih =>
    rw [List.flatMap_cons, List.length_append, ih, List.length_cons]
    show 3 + 3 * r.length = 3 * (r.length + 1)
    omega
theorem allW_len : ∀ m, (allW m).length + 1 ≤ 3 ^ (m + 1)
  | 0 => by decide
  | m + 1 => by
    have h := allW_len m
    have e : (allW (m + 1)).length = 3 * (allW m).length + 1 := by
      show ((("" : Str) :: (allW m).flatMap thr : List Str)).length = _
      rw [List.length_cons, flat3]
    have e2 : 3 ^ (m + 1 + 1) = 3 * 3 ^ (m + 1) := by rw [Nat.pow_succ, Nat.mul_comm]
    rw [e, e2]
    omega
theorem allW_mem : ∀ (m : Nat) (w : Str), xyz w → w.length ≤ m → w ∈ allW m
  | m, w, hx, hl => by
    obtain ⟨⟨l⟩⟩ := w
    cases l with
    | nil =>
      cases m with
      | zero => exact List.mem_singleton.mpr rfl
      | succ m => exact List.mem_cons_self
    | cons a r =>
      cases m with
      | zero =>
        have : (a :: r).length ≤ 0 := hl
        simp at this
      | succ m =>
        refine List.mem_cons_of_mem _ (List.mem_flatMap.mpr ⟨⟨⟨r⟩⟩, allW_mem m ⟨⟨r⟩⟩ (fun c hc => hx c (List.mem_cons_of_mem _ hc)) ?_, ?_⟩)
        · have : (a :: r).length ≤ m + 1 := hl
          show r.length ≤ m
          rw [List.length_cons] at this
          omega
        · have e : ∀ k, a = k → (⟨⟨a :: r⟩⟩ : Str) = stp k ⟨⟨r⟩⟩ := fun k hk => by
            subst hk
            unfold stp
            simp
          rcases hx a List.mem_cons_self with z | z | z
          · rw [e _ z]
            exact List.mem_cons_self
          · rw [e _ z]
            exact List.mem_cons_of_mem _ List.mem_cons_self
          · rw [e _ z]
            exact List.mem_cons_of_mem _ (List.mem_cons_of_mem _ List.mem_cons_self)
theorem words_few {l : List Str} {m : Nat} (h : l.Nodup) (hw : ∀ w ∈ l, xyz w ∧ w.length ≤ m) : l.length < 3 ^ (m + 1) := by
  have := List.Nodup.length_le_of_subset h (fun w hm => allW_mem m w (hw w hm).1 (hw w hm).2)
  have := allW_len m
  omega
/-! ### beginnings -/
theorem startOf_some {ws : List Str} {z s : Str} (h : startOf ws z = some s) : s ∈ ws ∧ ∃ k : Nat, k ≤ z.length ∧ s = cutS z none (some (k : Int)) := by
  unfold startOf at h
  obtain ⟨k, hk, e⟩ := List.exists_of_findSome?_eq_some h
  split at e
  · rename_i hm
    cases e
    exact ⟨hm, k, by have := List.mem_range.mp hk; omega, rfl⟩
  · cases e
end Fp

set_option Elab.async false
set_option linter.all false
set_option maxRecDepth 100000
set_option maxHeartbeats 4000000
namespace Fp
open PySem PySem.Spec PyProof.Rows L2
/-! ### the order of words -/
theorem leR_iff {a b : Str} : leR a b = true ↔ b.length < a.length ∨ (a.length = b.length ∧ ¬ b.cps.toList < a.cps.toList) := by
  have e0 : leR a b = !PySem.W.dataLt (rk b) (rk a) := rfl
  rw [e0]
  unfold rk
  rw [PySem.W.dataLt_pair rfl rfl]
  by_cases h : a.length = b.length
  · have hv : PyData.eqv (.int (-(b.length : Int))) (.int (-(a.length : Int))) = true := by
      simp only [PyData.eqv]
      simp [h]
    rw [hv, if_pos rfl, PySem.W.dataLt_str]
    by_cases e : b = a
    · subst e
      have hv2 : PyData.eqv (.str b) (.str b) = true := by simp [PyData.eqv]
      rw [hv2, if_pos rfl]
      exact ⟨fun _ => .inr ⟨rfl, List.lt_irrefl _⟩, fun _ => rfl⟩
    · have hv2 : PyData.eqv (.str b) (.str a) = false := by simp [PyData.eqv, e]
      rw [hv2, if_neg Bool.false_ne_true]
      constructor
      · intro z
        refine .inr ⟨h, fun y => ?_⟩
        rw [decide_eq_true y] at z
        cases z
      · rintro (z | ⟨_, z⟩)
        · omega
        · rw [decide_eq_false z]
          rfl
  · have hv : PyData.eqv (.int (-(b.length : Int))) (.int (-(a.length : Int))) = false := by
      simp only [PyData.eqv]
      have : ¬ (-(b.length : Int) = -(a.length : Int)) := by omega
      simpa using this
    rw [hv, if_neg Bool.false_ne_true, PySem.W.dataLt_int]
    constructor
    · intro z
      by_cases y : b.length < a.length
      · exact .inl y
      · have : -(b.length : Int) < -(a.length : Int) := by omega
        rw [decide_eq_true this] at z
        cases z
    · rintro (z | ⟨z, _⟩)
      · rw [decide_eq_false (by omega)]
        rfl
      · exact absurd z h
theorem lt_suffix : ∀ {s r z : List Nat}, s.length = r.length → (s ++ z < r ++ z ↔ s < r)
  | [], [], z, _ => ⟨fun h => absurd h (List.lt_irrefl _), fun h => absurd h (List.lt_irrefl _)⟩
  | [], _ :: _, _, h => by simp at h
  | _ :: _, [], _, h => by simp at h
  | a :: s, b :: r, z, h => by
    have h' : s.length = r.length := by simpa using h
    rw [List.cons_append, List.cons_append, List.cons_lt_cons_iff, List.cons_lt_cons_iff, lt_suffix h']
theorem lt_prefix : ∀ {z s r : List Nat}, (z ++ s < z ++ r ↔ s < r)
  | [], _, _ => Iff.rfl
  | a :: z, s, r => by
    rw [List.cons_append, List.cons_append, List.cons_lt_cons_iff, lt_prefix]
    constructor
    · rintro (h | ⟨_, h⟩)
      · exact absurd h (Nat.lt_irrefl _)
      · exact h
    · exact fun h => .inr ⟨rfl, h⟩
theorem app_len (u v : Str) : (u ++ v).length = u.length + v.length := by
  show (u.cps ++ v.cps).size = u.cps.size + v.cps.size
  exact Array.size_append
theorem app_list (u v : Str) : (u ++ v).cps.toList = u.cps.toList ++ v.cps.toList := by
  show (u.cps ++ v.cps).toList = _
  exact Array.toList_append
theorem len_list (u : Str) : u.cps.toList.length = u.length := by
  show u.cps.toList.length = u.cps.size
  exact Array.length_toList
theorem leR_app_r {s r z : Str} (h : leR s r = true) : leR (s ++ z) (r ++ z) = true := by
  rw [leR_iff] at h ⊢
  rw [app_len, app_len, app_list, app_list]
  rcases h with h | ⟨h, g⟩
  · exact .inl (by omega)
  · exact .inr ⟨by omega, fun y => g ((lt_suffix (by rw [len_list, len_list, h])).mp y)⟩
theorem leR_app_l {s r z : Str} (h : leR s r = true) : leR (z ++ s) (z ++ r) = true := by
  rw [leR_iff] at h ⊢
  rw [app_len, app_len, app_list, app_list]
  rcases h with h | ⟨h, g⟩
  · exact .inl (by omega)
  · exact .inr ⟨by omega, fun y => g (lt_prefix.mp y)⟩
theorem leR_len' {a b : Str} (h : leR a b = true) : b.length ≤ a.length := by
  rcases leR_iff.mp h with h | ⟨h, _⟩ <;> omega
theorem leR_trans {a b c : Str} (h : leR a b = true) (g : leR b c = true) : leR a c = true := leR_total.trans _ _ _ h g
/-! ### beginnings and ends of a word -/
theorem cut_front_list {z : Str} {k : Nat} (h : k ≤ z.length) : (cutS z none (some (k : Int))).cps.toList = z.cps.toList.take k := by
  unfold cutS
  rw [show HT.sIx z.length z.length (some (k : Int)) = min k z.length from HT.sIx_nat _ _ k, HT.sIx_none, List.drop_zero, Nat.sub_zero, Nat.min_eq_left h]
theorem cut_back_list {z : Str} {k : Nat} (h : k ≤ z.length) : (cutS z (some (k : Int)) none).cps.toList = z.cps.toList.drop k := by
  unfold cutS
  rw [show HT.sIx z.length 0 (some (k : Int)) = min k z.length from HT.sIx_nat _ _ k, HT.sIx_none, Nat.min_eq_left h]
  show ((z.cps.toList.drop k).take (z.length - k)) = _
  refine List.take_of_length_le ?_
  rw [List.length_drop, len_list]
  exact Nat.le_refl _
theorem cut_len {z : Str} {k : Nat} (h : k ≤ z.length) : (cutS z none (some (k : Int))).length = k := by
  rw [← len_list, cut_front_list h, List.length_take, len_list, Nat.min_eq_left h]
theorem cut_both {z : Str} {k : Nat} (h : k ≤ z.length) : cutS z none (some (k : Int)) ++ cutS z (some (k : Int)) none = z := by
  refine PySem.W.str_of_cps ?_
  rw [app_list, cut_front_list h, cut_back_list h, List.take_append_drop]
end Fp

set_option Elab.async false
set_option linter.all false
set_option maxRecDepth 100000
set_option maxHeartbeats 4000000
namespace Fp
open PySem PySem.Spec PyProof.Rows L2
/-- a lead's table: s leads with the number 1 -/
structure Led (c : Int) (s : Str) (u : Tb) : Prop where
  nd : Nd u
  one : num u s = 1
  behind : ∀ r ∈ u, leR s r.1 = true
theorem take_lead {c n : Int} {s b : Str} {u t : Tb} (hc : 0 < c) (hu : Led c s u) (ht : ∀ p ∈ t, 0 ≤ p.2 ∧ p.2 < c) (hn : n = num t (s ++ b)) : num (takeT c n b u t) (s ++ b) = 0 := by
  have h1 := num_takeT (c := c) (n := n) (b := b) u t (s ++ b)
  have h2 : tot (bwd (b, n) u) (s ++ b) = 1 * n := by
    rcases tot_bwd (b, n) u (s ++ b) with ⟨v, e, h⟩ | ⟨h, _⟩
    · have : v = s := str_cancel_r (u := b) e
      subst this
      rw [h, tot_num hu.nd, hu.one]
    · exact absurd rfl (h s)
  rw [h2, Int.one_mul, ← hn, Int.sub_self, Int.zero_emod] at h1
  obtain ⟨r1, r2⟩ := num_rg hc (takeT_rg (n := n) (b := b) hc u t ht) (s ++ b)
  rw [Int.emod_eq_of_lt r1 r2] at h1
  exact h1
theorem take_ahead {c n : Int} {s b x : Str} {u t : Tb} (hc : 0 < c) (hu : Led c s u) (ht : ∀ p ∈ t, 0 ≤ p.2 ∧ p.2 < c) (hx : leR x (s ++ b) = true) (hne : x ≠ s ++ b) : num (takeT c n b u t) x = num t x := by
  have h1 := num_takeT (c := c) (n := n) (b := b) u t x
  have h2 : tot (bwd (b, n) u) x = 0 := by
    rcases tot_bwd (b, n) u x with ⟨v, e, h⟩ | ⟨_, h⟩
    · rw [h]
      by_cases hv : v ∈ u.map (·.1)
      · exfalso
        obtain ⟨r, hr, rfl⟩ := List.mem_map.mp hv
        have h3 := leR_app_r (z := b) (hu.behind r hr)
        have e' : r.1 ++ b = x := e
        rw [e'] at h3
        exact hne (leR_anti hx h3)
      · rw [tot_not hv, Int.zero_mul]
    · exact h
  rw [h2, Int.sub_zero] at h1
  obtain ⟨r1, r2⟩ := num_rg hc (takeT_rg (n := n) (b := b) hc u t ht) x
  obtain ⟨q1, q2⟩ := num_rg hc ht x
  rw [Int.emod_eq_of_lt r1 r2, Int.emod_eq_of_lt q1 q2] at h1
  exact h1
/-- words of a lot of words -/
def Wd (U : List Str) (t : Tb) : Prop := ∀ x ∈ t.map (·.1), x ∈ U
theorem take_wd {c n : Int} {U : List Str} {b : Str} {u t : Tb} (ht : Wd U t) (hu : ∀ r ∈ u, r.1 ++ b ∈ U) : Wd U (takeT c n b u t) := fun x hx => by
  rcases (takeT_key u t x).mp hx with hx | ⟨r, hr, rfl⟩
  · exact ht x hx
  · exact hu r hr
theorem tb_few {U : List Str} {t : Tb} (h : Nd t) (hw : Wd U t) : t.length < U.length + 1 := by
  have h' : (t.map (·.1)).Nodup := h
  have := List.Nodup.length_le_of_subset h' (fun x hx => hw x hx)
  rw [List.length_map] at this
  omega
end Fp

set_option Elab.async false
set_option linter.all false
set_option maxRecDepth 100000
set_option maxHeartbeats 4000000
namespace Fp
open PySem PySem.Spec PyProof.Rows L2
abbrev Lead : Type := Str × Addr × At
/-- a lot of words that is kept by taking off -/
structure Cl (lds : List Lead) (M : Nat) (U : List Str) : Prop where
  len : U.length ≤ 1000000
  m : M ≤ 1000
  wl : ∀ x ∈ U, xyz x ∧ x.length ≤ M
  cl : ∀ q ∈ lds, ∀ p ∈ q.2.2, ∀ r ∈ p.2, ∀ b, q.1 ++ b ∈ U → r.1 ++ b ∈ U
structure RA (H : Hp) (L D : Addr) (i : Nat) (c : Int) (M : Nat) (U : List Str) (ts : At) (lds : List Lead) : Prop where
  hc : 0 < c
  hc7 : c ≤ 7
  cl : Cl lds M U
  hL : H L = some (.lst (ts.map fun p => V.ref p.1))
  hD : H D = some (.dK (lds.map fun q => ((Sum.inr q.1 : Key), V.ref q.2.1)))
  hDn : D ∉ ts.map (·.1)
  hi : i < ts.length
  nd : (ts.map (·.1)).Nodup
  ht : ∀ p ∈ ts, H p.1 = some (.dK (kv p.2))
  tg : ∀ p ∈ ts, Nd p.2 ∧ (∀ q ∈ p.2, 0 ≤ q.2 ∧ q.2 < c) ∧ Wd U p.2
  few : ∀ p, ts[i]? = some p → p.2.length ≤ 2500
  col : ∀ q ∈ lds, H q.2.1 = some (.lst (q.2.2.map fun p => V.ref p.1)) ∧ q.2.2.length = ts.length ∧ q.1.length ≤ 1000
  pc : ∀ q ∈ lds, ∀ p ∈ q.2.2, H p.1 = some (.dK (kv p.2)) ∧ p.1 ∉ ts.map (·.1) ∧ (∀ r ∈ p.2, 1 ≤ r.2 ∧ r.2 < c) ∧ p.2.length ≤ 1000000 ∧ ∀ r ∈ p.2, xyz r.1 ∧ r.1.length ≤ q.1.length
  led : ∀ q ∈ lds, ∀ p, q.2.2[i]? = some p → Led c q.1 p.2
/-- what has been taken off: a lead, what stands behind it, how many times -/
structure Tk where
  q : Lead
  b : Str
  n : Int
def opT (c : Int) (j : Nat) (t : Tb) (o : Tk) : Tb := match o.q.2.2[j]? with
  | some p => takeT c o.n o.b p.2 t
  | none => t
def runT (c : Int) (j : Nat) (ops : List Tk) (t : Tb) : Tb := ops.foldl (opT c j) t
theorem runT_snoc (c : Int) (j : Nat) (ops : List Tk) (o : Tk) (t : Tb) : runT c j (ops ++ [o]) t = opT c j (runT c j ops t) o := by
  unfold runT
  rw [List.foldl_append]
  rfl
theorem lead_get : ∀ {lds : List Lead} {s : Str}, s ∈ lds.map (·.1) → ∃ q ∈ lds, q.1 = s ∧ valV (lds.map fun q => ((Sum.inr q.1 : Key), V.ref q.2.1)) (Sum.inr s) = some (.ref q.2.1)
  | [], s, h => by cases h
  | q :: r, s, h => by
    by_cases e : q.1 = s
    · refine ⟨q, List.mem_cons_self, e, ?_⟩
      unfold valV
      rw [List.map_cons, List.find?_cons_of_pos (by simp [e])]
      rfl
    · rcases List.mem_cons.mp h with h | h
      · exact absurd h.symm e
      · obtain ⟨q', h1, h2, h3⟩ := lead_get (lds := r) h
        refine ⟨q', List.mem_cons_of_mem _ h1, h2, ?_⟩
        unfold valV at h3 ⊢
        rw [List.map_cons, List.find?_cons_of_neg (by simp [e])]
        exact h3
theorem xyz_tail {a b : Str} (h : xyz (a ++ b)) : xyz b := fun c hc => h c (by rw [app_list]; exact List.mem_append_right _ hc)
theorem has_iff' {l : Tb} {x : Str} : has l x = false ↔ x ∉ l.map (·.1) := by
  rw [← has_iff]
  cases has l x <;> simp
/-- the words that come new -/
def newW (b : Str) (u t : Tb) : List Str := (u.map fun r => r.1 ++ b).filter fun x => !has t x
theorem newW_mem {b : Str} {u t : Tb} {x : Str} : x ∈ newW b u t ↔ (∃ r ∈ u, r.1 ++ b = x) ∧ x ∉ t.map (·.1) := by
  unfold newW
  rw [List.mem_filter, List.mem_map]
  refine and_congr Iff.rfl ?_
  rw [← has_iff']
  cases has t x <;> simp
theorem newW_nd {b : Str} {u t : Tb} (h : Nd u) : (newW b u t).Nodup := by
  refine List.Nodup.sublist List.filter_sublist ?_
  have e : (u.map fun r => r.1 ++ b) = (u.map (·.1)).map fun x => x ++ b := by rw [List.map_map]; rfl
  rw [e]
  have h' : (u.map (·.1)).Nodup := h
  exact List.Pairwise.map _ (fun a b' hne z => hne (str_cancel_r z)) h'
theorem newW_len {c n : Int} {b : Str} {u t : Tb} (hu : Nd u) (ht : Nd t) : t.length + (newW b u t).length ≤ (takeT c n b u t).length := by
  have h1 : (t.map (·.1) ++ newW b u t).Nodup := by
    refine List.nodup_append.mpr ⟨ht, newW_nd hu, fun a ha b' hb e => ?_⟩
    subst e
    exact (newW_mem.mp hb).2 ha
  have h2 := List.Nodup.length_le_of_subset (l₂ := (takeT c n b u t).map (·.1)) h1 (fun x hx => by
    rw [takeT_key]
    rcases List.mem_append.mp hx with hx | hx
    · exact .inl hx
    · exact .inr (newW_mem.mp hx).1)
  rw [List.length_append, List.length_map, List.length_map] at h2
  exact h2
/-- the tables as they stand -/
def cur (c : Int) (ops : List Tk) (ts : At) : At := ts.mapIdx fun j p => (p.1, runT c j ops p.2)
theorem cur_at {c : Int} {ops : List Tk} {ts : At} {j : Nat} : (cur c ops ts)[j]? = (ts[j]?).map fun p => (p.1, runT c j ops p.2) := List.getElem?_mapIdx
theorem cur_map {α : Type} {c : Int} {ops : List Tk} {ts : At} (f : Addr → α) : (cur c ops ts).map (fun p => f p.1) = ts.map fun p => f p.1 := by
  refine List.ext_getElem? fun j => ?_
  rw [List.getElem?_map, List.getElem?_map, cur_at, Option.map_map]
  rfl
theorem cur_mem {c : Int} {ops : List Tk} {ts : At} {p : Addr × Tb} (h : p ∈ cur c ops ts) : ∃ (j : Nat) (p' : Addr × Tb), ts[j]? = some p' ∧ p = (p'.1, runT c j ops p'.2) := by
  obtain ⟨j, e⟩ := List.getElem?_of_mem h
  rw [cur_at] at e
  obtain ⟨p', e1, e2⟩ := Option.map_eq_some_iff.mp e
  exact ⟨j, p', e1, e2.symm⟩
/-- what stands ahead of each turn of the while -/
structure JA (H : Hp) (i : Nat) (c : Int) (U : List Str) (ts : At) (lds : List Lead) (t : Tb) (Qa : Addr) (ops : List Tk) (ps : PQ) (H' : Hp) : Prop where
  tk : ∀ o ∈ ops, o.q ∈ lds
  fr : ∀ a o, H a = some o → a ∉ ts.map (·.1) → H' a = some o
  tb : ∀ (j : Nat) p, ts[j]? = some p → H' p.1 = some (.dK (kv (runT c j ops p.2))) ∧ Nd (runT c j ops p.2) ∧ (∀ q ∈ runT c j ops p.2, 0 ≤ q.2 ∧ q.2 < c) ∧ Wd U (runT c j ops p.2)
  q1 : H' Qa = some (.lst (ps.map fun p => V.ref p.1))
  q2 : QAt H' ps
  q3 : HpL (ps.map (·.2))
  q4 : (ps.map (·.2)).Nodup
  q5 : ∀ p ∈ ps, p.2 ∈ (runT c i ops t).map (·.1) ∧ (startOf (lds.map (·.1)) p.2).isSome = true
  q6 : ∀ x ∈ (runT c i ops t).map (·.1), (startOf (lds.map (·.1)) x).isSome = true → x ∈ ps.map (·.2) ∨ (num (runT c i ops t) x = 0 ∧ ∀ p ∈ ps, leR x p.2 = true)
section
variable {P : Program} {w : World} {K : PySem.W.Frag} {mg : Str → Option Value} {base : Heap}
def spRA : Sp := fun vs H Q _ => ∃ (L D : Addr) (i : Nat) (c : Int) (M : Nat) (U : List Str) (ts : At) (lds : List Lead), vs = [.ref L, .int i, .ref D, .int c] ∧ RA H L D i c M U ts lds ∧
  ∀ (H' : Hp) (ops : List Tk), (∀ o ∈ ops, o.q ∈ lds) → (∀ a o, H a = some o → a ∉ ts.map (·.1) → H' a = some o) →
    (∀ (j : Nat) p, ts[j]? = some p → H' p.1 = some (.dK (kv (runT c j ops p.2))) ∧ Nd (runT c j ops p.2) ∧ (∀ q ∈ runT c j ops p.2, 0 ≤ q.2 ∧ q.2 < c) ∧ Wd U (runT c j ops p.2)) →
    (∀ p, ts[i]? = some p → ∀ x ∈ (runT c i ops p.2).map (·.1), (startOf (lds.map (·.1)) x).isSome = true → num (runT c i ops p.2) x = 0) → Q .non H'
abbrev nRA : List Str := ["left", "place", "leads", "clock", "table", "queue", "_", "word", "start", "back", "fresh", "found", "piece"]
theorem sc_RA : FnScope nRA ["left", "place", "leads", "clock"] (defScope s_reduce_at) := ⟨rfl, rfl, rfl, by decide +kernel, rfl, by decide +kernel, by decide +kernel⟩
theorem ok_RA (T : Top K mg) : Ok P w K mg base 4 "reduce_at" ["left", "place", "leads", "clock"] spRA := by
  obtain ⟨fd, F⟩ := fn_reduce_at T
  refine ⟨⟨fd, ?_, F.bindsN fun _ _ _ _ _ _ us hl => match us, hl with | [_, _, _, _], _ => rfl⟩, g_reduce_at T, F.kp⟩
  refine F.ok sc_RA (fun vs H Q E h => ?_) (fun cdv A outer s H vs Q E hr h => ?_)
  · obtain ⟨L, D, i, c, M, U, ts, lds, rfl, _⟩ := h
    rfl
  · obtain ⟨L, D, i, c, M, U, ts, lds, rfl, ra, q⟩ := h
    have nd := sc_RA.nd
    have hu := hu_of hr
    have hr1 : Room 1 _ := hr.mono (by decide)
    have hs : sizeLine = 16777216 := sizeLine_eq
    refine ⟨_, PSs.nox (pss_cons (ps_set (i := 4) nd rfl (Or.inr rfl) (pe_ix ix_list (pv 0) (pv 1) (fun _ _ => rfl)))
      (pss_cons (ps_lock (ps_setLc (i := 5) (te := tCall spRank [] E0 (tCons (tVar 7) tNil)) (tt := tB (tNotN (tCall spStart [] E0 (tCons (tVar 7) (tCons (tVar 2) tNil))))) (own := [("word", 7)]) (g := gName 7) (by rfl) nd rfl rfl (sw_true rfl rfl rfl (by decide +kernel)) (pi_keys (pv 4)) (blkOk_by (N := nRA) (sc := defScope s_reduce_at) (by decide +kernel))
        (fun _ _ _ _ _ => pg_name (i := 7) nd rfl (Or.inl rfl)) (fun _ _ _ _ _ => by exact pts_one (pt_cmp (pc_notN (pc (ok_start T) hr1 (pa_cons (pv 7) (pa_cons (pv 2) pa_nil)))) rfl)) (fun _ _ _ _ _ => by exact (pc (ok_rank T) hr1 (pa_cons (pv 7) pa_nil)))))
      (pss_cons (ps_expr (pe_callBfun (cr_ify hr) (by rfl) (hq_heapify T) (pa_cons (pv 5) pa_nil)))
      (pss_one (ps_while PassesOwn.never (pt_truth (pv 5) (fun _ => rfl))
        (pss_cons (ps_asg (pe_callBfun (cr_pop hr) (by rfl) (hq_heappop T) (pa_cons (pv 5) pa_nil)) (pg_tup rfl (pgs_cons (pg_name (i := 6) nd rfl (Or.inl rfl)) (pgs_cons (pg_name (i := 7) nd rfl (Or.inl rfl)) pgs_nil))))
        (pss_one (ps_if (pt_truth (pe_dget hu (pv 4) (pv 7) (fun _ _ => rfl)) (fun _ => rfl))
          (pss_cons (ps_set (i := 8) nd rfl (Or.inl rfl) (pc (ok_start T) hr1 (pa_cons (pv 7) (pa_cons (pv 2) pa_nil))))
          (pss_cons (ps_set (i := 9) nd rfl (Or.inr rfl) (pe_slice sl_str (pv 7) (po_some (pe_callB call_len_str (by rfl) (f_len T) PySem.boot_len (pa_cons (pv 8) pa_nil))) po_none))
          (pss_cons (ps_lock (ps_setLc (i := 10) (te := tOp (fun x y H Q => ∃ i j, x = .str i ∧ y = .str j ∧ i.length + j.length ≤ sizeLine ∧ Q (.str (i ++ j)) H) (tVar 12) (tVar 9)) (tt := tB (tDNotIn (tOp (fun x y H Q => ∃ i j, x = .str i ∧ y = .str j ∧ i.length + j.length ≤ sizeLine ∧ Q (.str (i ++ j)) H) (tVar 12) (tVar 9)) (tVar 4))) (own := [("piece", 12)]) (g := gName 12) (by rfl) nd rfl rfl (sw_true rfl rfl rfl (by decide +kernel)) (pi_keys (pe_ix ix_list (pe_dget hu (pv 2) (pv 8) (fun _ _ => rfl)) (pv 1) (fun _ _ => rfl))) (blkOk_by (N := nRA) (sc := defScope s_reduce_at) (by decide +kernel))
            (fun _ _ _ _ _ => pg_name (i := 12) nd rfl (Or.inl rfl)) (fun _ _ _ _ _ => by exact pts_one (pt_cmp (pc_dnotin hu (pe_op op_add_str (pv 12) (pv 9)) (pv 4)) rfl)) (fun _ _ _ _ _ => by exact (pe_op op_add_str (pv 12) (pv 9)))))
          (pss_cons (ps_expr (pc (ok_take T) hr1 (pa_cons (pv 0) (pa_cons (pe_dget hu (pv 2) (pv 8) (fun _ _ => rfl)) (pa_cons (pe_dget hu (pv 4) (pv 7) (fun _ _ => rfl)) (pa_cons (pv 9) (pa_cons (pv 3) pa_nil)))))))
          (pss_one (ps_for PassesOwn.never rfl (pi_list (pv 10)) (pg_name (i := 11) nd rfl (Or.inl rfl))
            (pss_one (ps_if (pt_cmp (pc_notN (pc (ok_start T) hr1 (pa_cons (pv 11) (pa_cons (pv 2) pa_nil)))) rfl) (pss_one (ps_expr (pe_callBfun (cr_push hr) (by rfl) (hq_heappush T) (pa_cons (pv 5) (pa_cons (pc (ok_rank T) hr1 (pa_cons (pv 11) pa_nil)) pa_nil))))) pss_nil)))))))) pss_nil)))))))), ?_⟩
    obtain ⟨⟨d, t⟩, ep⟩ : ∃ p, ts[i]? = some p := ⟨ts[i]'ra.hi, List.getElem?_eq_getElem ra.hi⟩
    have hp : (d, t) ∈ ts := List.mem_of_getElem? ep
    have hd : H d = some (.dK (kv t)) := ra.ht _ hp
    obtain ⟨tnd, trg, twd⟩ := ra.tg _ hp
    have tlen : t.length ≤ 2500 := ra.few _ ep
    have hkeys : (lds.map fun q => ((Sum.inr q.1 : Key), V.ref q.2.1)).map (·.1) = (lds.map (·.1)).map Sum.inr := by
      rw [List.map_map, List.map_map]
      rfl
    refine ⟨_, rfl, _, rfl, L, _, i, .ref d, rfl, rfl, SqL.of ra.hL, atI_nat (by rw [List.getElem?_map, ep]; rfl), ?_⟩
    refine ⟨d, .dK (kv t), hd, trivial, fun od => ?_⟩
    refine ⟨_, rfl, d, od, rfl, .inl ⟨kv t, upd_same, fun Qa hQ => ?_⟩⟩
    have nQd : Qa ≠ d := fun e => by
      rw [e, upd_same] at hQ
      cases hQ
    have hQ0 : H Qa = none := by
      rw [upd_ne nQd] at hQ
      exact hQ
    have nDd : D ≠ d := fun z => ra.hDn (z ▸ List.mem_map.mpr ⟨(d, t), hp, rfl⟩)
    refine lc_it walk_keys (fun k H' => (∃ ps : PQ, H' Qa = some (.lst (ps.map fun p => V.ref p.1)) ∧ ps.map (·.2) = ((t.take k).map (·.1)).filter (fun x => (startOf (lds.map (·.1)) x).isSome) ∧ QAt H' ps) ∧ But d H H' ∧ H' d = some (.frz od (.dK (kv t))))
      ⟨⟨[], upd_same, rfl, fun p hp => (by cases hp)⟩, ?_, ?_⟩ (fun i H' _ hP => hP.2.2) ?_ ?_
    · intro b o e n
      rw [upd_ne (ne_of_none e hQ0), upd_ne n]
      exact e
    · rw [upd_ne nQd.symm]
      exact upd_same
    · rintro k x H1 H2 hi ⟨⟨ps, p1, p2, p3⟩, p5, p6⟩ ⟨rfl, kk, v, e, rfl⟩
      obtain ⟨p, ep0, rfl, rfl⟩ := kv_at e
      rw [kv_len] at hi
      have hx := twd p.1 (List.mem_map.mpr ⟨p, List.mem_of_getElem? ep0, rfl⟩)
      have hD1 := p5 _ _ ra.hD nDd
      refine ⟨rfl, ?_⟩
      refine ⟨_, rfl, _, rfl, p.1, D, _, _, rfl, by have := (ra.cl.wl _ hx).2; have := ra.cl.m; omega, hD1, hkeys, ?_⟩
      have etake : ((t.take (k + 1)).map (·.1)).filter (fun x => (startOf (lds.map (·.1)) x).isSome) = ((t.take k).map (·.1)).filter (fun x => (startOf (lds.map (·.1)) x).isSome) ++ [p.1].filter (fun x => (startOf (lds.map (·.1)) x).isSome) := by
        rw [List.take_add_one, ep0, List.map_append, List.filter_append]
        rfl
      cases es : startOf (lds.map (·.1)) p.1 with
      | none =>
        refine ⟨_, rfl, iteF ⟨⟨ps, p1, ?_, p3⟩, p5, p6⟩⟩
        rw [p2, etake]
        simp [es]
      | some sx =>
        refine ⟨_, rfl, iteT ?_⟩
        refine ⟨_, rfl, p.1, rfl, by have := (ra.cl.wl _ hx).2; have := ra.cl.m; omega, fun tp htp => ?_⟩
        have ntQ : Qa ≠ tp := ne_of_none p1 htp
        have ntd : d ≠ tp := ne_of_none p6 htp
        have psl : ps.length ≤ k := by
          have h1 := congrArg List.length p2
          rw [List.length_map] at h1
          have h2 := List.length_filter_le (fun x => (startOf (lds.map (·.1)) x).isSome) ((t.take k).map (·.1))
          rw [List.length_map, List.length_take] at h2
          omega
        refine ⟨_, by rw [upd_ne ntQ]; exact p1, by rw [List.length_map]; omega, ⟨ps ++ [(tp, p.1)], ?_, ?_, ?_⟩, ?_, ?_⟩
        · rw [upd_same, List.map_append]
          rfl
        · rw [List.map_append, p2, etake]
          simp [es]
        · intro r hr
          rcases List.mem_append.mp hr with hr | hr
          · have := p3 r hr
            rw [upd_ne (ne_of this p1 (by intro z; cases z)), upd_ne (ne_of_none this htp)]
            exact this
          · have : r = (tp, p.1) := by simpa using hr
            subst this
            rw [upd_ne ntQ.symm]
            exact upd_same
        · intro b o z n
          rw [upd_ne (ne_of_none z hQ0), upd_ne (ne_of_none (p5 b o z n) htp)]
          exact p5 b o z n
        · rw [upd_ne nQd.symm, upd_ne ntd]
          exact p6
    · rintro H' ⟨⟨ps, p1, p2, p3⟩, p5, p6⟩
      rw [kv_len, List.take_length] at p2
      refine ⟨p6, ?_⟩
      have qa1 : (upd H' d (.dK (kv t))) Qa = some (.lst (ps.map fun p => V.ref p.1)) := by
        rw [upd_ne nQd]
        exact p1
      have base' : Same H (upd H' d (.dK (kv t))) := fun b o e => by
        by_cases n : b = d
        · rw [n, upd_same, ← hd, ← n, e]
        · rw [upd_ne n]
          exact p5 b o e n
      have qs1 : QAt (upd H' d (.dK (kv t))) ps := fun r hr => by
        have := p3 r hr
        rw [upd_ne (ne_of this p6 (by intro z; cases z))]
        exact this
      generalize upd H' d (.dK (kv t)) = H1 at qa1 base' qs1 ⊢
      have psl : ps.length ≤ 2500 := by
        have h1 := congrArg List.length p2
        rw [List.length_map] at h1
        have h2 := List.length_filter_le (fun x => (startOf (lds.map (·.1)) x).isSome) (t.map (·.1))
        rw [List.length_map] at h2
        omega
      refine ⟨_, rfl, Qa, ps, rfl, qa1, qs1, psl, fun qs hperm hheap => ?_⟩
      have nQt : Qa ∉ ts.map (·.1) := fun z => by
        obtain ⟨p, hp', e⟩ := List.mem_map.mp z
        have := ra.ht p hp'
        rw [e, hQ0] at this
        cases this
      have hin : ∀ x, x ∈ qs.map (·.2) ↔ x ∈ t.map (·.1) ∧ (startOf (lds.map (·.1)) x).isSome = true := fun x => by
        rw [(hperm.map (·.2)).mem_iff, p2, List.mem_filter]
      have J0 : JA H i c U ts lds t Qa [] qs (upd H1 Qa (.lst (qs.map fun p => V.ref p.1))) := {
        tk := fun o ho => by cases ho
        fr := fun a o e na => by
          rw [upd_ne (ne_of_none e hQ0)]
          exact base' _ _ e
        tb := fun j p e => by
          have hpm := List.mem_of_getElem? e
          refine ⟨?_, ra.tg p hpm⟩
          rw [upd_ne (ne_of_none (ra.ht p hpm) hQ0)]
          exact base' _ _ (ra.ht p hpm)
        q1 := upd_same
        q2 := fun r hr => by
          have := qs1 r (hperm.mem_iff.mp hr)
          rw [upd_ne (ne_of this qa1 (by intro z; cases z))]
          exact this
        q3 := hheap
        q4 := by
          rw [(hperm.map (·.2)).nodup_iff, p2]
          exact List.Nodup.sublist List.filter_sublist tnd
        q5 := fun r hr => (hin r.2).mp (List.mem_map.mpr ⟨r, hr, rfl⟩)
        q6 := fun x hx hst => .inl ((hin x).mpr ⟨hx, hst⟩) }
      generalize upd H1 Qa (.lst (qs.map fun p => V.ref p.1)) = H2 at J0 ⊢
      clear hin p1 p2 p3 p5 p6 qs1 qa1 base' psl hperm hheap
      refine ⟨fun k σ H' => ∃ (ops : List Tk) (ps : PQ) (v6 v7 v8 v9 v10 v11 v12 : Option V), σ = [some (.ref L), some (.int i), some (.ref D), some (.int c), some (.ref d), some (.ref Qa), v6, v7, v8, v9, v10, v11, v12] ∧ JA H i c U ts lds t Qa ops ps H' ∧ k = (U.length + 1) + ps.length - (runT c i ops t).length,
        ⟨_, [], qs, none, none, none, none, none, none, none, rfl, J0, rfl⟩, ?_⟩
      clear J0
      rintro k σ H3 ⟨ops, ps', v6, v7, v8, v9, v10, v11, v12, rfl, jj, rfl⟩
      refine ⟨_, rfl, _, .inl ⟨_, SqL.of jj.q1, rfl⟩, ?_⟩
      cases ps' with
      | nil =>
        refine iteF ?_
        refine q H3 ops jj.tk jj.fr jj.tb fun p e x hx hst => ?_
        rw [ep] at e
        cases e
        rcases jj.q6 x hx hst with z | ⟨z, _⟩
        · cases z
        · exact z
      | cons p0 pr =>
        refine iteT ?_
        obtain ⟨tt1, tt2, tt3, tt4⟩ := jj.tb i (d, t) ep
        have tfew : (runT c i ops t).length < U.length + 1 := tb_few tt2 tt4
        refine ⟨fun σ' H' => ∃ (ops' : List Tk) (ps' : PQ) (v6 v7 v8 v9 v10 v11 v12 : Option V), σ' = [some (.ref L), some (.int i), some (.ref D), some (.int c), some (.ref d), some (.ref Qa), v6, v7, v8, v9, v10, v11, v12] ∧ JA H i c U ts lds t Qa ops' ps' H' ∧ ps'.length + (runT c i ops t).length < (p0 :: pr).length + (runT c i ops' t).length, ?_, ?_⟩
        · rintro σ' H' ⟨ops', ps', v6, v7, v8, v9, v10, v11, v12, rfl, j2, hlt⟩
          refine ⟨_, ?_, ops', ps', v6, v7, v8, v9, v10, v11, v12, rfl, j2, rfl⟩
          have : (runT c i ops' t).length < U.length + 1 := tb_few (j2.tb i (d, t) ep).2.1 (j2.tb i (d, t) ep).2.2.2
          omega
        · refine ⟨_, rfl, Qa, p0 :: pr, rfl, jj.q1, jj.q2, by simp, jj.q3, fun pw qs' hperm hheap hmin => ?_⟩
          have pwm : pw ∈ p0 :: pr := hperm.mem_iff.mp List.mem_cons_self
          have qn := jj.q4
          rw [← (hperm.map (·.2)).nodup_iff] at qn
          obtain ⟨qn1, qn2⟩ := List.nodup_cons.mp qn
          have qlen : qs'.length + 1 = (p0 :: pr).length := hperm.length_eq
          have et := jj.q2 pw pwm
          have netQ : pw.1 ≠ Qa := ne_of et jj.q1 (by intro z; cases z)
          have et' : (upd H3 Qa (.lst (qs'.map fun p => V.ref p.1))) pw.1 = some (.tup [.int (-(pw.2.length : Int)), .str pw.2]) := by
            rw [upd_ne netQ]
            exact et
          refine ⟨pw.1, _, rfl, .inl (.inl et'), rfl, ?_⟩
          refine ⟨_, _, rfl, _, _, rfl, rfl, ?_⟩
          obtain ⟨pk, pst⟩ := jj.q5 pw pwm
          have tx := tt4 pw.2 pk
          have ndQ : d ≠ Qa := fun z => nQt (z ▸ (List.mem_map.mpr ⟨(d, t), hp, rfl⟩ : d ∈ ts.map (·.1)))
          have td : (upd H3 Qa (.lst (qs'.map fun p => V.ref p.1))) d = some (.dK (kv (runT c i ops t))) := by
            rw [upd_ne ndQ]
            exact tt1
          refine ⟨_, rfl, _, rfl, d, .int (num (runT c i ops t) pw.2), rfl, .inl ⟨_, Sum.inr pw.2, .inl td, rfl, by rw [valV_yes (has_iff.mpr pk)]⟩, _, rfl, ?_⟩
          have fr4 : ∀ a o, H a = some o → a ∉ ts.map (·.1) → (upd H3 Qa (.lst (qs'.map fun p => V.ref p.1))) a = some o := fun a o e na => by
            rw [upd_ne (ne_of_none e hQ0)]
            exact jj.fr a o e na
          have tb4 : ∀ (j : Nat) p, ts[j]? = some p → (upd H3 Qa (.lst (qs'.map fun p => V.ref p.1))) p.1 = some (.dK (kv (runT c j ops p.2))) ∧ Nd (runT c j ops p.2) ∧ (∀ q ∈ runT c j ops p.2, 0 ≤ q.2 ∧ q.2 < c) ∧ Wd U (runT c j ops p.2) := fun j p e => by
            obtain ⟨z1, z2⟩ := jj.tb j p e
            refine ⟨?_, z2⟩
            rw [upd_ne (ne_of_none (ra.ht p (List.mem_of_getElem? e)) hQ0)]
            exact z1
          have qq1 : (upd H3 Qa (.lst (qs'.map fun p => V.ref p.1))) Qa = some (.lst (qs'.map fun p => V.ref p.1)) := upd_same
          have qm : ∀ r ∈ qs', r ∈ p0 :: pr := fun r hr => hperm.mem_iff.mp (List.mem_cons_of_mem _ hr)
          have qq2 : QAt (upd H3 Qa (.lst (qs'.map fun p => V.ref p.1))) qs' := fun r hr => by
            have := jj.q2 r (qm r hr)
            rw [upd_ne (ne_of this jj.q1 (by intro z; cases z))]
            exact this
          generalize upd H3 Qa (.lst (qs'.map fun p => V.ref p.1)) = H4 at et' td fr4 tb4 qq1 qq2 ⊢
          have old : ∀ x ∈ (runT c i ops t).map (·.1), (startOf (lds.map (·.1)) x).isSome = true → x = pw.2 ∨ x ∈ qs'.map (·.2) ∨ (num (runT c i ops t) x = 0 ∧ leR x pw.2 = true ∧ ∀ p ∈ qs', leR x p.2 = true) := fun x hx hst => by
            rcases jj.q6 x hx hst with z | ⟨z1, z2⟩
            · have z' : x ∈ (pw :: qs').map (·.2) := (hperm.map (·.2)).mem_iff.mpr z
              rcases List.mem_cons.mp z' with z | z
              · exact .inl z
              · exact .inr (.inl z)
            · exact .inr (.inr ⟨z1, z2 pw pwm, fun p hp => z2 p (qm p hp)⟩)
          by_cases hn0 : num (runT c i ops t) pw.2 = 0
          · rw [hn0]
            refine iteF ⟨ops, qs', _, _, _, _, _, _, _, rfl, ⟨jj.tk, fr4, tb4, qq1, qq2, hheap, qn2, fun r hr => jj.q5 r (qm r hr), fun x hx hst => ?_⟩, by omega⟩
            rcases old x hx hst with z | z | ⟨z1, _, z3⟩
            · subst z
              exact .inr ⟨hn0, hmin⟩
            · exact .inl z
            · exact .inr ⟨z1, z3⟩
          · rw [show (num (runT c i ops t) pw.2 != 0) = true by simpa using hn0]
            refine iteT ?_
            obtain ⟨sx, es⟩ := Option.isSome_iff_exists.mp pst
            obtain ⟨hsw, k, hk1, hk2⟩ := startOf_some es
            have hlx : pw.2.length ≤ 1000 := Nat.le_trans (ra.cl.wl _ tx).2 ra.cl.m
            have hD4 := fr4 _ _ ra.hD ra.hDn
            refine ⟨_, rfl, _, rfl, pw.2, D, _, _, rfl, by omega, hD4, hkeys, ?_⟩
            rw [es]
            have hsl : sx.length = k := by rw [hk2, cut_len hk1]
            refine ⟨_, rfl, _, rfl, sx, rfl, by omega, _, rfl, pw.2, rfl, by omega, ?_⟩
            rw [hsl]
            have hb : sx ++ cutS pw.2 (some (k : Int)) none = pw.2 := by rw [hk2, cut_both hk1]
            generalize cutS pw.2 (some (k : Int)) none = b at hb ⊢
            obtain ⟨q, hq, hqs, hqv⟩ := lead_get hsw
            obtain ⟨hC, hCl, hql⟩ := ra.col q hq
            have hCn : q.2.1 ∉ ts.map (·.1) := fun z => by
              obtain ⟨p, hp', e⟩ := List.mem_map.mp z
              have := ra.ht p hp'
              rw [e, hC] at this
              cases this
            have hLn : L ∉ ts.map (·.1) := fun z => by
              obtain ⟨p, hp', e⟩ := List.mem_map.mp z
              have := ra.ht p hp'
              rw [e, ra.hL] at this
              cases this
            have hC4 := fr4 _ _ hC hCn
            have hiu : i < q.2.2.length := by rw [hCl]; exact ra.hi
            obtain ⟨u, eu⟩ : ∃ u, q.2.2[i]? = some u := ⟨q.2.2[i]'hiu, List.getElem?_eq_getElem hiu⟩
            have hum := List.mem_of_getElem? eu
            obtain ⟨hu1, hu2, hu3, hu4, hu5⟩ := ra.pc q hq u hum
            have hled : Led c sx u.2 := hqs ▸ ra.led q hq u eu
            have hu4' := fr4 _ _ hu1 hu2
            have ndu : d ≠ u.1 := fun z => hu2 (z ▸ (List.mem_map.mpr ⟨(d, t), hp, rfl⟩ : d ∈ ts.map (·.1)))
            have nDu : D ≠ u.1 := fun z => by
              have h1 := ra.hD
              rw [z, hu1] at h1
              injection h1 with h1
              injection h1 with h1
              have h2 : ((Sum.inr q.1 : Key), V.ref q.2.1) ∈ kv u.2 := by
                rw [h1]
                exact List.mem_map.mpr ⟨q, hq, rfl⟩
              obtain ⟨r, _, e⟩ := List.mem_map.mp h2
              have e2 := (Prod.mk.inj e).2
              cases e2
            have nCu : q.2.1 ≠ u.1 := ne_of hC hu1 (by intro z; cases z)
            have hbx : xyz b := xyz_tail (hb ▸ (ra.cl.wl _ tx).1)
            have hbl : b.length ≤ 1000 := by
              have := app_len sx b
              rw [hb] at this
              omega
            refine ⟨u.1, .dK (kv u.2), hu4', trivial, fun od2 => ?_⟩
            refine ⟨_, rfl, _, rfl, D, .ref q.2.1, rfl, .inl ⟨_, Sum.inr sx, .inl (by rw [upd_ne nDu]; exact hD4), rfl, hqv.symm⟩, _, rfl, q.2.1, _, i, .ref u.1, rfl, rfl, SqL.of (by rw [upd_ne nCu]; exact hC4), atI_nat (by rw [List.getElem?_map, eu]; rfl), u.1, od2, rfl, .inl ⟨kv u.2, upd_same, fun Fa hFa => ?_⟩⟩
            have nFu : Fa ≠ u.1 := fun e => by
              rw [e, upd_same] at hFa
              cases hFa
            have hFa0 : H4 Fa = none := by
              rw [upd_ne nFu] at hFa
              exact hFa
            have nFd : d ≠ Fa := ne_of_none td hFa0
            refine lc_it walk_keys (fun k H' => H' Fa = some (.lst (((newW b (u.2.take k) (runT c i ops t))).map V.str)) ∧ But u.1 H4 H' ∧ H' u.1 = some (.frz od2 (.dK (kv u.2))))
              ⟨upd_same, ?_, ?_⟩ (fun i H' _ hP => hP.2.2) ?_ ?_
            · intro a o e n
              rw [upd_ne (ne_of_none e hFa0), upd_ne n]
              exact e
            · rw [upd_ne nFu.symm]
              exact upd_same
            · rintro k x H5 H6 hi ⟨p1, p5, p6⟩ ⟨rfl, kk, v, e, rfl⟩
              obtain ⟨r, er, rfl, rfl⟩ := kv_at e
              rw [kv_len] at hi
              have hr1' := hu5 r (List.mem_of_getElem? er)
              have hwl : r.1.length + b.length ≤ sizeLine := by omega
              have td5 := p5 _ _ td ndu
              have enew : newW b (u.2.take (k + 1)) (runT c i ops t) = newW b (u.2.take k) (runT c i ops t) ++ [r.1 ++ b].filter fun x => !has (runT c i ops t) x := by
                unfold newW
                rw [List.take_add_one, er, List.map_append, List.filter_append]
                rfl
              refine ⟨rfl, ?_⟩
              refine ⟨_, rfl, _, rfl, _, _, rfl, rfl, hwl, _, rfl, d, _, rfl, .inl ⟨_, Sum.inr (r.1 ++ b), .inl td5, rfl, rfl⟩, ?_⟩
              cases hh : has (runT c i ops t) (r.1 ++ b) with
              | true =>
                rw [valV_yes hh]
                refine ⟨_, rfl, iteF ⟨?_, p5, p6⟩⟩
                rw [p1, enew]
                simp [hh]
              | false =>
                rw [show valV (kv (runT c i ops t)) (Sum.inr (r.1 ++ b)) = none from (valV_no hh).1]
                refine ⟨_, rfl, iteT ?_⟩
                refine ⟨_, rfl, _, rfl, _, _, rfl, rfl, hwl, ?_⟩
                have fl : (newW b (u.2.take k) (runT c i ops t)).length ≤ k := by
                  unfold newW
                  refine Nat.le_trans (List.length_filter_le _ _) ?_
                  rw [List.length_map, List.length_take]
                  omega
                refine ⟨_, p1, by rw [List.length_map]; omega, ?_, ?_, ?_⟩
                · rw [upd_same, enew]
                  simp [hh]
                · intro a o e n
                  rw [upd_ne (ne_of_none e hFa0)]
                  exact p5 a o e n
                · rw [upd_ne nFu.symm]
                  exact p6
            · rintro H5 ⟨p1, p5, p6⟩
              rw [kv_len, List.take_length] at p1
              refine ⟨p6, ?_⟩
              have f6 : (upd H5 u.1 (.dK (kv u.2))) Fa = some (.lst ((newW b u.2 (runT c i ops t)).map V.str)) := by
                rw [upd_ne nFu]
                exact p1
              have s6 : Same H4 (upd H5 u.1 (.dK (kv u.2))) := fun a o e => by
                by_cases n : a = u.1
                · rw [n, upd_same, ← hu4', ← n, e]
                · rw [upd_ne n]
                  exact p5 a o e n
              generalize upd H5 u.1 (.dK (kv u.2)) = H6 at f6 s6 ⊢
              clear p1 p5 p6
              have fr6 : ∀ a o, H a = some o → a ∉ ts.map (·.1) → H6 a = some o := fun a o e na => s6 _ _ (fr4 a o e na)
              have tb6 := fun (j : Nat) p (e : ts[j]? = some p) => (⟨s6 _ _ (tb4 j p e).1, (tb4 j p e).2⟩ : H6 p.1 = some (.dK (kv (runT c j ops p.2))) ∧ Nd (runT c j ops p.2) ∧ (∀ q ∈ runT c j ops p.2, 0 ≤ q.2 ∧ q.2 < c) ∧ Wd U (runT c j ops p.2))
              have td6 := s6 _ _ td
              have pow : U.length + 1 ≤ 1594323 := by have := ra.cl.len; omega
              refine ⟨_, rfl, _, rfl, _, rfl, D, .ref q.2.1, rfl, .inl ⟨_, Sum.inr sx, .inl (fr6 _ _ ra.hD ra.hDn), rfl, hqv.symm⟩, _, rfl, _, rfl, d, .int (num (runT c i ops t) pw.2), rfl, .inl ⟨_, Sum.inr pw.2, .inl td6, rfl, by rw [valV_yes (has_iff.mpr pk)]⟩, _, rfl, _, rfl, ?_⟩
              refine ⟨L, q.2.1, num (runT c i ops t) pw.2, b, c, cur c ops ts, q.2.2, rfl, ?_, fun H7 fr7 tb7 => ?_⟩
              · have cm : (cur c ops ts).map (·.1) = ts.map (·.1) := cur_map (f := fun a => a)
                exact {
                  hc := ra.hc
                  hc7 := ra.hc7
                  hb := by omega
                  hL := by rw [cur_map (f := V.ref)]; exact fr6 _ _ ra.hL hLn
                  hC := fr6 _ _ hC hCn
                  len := by
                    unfold cur
                    rw [List.length_mapIdx, hCl]
                  nd := by rw [cm]; exact ra.nd
                  ht := fun p hp => by
                    obtain ⟨j, p', e1, rfl⟩ := cur_mem hp
                    obtain ⟨z1, z2, z3, z4⟩ := tb6 j p' e1
                    have : (runT c j ops p'.2).length < U.length + 1 := tb_few z2 z4
                    exact ⟨z1, by show (runT c j ops p'.2).length ≤ _; omega⟩
                  hu := fun p hp => by
                    obtain ⟨z1, z2, z3, z4, z5⟩ := ra.pc q hq p hp
                    exact ⟨fr6 _ _ z1 z2, by rw [cm]; exact z2, fun r hr => ⟨(z3 r hr).1, (z3 r hr).2, Nat.le_trans (z5 r hr).2 hql⟩, z4⟩ }
              · have cm : (cur c ops ts).map (·.1) = ts.map (·.1) := cur_map (f := fun a => a)
                rw [cm] at fr7
                have fr7' : ∀ a o, H a = some o → a ∉ ts.map (·.1) → H7 a = some o := fun a o e na => fr7 _ _ (fr6 a o e na) na
                have hn1 : 0 ≤ num (runT c i ops t) pw.2 ∧ num (runT c i ops t) pw.2 < c := num_rg ra.hc tt3 _
                generalize hnn : num (runT c i ops t) pw.2 = n at hn1 tb7 hn0
                have run2 : ∀ (j : Nat) (t' : Tb) (p : Addr × Tb), q.2.2[j]? = some p → runT c j (ops ++ [⟨q, b, n⟩]) t' = takeT c n b p.2 (runT c j ops t') := fun j t' p e => by
                  rw [runT_snoc]
                  unfold opT
                  show (match q.2.2[j]? with | some p => takeT c n b p.2 (runT c j ops t') | none => runT c j ops t') = _
                  rw [e]
                have hsbm : sx ++ b ∈ U := by rw [hb]; exact tx
                have tbN : ∀ (j : Nat) p, ts[j]? = some p → H7 p.1 = some (.dK (kv (runT c j (ops ++ [⟨q, b, n⟩]) p.2))) ∧ Nd (runT c j (ops ++ [⟨q, b, n⟩]) p.2) ∧ (∀ q_1 ∈ runT c j (ops ++ [⟨q, b, n⟩]) p.2, 0 ≤ q_1.2 ∧ q_1.2 < c) ∧ Wd U (runT c j (ops ++ [⟨q, b, n⟩]) p.2) := fun j p e => by
                  have hjl : j < q.2.2.length := by rw [hCl]; exact (List.getElem?_eq_some_iff.mp e).1
                  obtain ⟨pj, ej⟩ : ∃ p, q.2.2[j]? = some p := ⟨q.2.2[j]'hjl, List.getElem?_eq_getElem hjl⟩
                  obtain ⟨z1, z2, z3, z4⟩ := tb6 j p e
                  rw [run2 j p.2 pj ej]
                  refine ⟨tb7 j (p.1, runT c j ops p.2) pj (by rw [cur_at, e]; rfl) ej, takeT_nd _ _ z2, takeT_rg ra.hc _ _ z3, take_wd z4 fun r hr => ra.cl.cl q hq pj (List.mem_of_getElem? ej) r hr b (by rw [hqs]; exact hsbm)⟩
                have enew := run2 i t u eu
                obtain ⟨k1, k2, k3, k4⟩ := tbN i (d, t) ep
                have k4' : Wd U (runT c i (ops ++ [⟨q, b, n⟩]) t) := k4
                rw [enew] at k4'
                have nFt : Fa ∉ ts.map (·.1) := fun z => by
                  obtain ⟨p, hp', e⟩ := List.mem_map.mp z
                  obtain ⟨j, ej⟩ := List.getElem?_of_mem hp'
                  have := (tb4 j p ej).1
                  rw [e, hFa0] at this
                  cases this
                have nFQ : Fa ≠ Qa := fun z => by
                  rw [z, qq1] at hFa0
                  cases hFa0
                have f7 := fr7 _ _ f6 nFt
                have tupN : ∀ {a : Addr} {xs : List V}, H4 a = some (.tup xs) → a ∉ ts.map (·.1) := fun {a xs} e z => by
                  obtain ⟨p, hp', e2⟩ := List.mem_map.mp z
                  obtain ⟨j, ej⟩ := List.getElem?_of_mem hp'
                  have := (tb4 j p ej).1
                  rw [e2, e] at this
                  cases this
                generalize hfs : newW b u.2 (runT c i ops t) = fs at f7
                have fsm : ∀ x, x ∈ fs ↔ (∃ r ∈ u.2, r.1 ++ b = x) ∧ x ∉ (runT c i ops t).map (·.1) := fun x => by rw [← hfs, newW_mem]
                have fsn : fs.Nodup := hfs ▸ newW_nd hled.nd
                have fsl : (runT c i ops t).length + fs.length ≤ (takeT c n b u.2 (runT c i ops t)).length := hfs ▸ newW_len hled.nd tt2
                have knew : ∀ x, x ∈ (takeT c n b u.2 (runT c i ops t)).map (·.1) ↔ x ∈ (runT c i ops t).map (·.1) ∨ x ∈ fs := fun x => by
                  rw [takeT_key, fsm]
                  by_cases z : x ∈ (runT c i ops t).map (·.1) <;> simp [z]
                have fsx : ∀ x ∈ fs, x.length ≤ 1000 := fun x hx => Nat.le_trans (ra.cl.wl _ (k4' x ((knew x).mpr (.inr hx)))).2 ra.cl.m
                have tfew2 : (takeT c n b u.2 (runT c i ops t)).length < U.length + 1 := by
                  have := tb_few k2 k4
                  rw [show runT c i (ops ++ [⟨q, b, n⟩]) (d, t).2 = _ from enew] at this
                  exact this
                have qk : ∀ r ∈ qs', r.2 ∈ (runT c i ops t).map (·.1) := fun r hr => (jj.q5 r (qm r hr)).1
                have qsl : qs'.length ≤ (runT c i ops t).length := by
                  have := List.Nodup.length_le_of_subset (l₂ := (runT c i ops t).map (·.1)) qn2 (fun x hx => by
                    obtain ⟨r, hr, rfl⟩ := List.mem_map.mp hx
                    exact qk r hr)
                  rw [List.length_map, List.length_map] at this
                  exact this
                refine ⟨_, rfl, Fa, rfl, ⟨_, SqL.of f7⟩, ?_⟩
                refine for_it (walk_list (xs := fs.map V.str)) (fun j σ H' => (∃ v6 v7 v8 v9 v10 v11 v12 : Option V, σ = [some (.ref L), some (.int i), some (.ref D), some (.int c), some (.ref d), some (.ref Qa), v6, v7, v8, v9, v10, v11, v12]) ∧
                    ∃ psj : PQ, H' Qa = some (.lst (psj.map fun p => V.ref p.1)) ∧ QAt H' psj ∧ HpL (psj.map (·.2)) ∧ (psj.map (·.2)).Nodup ∧ (∀ x, x ∈ psj.map (·.2) ↔ x ∈ qs'.map (·.2) ∨ (x ∈ fs.take j ∧ (startOf (lds.map (·.1)) x).isSome = true)) ∧ psj.length ≤ qs'.length + j ∧ ∀ a o, H7 a = some o → a ≠ Qa → H' a = some o)
                  ⟨⟨_, _, _, _, _, _, _, rfl⟩, qs', fr7 _ _ (s6 _ _ qq1) nQt, fun r hr => fr7 _ _ (s6 _ _ (qq2 r hr)) (tupN (qq2 r hr)), hheap, qn2, fun x => by simp, by omega, fun a o e _ => e⟩
                  (fun j σ H' _ hP => by
                    obtain ⟨_, psj, _, _, _, _, _, _, z⟩ := hP
                    exact SqL.of (z _ _ f7 nFQ)) ?_ ?_
                · rintro j x σ H8 H9 hj ⟨⟨v6, v7, v8, v9, v10, v11, v12, rfl⟩, psj, g1, g2, g3, g4, g5, g6, g7⟩ ⟨rfl, ex⟩
                  rw [List.getElem?_map] at ex
                  obtain ⟨wj, ewj, rfl⟩ := Option.map_eq_some_iff.mp ex
                  rw [List.length_map] at hj
                  have hwm := List.mem_of_getElem? ewj
                  have hwl := fsx wj hwm
                  have etk : fs.take (j + 1) = fs.take j ++ [wj] := by
                    rw [List.take_add_one, ewj]
                    rfl
                  have nDQ : D ≠ Qa := fun z => by
                    have h1 := ra.hD
                    rw [z, hQ0] at h1
                    cases h1
                  refine ⟨_, rfl, _, rfl, wj, D, _, _, rfl, by omega, g7 _ _ (fr7' _ _ ra.hD ra.hDn) nDQ, hkeys, ?_⟩
                  cases es2 : startOf (lds.map (·.1)) wj with
                  | none =>
                    refine ⟨_, rfl, iteF ⟨⟨_, _, _, _, _, _, _, rfl⟩, psj, g1, g2, g3, g4, fun x => ?_, by omega, g7⟩⟩
                    rw [g5, etk, List.mem_append, List.mem_singleton]
                    constructor
                    · rintro (z | ⟨z1, z2⟩)
                      · exact .inl z
                      · exact .inr ⟨.inl z1, z2⟩
                    · rintro (z | ⟨z1 | z1, z2⟩)
                      · exact .inl z
                      · exact .inr ⟨z1, z2⟩
                      · rw [z1, es2] at z2
                        cases z2
                  | some s2 =>
                    refine ⟨_, rfl, iteT ?_⟩
                    refine ⟨_, rfl, _, rfl, wj, rfl, by omega, fun tp htp => ?_⟩
                    have ntQ : Qa ≠ tp := ne_of_none g1 htp
                    have gq : QAt (upd H9 tp (.tup [.int (-(wj.length : Int)), .str wj])) (psj ++ [(tp, wj)]) := fun r hr => by
                      rcases List.mem_append.mp hr with hr | hr
                      · have := g2 r hr
                        rw [upd_ne (ne_of_none this htp)]
                        exact this
                      · have : r = (tp, wj) := by simpa using hr
                        subst this
                        exact upd_same
                    have g1' : (upd H9 tp (.tup [.int (-(wj.length : Int)), .str wj])) Qa = some (.lst (psj.map fun p => V.ref p.1)) := by
                      rw [upd_ne ntQ]
                      exact g1
                    refine ⟨Qa, tp, wj, psj, rfl, g1', gq, by omega, g3, fun q2 hperm2 hheap2 => ?_⟩
                    have hmem : ∀ x, x ∈ q2.map (·.2) ↔ x ∈ psj.map (·.2) ∨ x = wj := fun x => by
                      rw [(hperm2.map (·.2)).mem_iff, List.map_append, List.mem_append]
                      simp
                    refine ⟨⟨_, _, _, _, _, _, _, rfl⟩, q2, upd_same, fun r hr => ?_, hheap2, ?_, fun x => ?_, ?_, fun a o e na => ?_⟩
                    · have := gq r (hperm2.mem_iff.mp hr)
                      rw [upd_ne (ne_of this g1' (by intro z; cases z))]
                      exact this
                    · rw [(hperm2.map (·.2)).nodup_iff, List.map_append]
                      refine List.nodup_append.mpr ⟨g4, by simp, fun a ha b' hb' e => ?_⟩
                      have hb2 : b' = wj := by simpa using hb'
                      subst e
                      subst hb2
                      rcases (g5 _).mp ha with z | ⟨z, _⟩
                      · obtain ⟨r, hr, e⟩ := List.mem_map.mp z
                        exact ((fsm _).mp hwm).2 (e ▸ qk r hr)
                      · have hnd : (fs.take (j + 1)).Nodup := List.Nodup.sublist (List.take_sublist _ _) fsn
                        rw [etk] at hnd
                        exact (List.nodup_append.mp hnd).2.2 _ z _ (by simp) rfl
                    · rw [hmem, g5, etk, List.mem_append, List.mem_singleton]
                      constructor
                      · rintro ((z | ⟨z1, z2⟩) | z)
                        · exact .inl z
                        · exact .inr ⟨.inl z1, z2⟩
                        · subst z
                          exact .inr ⟨.inr rfl, by rw [es2]; rfl⟩
                      · rintro (z | ⟨z1 | z1, z2⟩)
                        · exact .inl (.inl z)
                        · exact .inl (.inr ⟨z1, z2⟩)
                        · exact .inr z1
                    · have := hperm2.length_eq
                      rw [List.length_append] at this
                      have h1 : ([(tp, wj)] : PQ).length = 1 := rfl
                      omega
                    · rw [upd_ne na, upd_ne (ne_of_none (g7 a o e na) htp)]
                      exact g7 a o e na
                · rintro σ H8 ⟨⟨v6, v7, v8, v9, v10, v11, v12, rfl⟩, psj, g1, g2, g3, g4, g5, g6, g7⟩
                  rw [List.length_map, List.take_length] at g5
                  rw [List.length_map] at g6
                  have dsQ : ∀ p ∈ ts, p.1 ≠ Qa := fun p hp' z => nQt (z ▸ List.mem_map.mpr ⟨p, hp', rfl⟩)
                  refine ⟨ops ++ [⟨q, b, n⟩], psj, _, _, _, _, _, _, _, rfl, ?_, by rw [enew]; omega⟩
                  exact {
                    tk := fun o ho => by
                      rcases List.mem_append.mp ho with ho | ho
                      · exact jj.tk o ho
                      · have : o = ⟨q, b, n⟩ := by simpa using ho
                        subst this
                        exact hq
                    fr := fun a o e na => g7 _ _ (fr7' a o e na) (fun z => by rw [z, hQ0] at e; cases e)
                    tb := fun j p e => ⟨g7 _ _ (tbN j p e).1 (dsQ p (List.mem_of_getElem? e)), (tbN j p e).2⟩
                    q1 := g1
                    q2 := g2
                    q3 := g3
                    q4 := g4
                    q5 := fun r hr => by
                      rw [enew]
                      rcases (g5 r.2).mp (List.mem_map.mpr ⟨r, hr, rfl⟩) with z | ⟨z1, z2⟩
                      · obtain ⟨r', hr', e⟩ := List.mem_map.mp z
                        exact ⟨(knew _).mpr (.inl (e ▸ qk r' hr')), e ▸ (jj.q5 r' (qm r' hr')).2⟩
                      · exact ⟨(knew _).mpr (.inr z1), z2⟩
                    q6 := fun x hx hst => by
                      rw [enew] at hx ⊢
                      have ahead : ∀ y ∈ fs, leR pw.2 y = true := fun y hy => by
                        obtain ⟨⟨r, hr, e⟩, _⟩ := (fsm y).mp hy
                        have := leR_app_r (z := b) (hled.behind r hr)
                        rw [hb, e] at this
                        exact this
                      have all : ∀ y, leR y pw.2 = true → (∀ p ∈ qs', leR y p.2 = true) → ∀ p ∈ psj, leR y p.2 = true := fun y h1 h2 p hp => by
                        rcases (g5 p.2).mp (List.mem_map.mpr ⟨p, hp, rfl⟩) with z | ⟨z1, z2⟩
                        · obtain ⟨r', hr', e⟩ := List.mem_map.mp z
                          rw [← e]
                          exact h2 r' hr'
                        · exact leR_trans h1 (ahead _ z1)
                      have refl' : leR pw.2 pw.2 = true := by
                        rcases leR_total.total pw.2 pw.2 with z | z <;> exact z
                      have zero : num (takeT c n b u.2 (runT c i ops t)) pw.2 = 0 := by
                        have := take_lead (n := n) (b := b) ra.hc hled tt3 (by rw [hb]; exact hnn.symm)
                        rw [hb] at this
                        exact this
                      rcases (knew x).mp hx with z | z
                      · rcases old x z hst with y | y | ⟨y1, y2, y3⟩
                        · subst y
                          exact .inr ⟨zero, all _ refl' hmin⟩
                        · exact .inl ((g5 x).mpr (.inl y))
                        · by_cases hxw : x = pw.2
                          · subst hxw
                            exact .inr ⟨zero, all _ refl' hmin⟩
                          · refine .inr ⟨?_, all _ y2 y3⟩
                            rw [take_ahead (n := n) (b := b) ra.hc hled tt3 (by rw [hb]; exact y2) (by rw [hb]; exact hxw)]
                            exact y1
                      · exact .inl ((g5 x).mpr (.inr ⟨z, hst⟩)) }
end
end Fp

set_option Elab.async false
set_option linter.all false
set_option maxRecDepth 100000
set_option maxHeartbeats 4000000
namespace Fp
open PySem PySem.Spec PyProof.Rows L2
/-- what is asked of a column, of leads at its first place, and of their columns -/
structure RC (H : Hp) (Co B D : Addr) (es : List Addr) (c : Int) (M : Nat) (U : List Str) (ts : At) (lds : List Lead) : Prop where
  hc : 0 < c
  hc7 : c ≤ 7
  cl : Cl lds M U
  hCo : H Co = some (.lst (ts.map fun p => V.ref p.1))
  hB : H B = some (.lst (V.ref D :: es.map V.ref))
  len : ts.length = es.length + 1
  few' : ts.length ≤ 1000
  hes : ∀ e ∈ es, H e = some (.dK [])
  ne : lds ≠ []
  hD : H D = some (.dK (lds.map fun q => ((Sum.inr q.1 : Key), V.ref q.2.1)))
  ht : ∀ p ∈ ts, H p.1 = some (.dK (kv p.2)) ∧ p.2.length ≤ 2500
  tg : ∀ p ∈ ts, Nd p.2 ∧ (∀ q ∈ p.2, 0 ≤ q.2 ∧ q.2 < c) ∧ Wd U p.2
  col : ∀ q ∈ lds, H q.2.1 = some (.lst (q.2.2.map fun p => V.ref p.1)) ∧ q.2.2.length = ts.length ∧ q.1.length ≤ 1000
  pc : ∀ q ∈ lds, ∀ p ∈ q.2.2, H p.1 = some (.dK (kv p.2)) ∧ (∀ r ∈ p.2, 1 ≤ r.2 ∧ r.2 < c) ∧ p.2.length ≤ 1000000 ∧ ∀ r ∈ p.2, xyz r.1 ∧ r.1.length ≤ q.1.length
  led : ∀ q ∈ lds, ∀ p, q.2.2[0]? = some p → Led c q.1 p.2
theorem allW_half : ∀ m, 2 * (allW m).length + 1 = 3 ^ (m + 1)
  | 0 => by decide
  | m + 1 => by
    have h := allW_half m
    have e : (allW (m + 1)).length = 3 * (allW m).length + 1 := by
      show ((("" : Str) :: (allW m).flatMap thr : List Str)).length = _
      rw [List.length_cons, flat3]
    have e2 : 3 ^ (m + 1 + 1) = 3 * 3 ^ (m + 1) := by rw [Nat.pow_succ, Nat.mul_comm]
    rw [e, e2]
    omega
theorem tb_half {U : List Str} {t : Tb} (h : Nd t) (hw : Wd U t) : t.length ≤ U.length := Nat.le_of_lt_succ (tb_few h hw)
theorem back_none8 {H H1 : Hp} {p : Addr} (k : Same H H1) (h : H1 p = none) : H p = none := by
  cases e : H p with
  | none => rfl
  | some o =>
    rw [k _ _ e] at h
    cases h
section
variable {P : Program} {w : World} {K : PySem.W.Frag} {mg : Str → Option Value} {base : Heap}
def spRed : Sp := fun vs H Q _ => ∃ (Co B D : Addr) (es : List Addr) (c : Int) (M : Nat) (U : List Str) (ts : At) (lds : List Lead), vs = [.ref Co, .ref B, .int c] ∧ RC H Co B D es c M U ts lds ∧
  ∀ (H' : Hp) (r : Addr) (rs : List Addr) (ops : List Tk), Same H H' → H r = none → H' r = some (.lst (rs.map V.ref)) → rs.length = ts.length → rs.Nodup → (∀ a ∈ rs, H a = none) →
    (∀ (j : Nat) p a, ts[j]? = some p → rs[j]? = some a → H' a = some (.dK (kv (tidyM c (runT c j ops p.2)))) ∧ Nd (runT c j ops p.2) ∧ (∀ q ∈ runT c j ops p.2, 0 ≤ q.2 ∧ q.2 < c) ∧ Wd U (runT c j ops p.2)) →
    (∀ o ∈ ops, o.q ∈ lds) → (∀ p, ts[0]? = some p → ∀ x ∈ (runT c 0 ops p.2).map (·.1), (startOf (lds.map (·.1)) x).isSome = true → num (runT c 0 ops p.2) x = 0) → Q (.ref r) H'
abbrev nRed : List Str := ["column", "basis", "clock", "left", "place", "table"]
theorem sc_Red : FnScope nRed ["column", "basis", "clock"] (defScope s_reduced) := ⟨rfl, rfl, rfl, by decide +kernel, rfl, by decide +kernel, by decide +kernel⟩
theorem ok_Red (T : Top K mg) : Ok P w K mg base 5 "reduced" ["column", "basis", "clock"] spRed := by
  obtain ⟨fd, F⟩ := fn_reduced T
  refine ⟨⟨fd, ?_, F.bindsN fun _ _ _ _ _ _ us hl => match us, hl with | [_, _, _], _ => rfl⟩, g_reduced T, F.kp⟩
  refine F.ok sc_Red (fun vs H Q E h => ?_) (fun cdv A outer s H vs Q E hr h => ?_)
  · obtain ⟨Co, B, D, es, c, M, U, ts, lds, rfl, _⟩ := h
    rfl
  · obtain ⟨Co, B, D, es, c, M, U, ts, lds, rfl, rc, q⟩ := h
    have nd := sc_Red.nd
    have hr1 : Room 1 _ := hr.mono (by decide)
    have hs : sizeLine = 16777216 := sizeLine_eq
    refine ⟨_, PSs.nox (pss_cons (ps_setLc (i := 3) (own := [("table", 5)]) (g := gName 5) (tt := tYes) (by rfl) nd rfl rfl (sw_true rfl rfl rfl (by decide +kernel)) (pi_list (pv 0)) (blkOk_by (N := nRed) (sc := defScope s_reduced) (by decide +kernel))
        (fun _ _ _ _ _ => pg_name (i := 5) nd rfl (Or.inl rfl)) (fun _ _ _ _ _ => pts_nil) (fun _ _ _ _ _ => pe_callTy call_dictD (by rfl) (f_dict T) (by decide +kernel) (pa_cons (pv 5) pa_nil)))
      (pss_cons (ps_for PassesOwn.never rfl (pi_range1 (by rfl) (f_range T) (pa_cons (pe_callB call_len (by rfl) (f_len T) PySem.boot_len (pa_cons (pv 3) pa_nil)) pa_nil)) (pg_name (i := 4) nd rfl (Or.inl rfl))
        (pss_one (ps_if (pt_truth (pe_ix ix_list (pv 1) (pv 4) (fun _ _ => rfl)) (fun _ => rfl)) (pss_one (ps_expr (pc (ok_RA T) hr (pa_cons (pv 3) (pa_cons (pv 4) (pa_cons (pe_ix ix_list (pv 1) (pv 4) (fun _ _ => rfl)) (pa_cons (pv 2) pa_nil))))))) pss_nil)))
      (pss_one (ps_ret (pe_lc (te := tCall spTidied [] E0 (tCons (tVar 5) (tCons (tVar 2) tNil))) (own := [("table", 5)]) (g := gName 5) (tt := tYes) rfl nd (pi_list (pv 3)) (blkOk_by (N := nRed) (sc := defScope s_reduced) (by decide +kernel))
        (fun _ _ _ _ _ => pg_name (i := 5) nd rfl (Or.inl rfl)) (fun _ _ _ _ _ => pts_nil) (fun _ _ _ _ _ => pc (ok_tidied T) hr1 (pa_cons (pv 5) (pa_cons (pv 2) pa_nil)))))))), ?_⟩
    refine ⟨_, rfl, Co, rfl, ⟨_, SqL.of rc.hCo⟩, fun Fa hFa => ?_⟩
    refine lc_it (walk_list (xs := ts.map fun p => V.ref p.1)) (fun k H' => (∃ cp : At, H' Fa = some (.lst (cp.map fun p => V.ref p.1)) ∧ cp.map (·.2) = (ts.take k).map (·.2) ∧ (cp.map (·.1)).Nodup ∧ (∀ p ∈ cp, H p.1 = none ∧ H' p.1 = some (.dK (kv p.2)))) ∧ Same H H')
      ⟨⟨[], upd_same, by simp, by simp, fun p hp => (by cases hp)⟩, same_upd hFa⟩ (fun k H' _ hP => SqL.of (hP.2 _ _ rc.hCo)) ?_ ?_
    · rintro k x H1 H2 hk ⟨⟨cp, p1, p2, p3, p4⟩, p5⟩ ⟨rfl, ex⟩
      rw [List.getElem?_map] at ex
      obtain ⟨p, ep, rfl⟩ := Option.map_eq_some_iff.mp ex
      rw [List.length_map] at hk
      have hpm := List.mem_of_getElem? ep
      have cl : cp.length = k := by
        have := congrArg List.length p2
        rw [List.length_map, List.length_map, List.length_take] at this
        omega
      refine ⟨rfl, ?_⟩
      refine ⟨_, rfl, p.1, kv p.2, rfl, .inl (p5 _ _ (rc.ht p hpm).1), fun Na hN => ?_⟩
      have nNF : Fa ≠ Na := ne_of_none p1 hN
      refine ⟨_, by rw [upd_ne nNF]; exact p1, by rw [List.length_map]; have := rc.few'; omega, ⟨cp ++ [(Na, p.2)], ?_, ?_, ?_, ?_⟩, ?_⟩
      · rw [upd_same, List.map_append]
        rfl
      · rw [List.map_append, p2, List.take_add_one, ep, List.map_append]
        rfl
      · rw [List.map_append]
        refine List.nodup_append.mpr ⟨p3, by simp, fun a ha b hb e => ?_⟩
        have hb2 : b = Na := by simpa using hb
        subst e
        subst hb2
        obtain ⟨r, hr', e⟩ := List.mem_map.mp ha
        have := (p4 r hr').2
        rw [e, hN] at this
        cases this
      · intro r hr'
        rcases List.mem_append.mp hr' with hr' | hr'
        · refine ⟨(p4 r hr').1, ?_⟩
          rw [upd_ne (ne_of (p4 r hr').2 p1 (by intro z; cases z)), upd_ne (ne_of_none (p4 r hr').2 hN)]
          exact (p4 r hr').2
        · have : r = (Na, p.2) := by simpa using hr'
          subst this
          refine ⟨back_none8 p5 hN, ?_⟩
          rw [upd_ne nNF.symm]
          exact upd_same
      · intro a o e
        rw [upd_ne (ne_of_none e hFa), upd_ne (ne_of_none (p5 a o e) hN)]
        exact p5 a o e
    · rintro H1 ⟨⟨cp, p1, p2, p3, p4⟩, p5⟩
      rw [List.length_map, List.take_length] at p2
      have cl : cp.length = ts.length := by
        have := congrArg List.length p2
        rw [List.length_map, List.length_map] at this
        exact this
      have snd : ∀ (j : Nat) (p : Addr × Tb), cp[j]? = some p → ∃ p', ts[j]? = some p' ∧ p'.2 = p.2 := fun j p e => by
        have h1 : (cp.map (·.2))[j]? = some p.2 := by rw [List.getElem?_map, e]; rfl
        rw [p2, List.getElem?_map] at h1
        obtain ⟨p', e1, e2⟩ := Option.map_eq_some_iff.mp h1
        exact ⟨p', e1, e2⟩
      have fresh : ∀ {a : Addr} {o : HO}, H a = some o → a ∉ cp.map (·.1) := fun {a o} e z => by
        obtain ⟨p, hp, e2⟩ := List.mem_map.mp z
        have := (p4 p hp).1
        rw [e2, e] at this
        cases this
      have hFn : Fa ∉ cp.map (·.1) := fun z => by
        obtain ⟨p, hp, e2⟩ := List.mem_map.mp z
        have := (p4 p hp).2
        rw [e2, p1] at this
        cases this
      have ra : RA H1 Fa D 0 c M U cp lds := {
        hc := rc.hc
        hc7 := rc.hc7
        cl := rc.cl
        hL := p1
        hD := p5 _ _ rc.hD
        hDn := fresh rc.hD
        hi := by rw [cl, rc.len]; omega
        nd := p3
        ht := fun p hp => (p4 p hp).2
        tg := fun p hp => by
          obtain ⟨j, e⟩ := List.getElem?_of_mem hp
          obtain ⟨p', e1, e2⟩ := snd j p e
          rw [← e2]
          exact rc.tg p' (List.mem_of_getElem? e1)
        few := fun p e => by
          obtain ⟨p', e1, e2⟩ := snd 0 p e
          rw [← e2]
          exact (rc.ht p' (List.mem_of_getElem? e1)).2
        col := fun q hq => ⟨p5 _ _ (rc.col q hq).1, (rc.col q hq).2.1.trans cl.symm, (rc.col q hq).2.2⟩
        pc := fun q hq p hp => by
          obtain ⟨z1, z2⟩ := rc.pc q hq p hp
          exact ⟨p5 _ _ z1, fresh z1, z2⟩
        led := rc.led }
      refine ⟨_, rfl, .ref Fa, cp.length, rfl, .inl ⟨_, .inl (.inl p1), by rw [List.length_map]⟩, _, rfl, by omega, by have := rc.few'; omega, ?_⟩
      rw [Int.toNat_natCast]
      refine for_it walk_range (fun j σ H' => (∃ v4 v5, σ = [some (.ref Co), some (.ref B), some (.int c), some (.ref Fa), v4, v5]) ∧ ((j = 0 ∧ H' = H1) ∨ (1 ≤ j ∧ ∃ ops : List Tk, (∀ o ∈ ops, o.q ∈ lds) ∧ (∀ a o, H1 a = some o → a ∉ cp.map (·.1) → H' a = some o) ∧
          (∀ (j : Nat) p, cp[j]? = some p → H' p.1 = some (.dK (kv (runT c j ops p.2))) ∧ Nd (runT c j ops p.2) ∧ (∀ q ∈ runT c j ops p.2, 0 ≤ q.2 ∧ q.2 < c) ∧ Wd U (runT c j ops p.2)) ∧
          (∀ p, cp[0]? = some p → ∀ x ∈ (runT c 0 ops p.2).map (·.1), (startOf (lds.map (·.1)) x).isSome = true → num (runT c 0 ops p.2) x = 0))))
        ⟨⟨_, _, rfl⟩, .inl ⟨rfl, rfl⟩⟩ (fun _ _ _ _ _ => trivial) ?_ ?_
      · rintro j x σ H2 H3 hj ⟨⟨v4, v5, rfl⟩, hP⟩ ⟨rfl, rfl⟩
        show gName 4 (V.int (0 + (j : Int))) _ _ _
        rw [Int.zero_add]
        rcases hP with ⟨rfl, rfl⟩ | ⟨hj1, ops, o1, o2, o3, o4⟩
        · refine ⟨_, rfl, _, rfl, B, _, ((0 : Nat) : Int), .ref D, rfl, rfl, SqL.of (p5 _ _ rc.hB), atI_nat (by rfl), _, .inr (.inr ⟨_, p5 _ _ rc.hD, rfl⟩), ?_⟩
          rw [show (!(lds.map fun q => ((Sum.inr q.1 : Key), V.ref q.2.1)).isEmpty) = true by
            cases hl : lds with
            | nil => exact absurd hl rc.ne
            | cons a r => rfl]
          refine iteT ?_
          refine ⟨_, rfl, _, rfl, _, rfl, _, rfl, B, _, ((0 : Nat) : Int), .ref D, rfl, rfl, SqL.of (p5 _ _ rc.hB), atI_nat (by rfl), _, rfl, Fa, D, 0, c, M, U, cp, lds, rfl, ra, fun H' ops o1 o2 o3 o4 => ?_⟩
          exact ⟨⟨_, _, rfl⟩, .inr ⟨Nat.le_refl _, ops, o1, o2, o3, o4⟩⟩
        · obtain ⟨j', rfl⟩ : ∃ j', j = j' + 1 := ⟨j - 1, by omega⟩
          have hjl : j' < es.length := by rw [cl, rc.len] at hj; omega
          obtain ⟨e, ee⟩ : ∃ e, es[j']? = some e := ⟨es[j']'hjl, List.getElem?_eq_getElem hjl⟩
          have hem := List.mem_of_getElem? ee
          have he0 := rc.hes e hem
          have hB2 := o2 _ _ (p5 _ _ rc.hB) (fresh rc.hB)
          refine ⟨_, rfl, _, rfl, B, _, _, .ref e, rfl, rfl, SqL.of hB2, atI_nat (by rw [List.getElem?_cons_succ, List.getElem?_map, ee]; rfl), _, .inr (.inr ⟨[], o2 _ _ (p5 _ _ he0) (fresh he0), rfl⟩), iteF ?_⟩
          exact ⟨⟨_, _, rfl⟩, .inr ⟨by omega, ops, o1, o2, o3, o4⟩⟩
      · rintro σ H2 ⟨⟨v4, v5, rfl⟩, hP⟩
        rcases hP with ⟨h0, _⟩ | ⟨_, ops, o1, o2, o3, o4⟩
        · rw [cl, rc.len] at h0
          omega
        · have s2 : Same H H2 := fun a o e => o2 _ _ (p5 _ _ e) (fresh e)
          have f2 := o2 _ _ p1 hFn
          have pow : U.length ≤ 1000000 := rc.cl.len
          refine ⟨_, rfl, Fa, rfl, ⟨_, SqL.of f2⟩, fun Ra hR => ?_⟩
          refine lc_it (walk_list (xs := cp.map fun p => V.ref p.1)) (fun k H' => (∃ rs : List Addr, H' Ra = some (.lst (rs.map V.ref)) ∧ rs.length = k ∧ rs.Nodup ∧ (∀ a ∈ rs, H2 a = none) ∧ (∀ (j : Nat) p a, cp[j]? = some p → rs[j]? = some a → H' a = some (.dK (kv (tidyM c (runT c j ops p.2)))))) ∧ Same H2 H')
            ⟨⟨[], upd_same, rfl, List.nodup_nil, fun a ha => (by cases ha), fun j p a _ e => (by simp at e)⟩, same_upd hR⟩ (fun k H' _ hP => SqL.of (hP.2 _ _ f2)) ?_ ?_
          · rintro k x H3 H4 hk ⟨⟨rs, r1, r2, r3, r4, r5⟩, r6⟩ ⟨rfl, ex⟩
            rw [List.getElem?_map] at ex
            obtain ⟨p, ep, rfl⟩ := Option.map_eq_some_iff.mp ex
            rw [List.length_map] at hk
            obtain ⟨z1, z2, z3, z4⟩ := o3 k p ep
            have zl : (runT c k ops p.2).length ≤ U.length := tb_half z2 z4
            refine ⟨rfl, ?_⟩
            refine ⟨_, rfl, _, rfl, p.1, c, _, rfl, rc.hc, r6 _ _ z1, z2, by omega, fun H5 Na s5 nN eN => ?_⟩
            have r1' := s5 _ _ r1
            have nNR : Ra ≠ Na := fun z => by
              rw [← z, r1] at nN
              cases nN
            refine ⟨_, r1', by rw [List.length_map]; have := rc.few'; omega, ⟨rs ++ [Na], ?_, ?_, ?_, ?_, ?_⟩, ?_⟩
            · rw [upd_same, List.map_append]
              rfl
            · rw [List.length_append, r2]
              rfl
            · refine List.nodup_append.mpr ⟨r3, by simp, fun a ha b hb e => ?_⟩
              have hb2 : b = Na := by simpa using hb
              subst e
              subst hb2
              obtain ⟨j, ej⟩ := List.getElem?_of_mem ha
              have hjk : j < cp.length := by
                have := (List.getElem?_eq_some_iff.mp ej).1
                omega
              have := r5 j _ _ (List.getElem?_eq_getElem hjk) ej
              rw [nN] at this
              cases this
            · intro a ha
              rcases List.mem_append.mp ha with ha | ha
              · exact r4 a ha
              · have : a = Na := by simpa using ha
                subst this
                exact back_none8 r6 nN
            · intro j p' a e1 e2
              by_cases hjl : j < rs.length
              · rw [List.getElem?_append_left hjl] at e2
                have := s5 _ _ (r5 j p' a e1 e2)
                rw [upd_ne (ne_of this r1' (by intro z; cases z))]
                exact this
              · have hjr : j = rs.length := by
                  have := (List.getElem?_eq_some_iff.mp e2).1
                  rw [List.length_append] at this
                  have h1 : ([Na] : List Addr).length = 1 := rfl
                  omega
                subst hjr
                rw [List.getElem?_append_right (Nat.le_refl _), Nat.sub_self] at e2
                have : Na = a := Option.some.inj e2
                subst this
                rw [r2] at e1 ⊢
                rw [ep] at e1
                cases e1
                rw [upd_ne nNR.symm]
                exact eN
            · intro a o e
              rw [upd_ne (ne_of_none e hR)]
              exact s5 _ _ (r6 a o e)
          · rintro H3 ⟨⟨rs, r1, r2, r3, r4, r5⟩, r6⟩
            rw [List.length_map] at r2
            refine q H3 Ra rs ops (fun a o e => r6 _ _ (s2 _ _ e)) (back_none8 s2 hR) r1 (r2.trans cl) r3 (fun a ha => back_none8 s2 (r4 a ha)) (fun j p a e1 e2 => ?_) o1 (fun p e x hx hst => ?_)
            · have hjl : j < cp.length := by rw [cl]; exact (List.getElem?_eq_some_iff.mp e1).1
              obtain ⟨p', ep'⟩ : ∃ p, cp[j]? = some p := ⟨cp[j]'hjl, List.getElem?_eq_getElem hjl⟩
              obtain ⟨p'', e3, e4⟩ := snd j p' ep'
              rw [e1] at e3
              cases e3
              rw [e4]
              exact ⟨r5 j p' a ep' e2, (o3 j p' ep').2⟩
            · have hjl : 0 < cp.length := by rw [cl, rc.len]; omega
              obtain ⟨p', ep'⟩ : ∃ p, cp[0]? = some p := ⟨cp[0]'hjl, List.getElem?_eq_getElem hjl⟩
              obtain ⟨p'', e3, e4⟩ := snd 0 p' ep'
              rw [e] at e3
              cases e3
              rw [e4] at hx ⊢
              exact o4 p' ep' x hx hst
end
end Fp

set_option Elab.async false
set_option linter.all false
set_option maxRecDepth 100000
set_option maxHeartbeats 4000000
namespace Fp
open PySem PySem.Spec PyProof.Rows L2
/-- a lot of words that dividing by g keeps -/
structure UW (g l : Tb) (M : Nat) (U : List Str) : Prop where
  len : U.length ≤ 1000000
  m : M ≤ 1000
  wl : ∀ x ∈ U, xyz x ∧ x.length ≤ M
  sub : ∀ x ∈ l.map (·.1), x ∈ U
  cl : ∀ h ∈ g.map (·.1), (∀ y ∈ g.map (·.1), leR h y = true) → ∀ b, h ++ b ∈ U → b ∈ U ∧ ∀ y ∈ g.map (·.1), y ++ b ∈ U
/-- the one lead of a dividing -/
def dLead (h : Str) (C a1 a2 : Addr) (c turn : Int) (g : Tb) : Lead := (h, C, [(a1, tidyM c (scl turn g)), (a2, [(("" : Str), c - turn)])])
section
variable {P : Program} {w : World} {K : PySem.W.Frag} {mg : Str → Option Value} {base : Heap}
def spDiv : Sp := fun vs H Q _ => ∃ (d f : Addr) (c : Int) (l g : Tb) (m k mg kg M : Nat) (U : List Str), vs = [.ref d, .ref f, .int c] ∧ isCk c ∧ H d = some (.dK (kv l)) ∧ H f = some (.dK (kv g)) ∧ VT c m k l ∧ VT c mg kg g ∧ k ≤ 2500 ∧ kg ≤ 100000 ∧ mg ≤ 1000 ∧ g ≠ [] ∧ UW g l M U ∧
  ∀ (H' : Hp) (p qo le C a1 a2 : Addr) (ops : List Tk) (h : Str) (turn : Int), Same H H' → H p = none → H' p = some (.tup [.ref qo, .ref le]) → H' le = some (.dK (kv (tidyM c (runT c 0 ops l)))) → H' qo = some (.dK (kv (tidyM c (runT c 1 ops [])))) →
    h ∈ g.map (·.1) → (∀ y ∈ g.map (·.1), leR h y = true) → (num g h * turn) % c = 1 → 1 ≤ turn → turn < c → (∀ o ∈ ops, o.q = dLead h C a1 a2 c turn g) →
    Nd (runT c 0 ops l) → Wd U (runT c 0 ops l) → Nd (runT c 1 ops []) → Wd U (runT c 1 ops []) →
    (∀ x ∈ (runT c 0 ops l).map (·.1), (startOf [h] x).isSome = true → num (runT c 0 ops l) x = 0) → Q (.ref p) H'
abbrev nDiv : List Str := ["table", "front", "clock", "head", "turn", "column", "left", "quotient"]
theorem sc_Div : FnScope nDiv ["table", "front", "clock"] (defScope s_divided) := ⟨rfl, rfl, rfl, by decide +kernel, rfl, by decide +kernel, by decide +kernel⟩
theorem ok_Div (T : Top K mg) : Ok P w K mg base 6 "divided" ["table", "front", "clock"] spDiv := by
  obtain ⟨fd, F⟩ := fn_divided T
  refine ⟨⟨fd, ?_, F.bindsN fun _ _ _ _ _ _ us hl => match us, hl with | [_, _, _], _ => rfl⟩, g_divided T, F.kp⟩
  refine F.ok sc_Div (fun vs H Q E h => ?_) (fun cdv A outer s H vs Q E hr h => ?_)
  · obtain ⟨d, f, c, l, g, m, k, mg, kg, M, U, rfl, _⟩ := h
    rfl
  · obtain ⟨d, f, c, l, g, m, k, mg, kg, M, U, rfl, hck, hd, hf, vl, vg, hk, hkg, hmg, hne, uw, q⟩ := h
    have nd := sc_Div.nd
    have hu := hu_of hr
    have hr1 : Room 1 _ := hr.mono (by decide)
    have hr2 : Room 2 _ := hr.mono (by decide)
    have hr4 : Room 4 _ := hr.mono (by decide)
    have hs : sizeLine = 16777216 := sizeLine_eq
    obtain ⟨hc2, hc7⟩ := ck_range hck
    refine ⟨_, PSs.nox (pss_cons (ps_set (i := 3) nd rfl (Or.inl rfl) (pc (ok_firstW T) hr4 (pa_cons (pv 1) pa_nil)))
      (pss_cons (ps_set (i := 4) nd rfl (Or.inl rfl) (pc (ok_inverse T) hr1 (pa_cons (pe_dget hu (pv 1) (pv 3) (fun _ _ => rfl)) (pa_cons (pv 2) pa_nil))))
      (pss_cons (ps_set (i := 5) nd rfl (Or.inl rfl) (pe_lst (pa_cons (pc (ok_scaled T) hr2 (pa_cons (pv 1) (pa_cons (pv 4) (pa_cons (pv 2) pa_nil)))) (pa_cons (pe_disp (pps_cons pe_str (pe_op op_sub (pv 2) (pv 4)) pps_nil) (by rfl) (by rfl) (fun z => by cases z) (by decide)) pa_nil))))
      (pss_cons (ps_asg (pc (ok_Red T) hr (pa_cons (pe_lst (pa_cons (pv 0) (pa_cons pe_dnewK pa_nil))) (pa_cons (pe_lst (pa_cons (pe_disp (pps_cons (pv 3) (pv 5) pps_nil) (by rfl) (by rfl) (fun z => by cases z) (by decide)) (pa_cons pe_dnewK pa_nil))) (pa_cons (pv 2) pa_nil)))) (pg_lst rfl (pgs_cons (pg_name (i := 6) nd rfl (Or.inl rfl)) (pgs_cons (pg_name (i := 7) nd rfl (Or.inl rfl)) pgs_nil))))
      (pss_one (ps_ret (pe_tup (pa_cons (pv 7) (pa_cons (pv 6) pa_nil))))))))), ?_⟩
    have gk : (kv g).map (·.1) = (g.map (·.1)).map Sum.inr := by
      unfold kv
      rw [List.map_map, List.map_map]
      rfl
    refine ⟨_, rfl, f, kv g, g.map (·.1), rfl, hf, gk, by simpa using hne, fun x hx => ?_, fun h hh hmin => ?_⟩
    · obtain ⟨p, hp, rfl⟩ := List.mem_map.mp hx
      have := (vg.wd p hp).2
      omega
    refine ⟨_, rfl, _, rfl, f, .int (num g h), rfl, .inl ⟨_, Sum.inr h, .inl hf, rfl, by rw [valV_yes (has_iff.mpr hh)]⟩, _, rfl, num g h, c, rfl, hck, fun turn ht0 htc ht => ?_⟩
    have hgn : 1 ≤ num g h ∧ num g h < c := by
      obtain ⟨p, hp, e⟩ := List.mem_map.mp hh
      obtain ⟨j, ej⟩ := List.getElem?_of_mem hp
      rw [← e, num_of vg.nd ej]
      exact vg.nu p hp
    obtain ⟨ht1, ht2⟩ := ht (by rw [Int.emod_eq_of_lt (by omega) hgn.2]; omega)
    refine ⟨_, rfl, _, rfl, _, rfl, f, turn, c, g, rfl, by omega, by omega, hf, vg.nd, vg.nu, by have := vg.ln; omega, fun H1 a1 s1 n1 e1 => ?_⟩
    refine fun a2 n2 => ⟨_, rfl, _, rfl, _, _, rfl, rfl, upd_same, kv [(("" : Str), c - turn)], rfl, Nat.le_of_ble_eq_true rfl, ?_⟩
    rw [upd_upd, show mergeK [] (kv [(("" : Str), c - turn)]) = kv [(("" : Str), c - turn)] from rfl]
    have s2 := s1.trans (same_upd (o := .dK (kv [(("" : Str), c - turn)])) n2)
    replace e1 := same_upd (o := .dK (kv [(("" : Str), c - turn)])) n2 _ _ e1
    have e2 : (upd H1 a2 (.dK (kv [(("" : Str), c - turn)]))) a2 = some (.dK (kv [(("" : Str), c - turn)])) := upd_same
    generalize upd H1 a2 (.dK (kv [(("" : Str), c - turn)])) = H2 at s2 e1 e2 ⊢
    refine ⟨by show 2 ≤ sizeLine; omega, fun C nC => ?_⟩
    have s3 := s2.trans (same_upd (o := .lst [.ref a1, .ref a2]) nC)
    replace e1 := same_upd (o := .lst [.ref a1, .ref a2]) nC _ _ e1
    replace e2 := same_upd (o := .lst [.ref a1, .ref a2]) nC _ _ e2
    have eC : (upd H2 C (.lst [.ref a1, .ref a2])) C = some (.lst [.ref a1, .ref a2]) := upd_same
    generalize upd H2 C (.lst [.ref a1, .ref a2]) = H3 at s3 e1 e2 eC ⊢
    refine ⟨_, rfl, fun q0 nq => ⟨by show 2 ≤ sizeLine; omega, fun Co nCo => ?_⟩⟩
    have s4 := s3.trans (same_upd (o := .dK []) nq)
    have t4 := same_upd (o := .dK []) nq
    have e4 : (upd H3 q0 (.dK [])) q0 = some (.dK []) := upd_same
    generalize upd H3 q0 (.dK []) = H4 at s4 t4 e4 nCo ⊢
    have t5 := same_upd (o := .lst [.ref d, .ref q0]) nCo
    have e5 : (upd H4 Co (.lst [.ref d, .ref q0])) Co = some (.lst [.ref d, .ref q0]) := upd_same
    generalize upd H4 Co (.lst [.ref d, .ref q0]) = H5 at t5 e5 ⊢
    refine fun D nD => ⟨_, rfl, _, rfl, upd_same, [((Sum.inr h : Key), V.ref C)], rfl, Nat.le_of_ble_eq_true rfl, ?_⟩
    rw [upd_upd, show mergeK [] [((Sum.inr h : Key), V.ref C)] = [((Sum.inr h : Key), V.ref C)] from rfl]
    have t6 := same_upd (o := .dK [((Sum.inr h : Key), V.ref C)]) nD
    have e6 : (upd H5 D (.dK [((Sum.inr h : Key), V.ref C)])) D = some (.dK [((Sum.inr h : Key), V.ref C)]) := upd_same
    generalize upd H5 D (.dK [((Sum.inr h : Key), V.ref C)]) = H6 at t6 e6 ⊢
    refine fun e0 ne0 => ⟨by show 2 ≤ sizeLine; omega, fun B nB => ?_⟩
    have t7 := same_upd (o := .dK []) ne0
    have e7 : (upd H6 e0 (.dK [])) e0 = some (.dK []) := upd_same
    generalize upd H6 e0 (.dK []) = H7 at t7 e7 nB ⊢
    have t8 := same_upd (o := .lst [.ref D, .ref e0]) nB
    have e8 : (upd H7 B (.lst [.ref D, .ref e0])) B = some (.lst [.ref D, .ref e0]) := upd_same
    generalize upd H7 B (.lst [.ref D, .ref e0]) = H8 at t8 e8 ⊢
    have t38 : Same H3 H8 := (((t4.trans t5).trans t6).trans t7).trans t8
    have s8 : Same H H8 := s3.trans t38
    have sn : Nd (scl turn g) := scl_nd vg.nd
    have nscl : ∀ x, num (scl turn g) x = turn * num g x := fun x => by rw [← tot_num sn, tot_scl, tot_num vg.nd]
    have tk : ∀ r ∈ tidyM c (scl turn g), r.1 ∈ g.map (·.1) := fun r hr => by
      obtain ⟨p, hp, e, _⟩ := tidy_keys hr
      unfold scl at hp
      obtain ⟨p', hp', rfl⟩ := List.mem_map.mp hp
      rw [e]
      exact List.mem_map.mpr ⟨p', hp', rfl⟩
    have wdk : ∀ x ∈ g.map (·.1), xyz x ∧ x.length ≤ mg := fun x hx => by
      obtain ⟨p, hp, rfl⟩ := List.mem_map.mp hx
      exact vg.wd p hp
    have hlh := (wdk h hh).2
    refine ⟨_, rfl, Co, B, D, [e0], c, M, U, [(d, l), (q0, [])], [dLead h C a1 a2 c turn g], rfl, ?_, fun H' r rs ops s9 nr er rl rnd rfr rt rop rz => ?_⟩
    · exact {
        hc := by omega
        hc7 := hc7
        cl := ⟨uw.len, uw.m, uw.wl, fun q hq p hp r hr b hb => by
          have : q = dLead h C a1 a2 c turn g := by simpa using hq
          subst this
          obtain ⟨u1, u2⟩ := uw.cl h hh hmin b hb
          have : p = (a1, tidyM c (scl turn g)) ∨ p = (a2, [(("" : Str), c - turn)]) := by simpa [dLead] using hp
          rcases this with rfl | rfl
          · exact u2 _ (tk r hr)
          · have : r = (("" : Str), c - turn) := by simpa using hr
            subst this
            rw [str_nil_l]
            exact u1⟩
        hCo := t8 _ _ (t7 _ _ (t6 _ _ e5))
        hB := e8
        len := rfl
        few' := by show 2 ≤ 1000; decide
        hes := fun e he => by
          have : e = e0 := by simpa using he
          subst this
          exact t8 _ _ e7
        ne := by simp
        hD := t8 _ _ (t7 _ _ e6)
        ht := fun p hp => by
          have : p = (d, l) ∨ p = (q0, []) := by simpa using hp
          rcases this with rfl | rfl
          · exact ⟨s8 _ _ hd, by have := vl.ln; show l.length ≤ 2500; omega⟩
          · exact ⟨t8 _ _ (t7 _ _ (t6 _ _ (t5 _ _ e4))), by show 0 ≤ 2500; decide⟩
        tg := fun p hp => by
          have : p = (d, l) ∨ p = (q0, []) := by simpa using hp
          rcases this with rfl | rfl
          · exact ⟨vl.nd, fun q hq => ⟨by have := (vl.nu q hq).1; omega, (vl.nu q hq).2⟩, fun x hx => uw.sub x hx⟩
          · exact ⟨List.nodup_nil, fun q hq => (by cases hq), fun x hx => (by cases hx)⟩
        col := fun q hq => by
          have : q = dLead h C a1 a2 c turn g := by simpa using hq
          subst this
          exact ⟨t38 _ _ eC, rfl, by show h.length ≤ 1000; omega⟩
        pc := fun q hq p hp => by
          have : q = dLead h C a1 a2 c turn g := by simpa using hq
          subst this
          have : p = (a1, tidyM c (scl turn g)) ∨ p = (a2, [(("" : Str), c - turn)]) := by simpa [dLead] using hp
          rcases this with rfl | rfl
          · refine ⟨t38 _ _ e1, fun r hr => tidy_rg (by omega) r hr, ?_, fun r hr => ⟨(wdk _ (tk r hr)).1, leR_len' (hmin _ (tk r hr))⟩⟩
            have := tidy_len (c := c) (l := scl turn g)
            rw [scl_len] at this
            have := vg.ln
            show (tidyM c (scl turn g)).length ≤ 1000000
            omega
          · refine ⟨t38 _ _ e2, fun r hr => ?_, by show 1 ≤ 1000000; decide, fun r hr => ?_⟩
            · have : r = (("" : Str), c - turn) := by simpa using hr
              subst this
              exact ⟨by show 1 ≤ c - turn; omega, by show c - turn < c; omega⟩
            · have : r = (("" : Str), c - turn) := by simpa using hr
              subst this
              exact ⟨fun c' hc' => (by cases hc'), Nat.zero_le _⟩
        led := fun q hq p e => by
          have : q = dLead h C a1 a2 c turn g := by simpa using hq
          subst this
          have : (a1, tidyM c (scl turn g)) = p := Option.some.inj e
          subst this
          refine ⟨tidy_nd sn, ?_, fun r hr => hmin _ (tk r hr)⟩
          show num (tidyM c (scl turn g)) h = 1
          rw [num_tidy sn, nscl, Int.mul_comm]
          exact ht1 }
    · obtain ⟨x0, x1, rfl⟩ : ∃ x0 x1, rs = [x0, x1] := by
        match rs, rl with
        | [x0, x1], _ => exact ⟨x0, x1, rfl⟩
      refine ⟨r, _, rfl, SqL.of er, rfl, ?_⟩
      refine ⟨_, _, rfl, _, _, rfl, rfl, ?_⟩
      obtain ⟨z1, z2, z3, z4⟩ := rt 0 (d, l) x0 rfl rfl
      obtain ⟨y1, y2, y3, y4⟩ := rt 1 (q0, []) x1 rfl rfl
      refine ⟨_, rfl, _, rfl, by show 2 ≤ sizeLine; omega, fun p np => ?_⟩
      have s10 := same_upd (o := .tup [.ref x1, .ref x0]) np
      refine q _ p x1 x0 C a1 a2 ops h turn ((s8.trans s9).trans s10) (back_none8 (s8.trans s9) np) upd_same (s10 _ _ z1) (s10 _ _ y1) hh hmin ht1 ht2 htc (fun o ho => by simpa using rop o ho) z2 z4 y2 y4 (rz (d, l) rfl)
end
end Fp

set_option Elab.async false
set_option linter.all false
set_option maxRecDepth 100000
set_option maxHeartbeats 4000000
namespace Fp
open PySem PySem.Spec PyProof.Rows L2
/-! ### what dividing tells, as sums -/
theorem tot_bwd_lin (b : Str) (k : Int) (l : Tb) (x : Str) : tot (bwd (b, k) l) x = k * tot (bwd (b, 1) l) x := by
  induction l with
  | nil => show tot [] x = k * tot [] x; rw [tot_nil, Int.mul_zero]
  | cons p r ih =>
    have e1 : bwd (b, k) (p :: r) = (p.1 ++ b, p.2 * k) :: bwd (b, k) r := rfl
    have e2 : bwd (b, 1) (p :: r) = (p.1 ++ b, p.2 * 1) :: bwd (b, 1) r := rfl
    rw [e1, e2, tot_cons, tot_cons, ih, Int.mul_add]
    by_cases e : p.1 ++ b = x
    · rw [if_pos e, if_pos e, Int.mul_one, Int.mul_comm k p.2]
    · rw [if_neg e, if_neg e, Int.mul_zero]
theorem tot_bwd_scl (b : Str) (k f : Int) (l : Tb) (x : Str) : tot (bwd (b, k) (scl f l)) x = (k * f) * tot (bwd (b, 1) l) x := by
  induction l with
  | nil => show tot [] x = (k * f) * tot [] x; rw [tot_nil, Int.mul_zero]
  | cons p r ih =>
    have e1 : bwd (b, k) (scl f (p :: r)) = (p.1 ++ b, (f * p.2) * k) :: bwd (b, k) (scl f r) := rfl
    have e2 : bwd (b, 1) (p :: r) = (p.1 ++ b, p.2 * 1) :: bwd (b, 1) r := rfl
    rw [e1, e2, tot_cons, tot_cons, ih, Int.mul_add]
    by_cases e : p.1 ++ b = x
    · rw [if_pos e, if_pos e]
      show (f * p.2 * k) + k * f * _ = k * f * (p.2 * 1) + k * f * _
      rw [Int.mul_one, Int.mul_comm (f * p.2) k, ← Int.mul_assoc]
    · rw [if_neg e, if_neg e, Int.mul_zero]
theorem prs_one (g : Tb) (b : Str) (k : Int) : prs g [(b, k)] = bwd (b, k) g := by
  induction g with
  | nil => rfl
  | cons p r ih =>
    rw [prs_cons, ih]
    rfl
theorem run_lk {c turn : Int} {h : Str} {C a1 a2 : Addr} {g : Tb} (hg : Nd g) : ∀ (ops : List Tk), (∀ o ∈ ops, o.q = dLead h C a1 a2 c turn g) → ∀ (t0 t1 : Tb), Nd t0 → Nd t1 → Lk c (runT c 0 ops t0 ++ prs g (runT c 1 ops t1)) (t0 ++ prs g t1)
  | [], _, t0, t1, _, _ => Lk.refl _ _
  | o :: ops, ho, t0, t1, h0, h1 => by
    have e := ho o List.mem_cons_self
    have o0 : opT c 0 t0 o = takeT c o.n o.b (tidyM c (scl turn g)) t0 := by
      unfold opT
      rw [e]
      rfl
    have o1 : opT c 1 t1 o = takeT c o.n o.b [(("" : Str), c - turn)] t1 := by
      unfold opT
      rw [e]
      rfl
    have r0 : runT c 0 (o :: ops) t0 = runT c 0 ops (opT c 0 t0 o) := rfl
    have r1 : runT c 1 (o :: ops) t1 = runT c 1 ops (opT c 1 t1 o) := rfl
    rw [r0, r1, o0, o1]
    refine (run_lk hg ops (fun o' h' => ho o' (List.mem_cons_of_mem _ h')) _ _ (takeT_nd _ _ h0) (takeT_nd _ _ h1)).trans ?_
    refine (Lk.app (lk_takeT h0) (Lk.prs_r g (lk_takeT h1))).trans fun x => ?_
    have s2 : scl (-1) (bwd (o.b, o.n) [(("" : Str), c - turn)]) = [(o.b, (-1) * ((c - turn) * o.n))] := by
      show [(("" : Str) ++ o.b, (-1) * ((c - turn) * o.n))] = _
      rw [str_nil_l]
    have k1 : tot (bwd (o.b, o.n) (tidyM c (scl turn g))) x % c = tot (bwd (o.b, o.n) (scl turn g)) x % c := by
      have := Lk.prs_l [(o.b, o.n)] (lk_tidy (c := c) (scl_nd (f := turn) hg)) x
      rw [prs_one, prs_one] at this
      exact this
    rw [s2, tot_app, tot_app, tot_scl, prs_app_r, tot_app, prs_one, tot_bwd_lin o.b (-1 * ((c - turn) * o.n)) g x, tot_app]
    rw [tot_bwd_scl] at k1
    generalize tot (bwd (o.b, 1) g) x = E at k1 ⊢
    generalize tot (bwd (o.b, o.n) (tidyM c (scl turn g))) x = W at k1 ⊢
    generalize tot t0 x = A
    generalize tot (prs g t1) x = B
    have k2 : (c : Int) ∣ (W - o.n * turn * E) := Int.dvd_of_emod_eq_zero (Int.emod_eq_emod_iff_emod_sub_eq_zero.mp k1)
    obtain ⟨z, hz⟩ := k2
    have k3 : A + -1 * W + (B + -1 * ((c - turn) * o.n) * E) = A + B + c * (-z - o.n * E) := by
      have : W = o.n * turn * E + c * z := by omega
      rw [this]
      rw [Int.sub_mul, Int.mul_sub, Int.mul_sub, Int.sub_mul, Int.mul_comm o.n turn]
      have a1 : -1 * (c * o.n) * E = -(c * (o.n * E)) := by rw [Int.mul_assoc, Int.neg_mul, Int.one_mul, Int.mul_assoc]
      have a2 : -1 * (turn * o.n) * E = -(turn * o.n * E) := by rw [Int.mul_assoc, Int.neg_mul, Int.one_mul]
      rw [a1, a2, Int.mul_neg]
      omega
    rw [k3, Int.add_mul_emod_self_left]
end Fp

set_option Elab.async false
set_option linter.all false
set_option maxRecDepth 100000
set_option maxHeartbeats 4000000
namespace Fp
open PySem PySem.Spec PyProof.Rows L2
/-! ### the first word of a product -/
/-- h leads g, its number has an inverse by the clock -/
structure Hd (c turn : Int) (h : Str) (g : Tb) : Prop where
  nd : Nd g
  mem : h ∈ g.map (·.1)
  min : ∀ y ∈ g.map (·.1), leR h y = true
  inv : (num g h * turn) % c = 1
/-- a table by the clock: each word once, no number nothing -/
structure Tt (c : Int) (r : Tb) : Prop where
  nd : Nd r
  rg : ∀ p ∈ r, 1 ≤ p.2 ∧ p.2 < c
theorem tot_first {h v : Str} {r : Tb} (hv : ∀ y ∈ r.map (·.1), leR v y = true) : ∀ {l : Tb}, Nd l → (∀ y ∈ l.map (·.1), leR h y = true) → tot (prs l r) (h ++ v) = num l h * tot r v
  | [], _, _ => by
    show tot [] (h ++ v) = 0 * _
    rw [tot_nil, Int.zero_mul]
  | p :: l, hn, hm => by
    have hn' : (p.1 :: l.map (·.1)).Nodup := hn
    obtain ⟨n1, n2⟩ := List.nodup_cons.mp hn'
    have ih := tot_first hv (l := l) n2 (fun y hy => hm y (List.mem_cons_of_mem _ hy))
    rw [tot_prs_cons, ih, num_cons]
    by_cases e : p.1 = h
    · rw [if_pos e]
      have z : num l h = 0 := by rw [← tot_num n2, tot_not (e ▸ n1)]
      rw [z, Int.zero_mul, Int.add_zero]
      rcases tot_fwd p r (h ++ v) with ⟨y, e1, e2⟩ | ⟨e1, _⟩
      · rw [e] at e1
        have : y = v := str_cancel e1
        rw [e2, this]
      · exact absurd (by rw [e]) (e1 v)
    · rw [if_neg e]
      have z : tot (fwd p r) (h ++ v) = 0 := by
        rcases tot_fwd p r (h ++ v) with ⟨y, e1, e2⟩ | ⟨_, e2⟩
        · rw [e2]
          by_cases hy : y ∈ r.map (·.1)
          · exfalso
            have l1 := leR_app_r (z := v) (hm p.1 List.mem_cons_self)
            have l2 := leR_app_l (z := p.1) (hv y hy)
            rw [e1] at l2
            have := leR_anti l1 l2
            exact e (str_cancel_r this).symm
          · rw [tot_not hy, Int.mul_zero]
        · exact e2
      rw [z, Int.zero_add]
theorem prs_key {l r : Tb} {x : Str} (h : tot (prs l r) x ≠ 0) : ∃ p ∈ l, ∃ q ∈ r, x = p.1 ++ q.1 := by
  by_cases hx : x ∈ (prs l r).map (·.1)
  · obtain ⟨e, he, rfl⟩ := List.mem_map.mp hx
    unfold prs at he
    obtain ⟨p, hp, he⟩ := List.mem_flatMap.mp he
    obtain ⟨q, hq, rfl⟩ := List.mem_map.mp he
    exact ⟨p, hp, q, hq, rfl⟩
  · exact absurd (tot_not hx) h
/-- the first of a row of words -/
theorem first_of : ∀ {l : List Str}, l ≠ [] → ∃ v ∈ l, ∀ y ∈ l, leR v y = true
  | [], h => absurd rfl h
  | [a], _ => ⟨a, List.mem_cons_self, fun y hy => by
    have : y = a := by simpa using hy
    subst this
    rcases leR_total.total y y with z | z <;> exact z⟩
  | a :: b :: l, _ => by
    obtain ⟨v, h1, h2⟩ := first_of (l := b :: l) (by simp)
    rcases leR_total.total a v with z | z
    · refine ⟨a, List.mem_cons_self, fun y hy => ?_⟩
      rcases List.mem_cons.mp hy with rfl | hy
      · rcases leR_total.total y y with z | z <;> exact z
      · exact leR_trans z (h2 y hy)
    · refine ⟨v, List.mem_cons_of_mem _ h1, fun y hy => ?_⟩
      rcases List.mem_cons.mp hy with rfl | hy
      · exact z
      · exact h2 y hy
/-- the first word of a product that is not nothing is the lead with a word behind; all its words are behind that one -/
theorem prs_first {c turn : Int} {h : Str} {g r : Tb} (hc : 2 ≤ c) (hg : Hd c turn h g) (hr : Tt c r) (hne : r ≠ []) : ∃ v, tot (prs g r) (h ++ v) % c ≠ 0 ∧ ∀ x, tot (prs g r) x ≠ 0 → leR (h ++ v) x = true := by
  obtain ⟨v, hv, hmin⟩ := first_of (l := r.map (·.1)) (by simpa using hne)
  refine ⟨v, fun z => ?_, fun x hx => ?_⟩
  · rw [tot_first hmin hg.nd hg.min, tot_num hr.nd] at z
    obtain ⟨p, hp, e⟩ := List.mem_map.mp hv
    obtain ⟨j, ej⟩ := List.getElem?_of_mem hp
    have hn := num_of hr.nd ej
    rw [e] at hn
    have h1 := hr.rg p hp
    have h2 : (num r v * (num g h * turn)) % c = num r v % c := by
      rw [Int.mul_emod, hg.inv, Int.mul_one, Int.emod_emod_of_dvd _ (Int.dvd_refl c)]
    have h3 : (num r v * (num g h * turn)) % c = 0 := by
      rw [show num r v * (num g h * turn) = (num g h * num r v) * turn by rw [← Int.mul_assoc, Int.mul_comm (num r v)], Int.mul_emod, z, Int.zero_mul, Int.zero_emod]
    rw [h3, hn, Int.emod_eq_of_lt (by omega) h1.2] at h2
    omega
  · obtain ⟨p, hp, q, hq, rfl⟩ := prs_key hx
    exact leR_trans (leR_app_r (z := v) (hg.min p.1 (List.mem_map.mpr ⟨p, hp, rfl⟩))) (leR_app_l (z := p.1) (hmin q.1 (List.mem_map.mpr ⟨q, hq, rfl⟩)))
end Fp
namespace Fp
open PySem PySem.Spec PyProof.Rows L2
theorem lk_add {c : Int} (l : Tb) : Lk c (tidyM c (addT l [])) l := fun x => by
  rw [tot_num (tidy_nd (nd_addT l [] (show Nd [] from List.nodup_nil))), num_tidy (nd_addT l [] (show Nd [] from List.nodup_nil)), num_addT, Int.emod_emod_of_dvd _ (Int.dvd_refl c)]
  show (num [] x + tot l x) % c = _
  rw [show num [] x = 0 from rfl, Int.zero_add]
theorem tt_add {c : Int} (hc : 0 < c) (l : Tb) : Tt c (tidyM c (addT l [])) := ⟨tidy_nd (nd_addT l [] (show Nd [] from List.nodup_nil)), tidy_rg hc⟩
theorem tt_nil {c : Int} {l : Tb} (h : Tt c l) (e : Lk c l []) : l = [] := by
  cases l with
  | nil => rfl
  | cons p r =>
    exfalso
    have h1 := e p.1
    have hn := num_of h.nd (i := 0) (p := p) rfl
    rw [tot_num h.nd, hn, tot_nil, Int.zero_emod] at h1
    have h2 := h.rg p List.mem_cons_self
    rw [Int.emod_eq_of_lt (by omega) h2.2] at h1
    omega
/-- a difference as a table -/
theorem diff_tt {c : Int} (hc : 0 < c) (q t : Tb) : ∃ r, Tt c r ∧ (∀ x, tot r x % c = (tot q x - tot t x) % c) := by
  refine ⟨_, tt_add hc (q ++ scl (-1) t), fun x => ?_⟩
  rw [lk_add (c := c) (q ++ scl (-1) t) x, tot_app, tot_scl]
  congr 1
  omega
/-- what is left begins nowhere with the lead: then there is but one quotient, and one rest -/
theorem div_one {c turn : Int} {h : Str} {g l T0 T1 q : Tb} (hc : 2 ≤ c) (hg : Hd c turn h g) (e : Lk c l (prs g T1 ++ T0)) (h0 : Tt c T0) (hb : ∀ x ∈ T0.map (·.1), ∀ v, x ≠ h ++ v) (f : Lk c l (prs g q)) : T0 = [] ∧ Lk c T1 q := by
  obtain ⟨r, hr, hd⟩ := diff_tt (c := c) (by omega) q T1
  have hlk : Lk c (r ++ T1) q := fun x => by
    rw [tot_app, Int.add_emod, hd x, ← Int.add_emod]
    congr 1
    omega
  have hp : Lk c (prs g r) T0 := fun x => by
    have a1 := Lk.prs_r g hlk x
    rw [prs_app_r, tot_app] at a1
    have a2 := (f.symm.trans e) x
    rw [tot_app] at a2
    have a3 : (tot (prs g r) x + tot (prs g T1) x) % c = (tot (prs g T1) x + tot T0 x) % c := a1.trans a2
    have a4 : (tot (prs g r) x + tot (prs g T1) x - tot (prs g T1) x) % c = (tot (prs g T1) x + tot T0 x - tot (prs g T1) x) % c := by rw [Int.sub_emod, a3, ← Int.sub_emod]
    rw [show tot (prs g r) x + tot (prs g T1) x - tot (prs g T1) x = tot (prs g r) x by omega, show tot (prs g T1) x + tot T0 x - tot (prs g T1) x = tot T0 x by omega] at a4
    exact a4
  by_cases hne : r = []
  · subst hne
    refine ⟨tt_nil h0 (fun x => ?_), hlk⟩
    rw [← hp x, prs_nil_r]
  · exfalso
    obtain ⟨v, hv, _⟩ := prs_first hc hg hr hne
    rw [hp (h ++ v)] at hv
    by_cases hk : (h ++ v) ∈ T0.map (·.1)
    · exact hb _ hk v rfl
    · rw [tot_not hk, Int.zero_emod] at hv
      exact hv rfl
/-- what is left leads with a word that does not begin with the lead: then nothing is a quotient -/
theorem div_none {c turn : Int} {h x : Str} {g l L q f : Tb} (hc : 2 ≤ c) (hg : Hd c turn h g) (e : Lk c l (prs g f ++ L)) (hL : Tt c L) (hx : x ∈ L.map (·.1)) (hmin : ∀ y ∈ L.map (·.1), leR x y = true) (hb : ∀ v, x ≠ h ++ v) : ¬ Lk c l (prs g q) := fun z => by
  obtain ⟨r, hr, hd⟩ := diff_tt (c := c) (by omega) q f
  have hlk : Lk c (r ++ f) q := fun x => by
    rw [tot_app, Int.add_emod, hd x, ← Int.add_emod]
    congr 1
    omega
  have hp : Lk c (prs g r) L := fun x => by
    have a1 := Lk.prs_r g hlk x
    rw [prs_app_r, tot_app] at a1
    have a2 := (z.symm.trans e) x
    rw [tot_app] at a2
    have a3 : (tot (prs g r) x + tot (prs g f) x) % c = (tot (prs g f) x + tot L x) % c := a1.trans a2
    have a4 : (tot (prs g r) x + tot (prs g f) x - tot (prs g f) x) % c = (tot (prs g f) x + tot L x - tot (prs g f) x) % c := by rw [Int.sub_emod, a3, ← Int.sub_emod]
    rw [show tot (prs g r) x + tot (prs g f) x - tot (prs g f) x = tot (prs g r) x by omega, show tot (prs g f) x + tot L x - tot (prs g f) x = tot L x by omega] at a4
    exact a4
  have hxn : tot L x % c ≠ 0 := by
    obtain ⟨p, hp', e'⟩ := List.mem_map.mp hx
    obtain ⟨j, ej⟩ := List.getElem?_of_mem hp'
    have hn := num_of hL.nd ej
    rw [e'] at hn
    have h2 := hL.rg p hp'
    rw [tot_num hL.nd, hn, Int.emod_eq_of_lt (by omega) h2.2]
    omega
  have hne : r ≠ [] := fun y => by
    subst y
    have := hp x
    rw [prs_nil_r, tot_nil, Int.zero_emod] at this
    exact hxn this.symm
  obtain ⟨v, hv, hall⟩ := prs_first hc hg hr hne
  have h1 : leR (h ++ v) x = true := hall x (fun y => hxn (by rw [← hp x, y, Int.zero_emod]))
  have h2 : leR x (h ++ v) = true := by
    rw [hp (h ++ v)] at hv
    by_cases hk : (h ++ v) ∈ L.map (·.1)
    · exact hmin _ hk
    · rw [tot_not hk, Int.zero_emod] at hv
      exact absurd rfl hv
  exact hb v (leR_anti h2 h1)
end Fp

set_option Elab.async false
set_option linter.all false
set_option maxRecDepth 100000
set_option maxHeartbeats 4000000
namespace Fp
open PySem PySem.Spec PyProof.Rows L2
theorem vt_again {c : Int} {m k : Nat} {l : Tb} (hc : 0 < c) (h : VT c m k l) : VT c m k (tidyM c l) ∧ Lk c (tidyM c l) l :=
  ⟨(vt_tidy hc h.nd h.wd).mono (Nat.le_refl _) h.ln, lk_tidy h.nd⟩
theorem canon_nil_iff {l : Tb} (h : Nd l) (hr : ∀ p ∈ l, 1 ≤ p.2) (hn : Nd (canon l)) (hr' : ∀ p ∈ canon l, 1 ≤ p.2) : canon l = [] ↔ l = [] := by
  have key : ∀ {a b : Tb}, Nd b → (∀ p ∈ b, 1 ≤ p.2) → (∀ x, num a x = num b x) → a = [] → b = [] := fun {a b} hb hp e z => by
    cases b with
    | nil => rfl
    | cons p r =>
      exfalso
      have h1 := num_of hb (i := 0) (p := p) rfl
      have h2 := e p.1
      rw [z, h1] at h2
      have h3 := hp p List.mem_cons_self
      have h4 : num [] p.1 = 0 := rfl
      omega
  exact ⟨key h hr (fun x => canon_num h x), key hn hr' (fun x => (canon_num h x).symm)⟩
theorem start_has {ws : List Str} {h v : Str} (hm : h ∈ ws) : (startOf ws (h ++ v)).isSome = true := by
  cases e : startOf ws (h ++ v) with
  | some s => rfl
  | none =>
    exfalso
    unfold startOf at e
    rw [List.findSome?_eq_none_iff] at e
    have hl : h.length ≤ (h ++ v).length := by rw [app_len]; omega
    have h1 := e h.length (List.mem_range.mpr (by omega))
    have h2 : cutS (h ++ v) none (some (h.length : Int)) = h := by
      refine PySem.W.str_of_cps ?_
      rw [cut_front_list hl, app_list, ← len_list h, List.take_left']
      rfl
    rw [h2, if_pos hm] at h1
    cases h1
/-! ### the lots of words that dividing keeps -/
theorem cut_app (a b : Str) : cutS (a ++ b) (some (a.length : Int)) none = b := by
  have hl : a.length ≤ (a ++ b).length := by rw [app_len]; omega
  have h2 : cutS (a ++ b) none (some (a.length : Int)) = a := by
    refine PySem.W.str_of_cps ?_
    rw [cut_front_list hl, app_list, ← len_list a, List.take_left']
    rfl
  have h3 := cut_both hl
  rw [h2] at h3
  exact str_cancel h3
/-- what stands at the end of a word -/
def ends (x : Str) : List Str := (List.range (x.length + 1)).map fun (n : Nat) => cutS x (some (n : Int)) none
theorem ends_mem {a b : Str} : b ∈ ends (a ++ b) := List.mem_map.mpr ⟨a.length, List.mem_range.mpr (by rw [app_len]; omega), cut_app a b⟩
theorem ends_app {x s : Str} (h : s ∈ ends x) : ∃ a, x = a ++ s := by
  obtain ⟨n, hn, rfl⟩ := List.mem_map.mp h
  have hn := List.mem_range.mp hn
  exact ⟨cutS x none (some (n : Int)), (cut_both (by omega)).symm⟩
theorem ends_len (x : Str) : (ends x).length = x.length + 1 := by
  unfold ends
  rw [List.length_map, List.length_range]
/-- the words of l, and pieces of g ahead of ends of these, none longer than m -/
def sufU (g l : Tb) (m : Nat) : List Str := l.map (·.1) ++ ((l.flatMap fun w => (ends w.1).flatMap fun s => (("" : Str) :: g.map (·.1)).map fun p => p ++ s).filter fun x => decide (x.length ≤ m))
theorem sufU_mem {g l : Tb} {m : Nat} {w p s : Str} (hw : w ∈ l.map (·.1)) (hs : s ∈ ends w) (hp : p = "" ∨ p ∈ g.map (·.1)) (h : (p ++ s).length ≤ m) : p ++ s ∈ sufU g l m := by
  obtain ⟨w', hw', rfl⟩ := List.mem_map.mp hw
  refine List.mem_append_right _ (List.mem_filter.mpr ⟨List.mem_flatMap.mpr ⟨w', hw', List.mem_flatMap.mpr ⟨s, hs, List.mem_map.mpr ⟨p, ?_, rfl⟩⟩⟩, decide_eq_true h⟩)
  rcases hp with rfl | hp
  · exact List.mem_cons_self
  · exact List.mem_cons_of_mem _ hp
theorem sum_le {α : Type} (f : α → Nat) (b : Nat) : ∀ l : List α, (∀ x ∈ l, f x ≤ b) → (l.map f).sum ≤ l.length * b
  | [], _ => Nat.zero_le _
  | x :: r, h => by
    have h1 := h x List.mem_cons_self
    have h2 := sum_le f b r fun y hy => h y (List.mem_cons_of_mem _ hy)
    rw [List.map_cons, List.sum_cons, List.length_cons, Nat.add_mul, Nat.one_mul]
    omega
theorem sufU_len {g l : Tb} {m : Nat} (hl : ∀ p ∈ l, p.1.length ≤ m) : (sufU g l m).length ≤ l.length + l.length * ((m + 1) * (g.length + 1)) := by
  unfold sufU
  rw [List.length_append, List.length_map]
  refine Nat.add_le_add_left (Nat.le_trans (List.length_filter_le _ _) ?_) _
  rw [List.length_flatMap]
  refine sum_le _ _ l fun w hw => ?_
  rw [List.length_flatMap]
  refine Nat.le_trans (sum_le _ (g.length + 1) (ends w.1) fun s _ => ?_) (Nat.mul_le_mul_right _ ?_)
  · rw [List.length_map, List.length_cons, List.length_map]
    exact Nat.le_refl _
  · rw [ends_len]
    exact Nat.add_le_add_right (hl w hw) 1
/-- as many letters: the one stands at the other's end -/
theorem end_of {h b p s : Str} (e : h ++ b = p ++ s) (hl : p.length ≤ h.length) : ∃ a, s = a ++ b := by
  have e2 : (h ++ b).cps.toList = (p ++ s).cps.toList := by rw [e]
  rw [app_list, app_list] at e2
  obtain ⟨a, h1, h2⟩ | ⟨a, h1, h2⟩ := List.append_eq_append_iff.mp e2
  · have : a = [] := by
      have := congrArg List.length h1
      rw [List.length_append, len_list, len_list] at this
      exact List.eq_nil_of_length_eq_zero (by omega)
    subst this
    refine ⟨"", ?_⟩
    rw [str_nil_l]
    refine PySem.W.str_of_cps ?_
    simpa using h2.symm
  · refine ⟨⟨⟨a⟩⟩, PySem.W.str_of_cps ?_⟩
    rw [app_list]
    exact h2
theorem sufU_le {c : Int} {m k mg kg : Nat} {g l : Tb} (vl : VT c m k l) (vg : VT c mg kg g) : (sufU g l m).length ≤ k + k * ((m + 1) * (kg + 1)) :=
  Nat.le_trans (sufU_len fun p hp => (vl.wd p hp).2) (Nat.add_le_add vl.ln (Nat.mul_le_mul vl.ln (Nat.mul_le_mul_left _ (Nat.add_le_add_right vg.ln 1))))
theorem uw_suf {c : Int} {m k mg kg : Nat} {g l : Tb} (vl : VT c m k l) (vg : VT c mg kg g) (hm : m ≤ 1000) (hn : k + k * ((m + 1) * (kg + 1)) ≤ 1000000) : UW g l m (sufU g l m) where
  len := by
    refine Nat.le_trans (sufU_len fun p hp => (vl.wd p hp).2) (Nat.le_trans ?_ hn)
    exact Nat.add_le_add vl.ln (Nat.mul_le_mul vl.ln (Nat.mul_le_mul_left _ (Nat.add_le_add_right vg.ln 1)))
  m := hm
  wl := fun x hx => by
    rcases List.mem_append.mp hx with hx | hx
    · obtain ⟨p, hp, rfl⟩ := List.mem_map.mp hx
      exact vl.wd p hp
    · obtain ⟨hx, hd⟩ := List.mem_filter.mp hx
      refine ⟨?_, of_decide_eq_true hd⟩
      obtain ⟨w, hw, hx⟩ := List.mem_flatMap.mp hx
      obtain ⟨s, hs, hx⟩ := List.mem_flatMap.mp hx
      obtain ⟨p, hp, rfl⟩ := List.mem_map.mp hx
      obtain ⟨a, ea⟩ := ends_app hs
      have h1 : xyz s := xyz_tail (a := a) (ea ▸ (vl.wd w hw).1)
      rcases List.mem_cons.mp hp with rfl | hp
      · rw [str_nil_l]
        exact h1
      · obtain ⟨p', hp', rfl⟩ := List.mem_map.mp hp
        exact xyz_app (vg.wd p' hp').1 h1
  sub := fun x hx => List.mem_append_left _ hx
  cl := fun h hh hmin b hb => by
    have key : ∃ w ∈ l.map (·.1), b ∈ ends w ∧ (h ++ b).length ≤ m := by
      rcases List.mem_append.mp hb with hb | hb
      · obtain ⟨p, hp, e⟩ := List.mem_map.mp hb
        exact ⟨h ++ b, hb, ends_mem, e ▸ (vl.wd p hp).2⟩
      · obtain ⟨hx, hd⟩ := List.mem_filter.mp hb
        obtain ⟨w, hw, hx⟩ := List.mem_flatMap.mp hx
        obtain ⟨s, hs, hx⟩ := List.mem_flatMap.mp hx
        obtain ⟨p, hp, e⟩ := List.mem_map.mp hx
        obtain ⟨a, ea⟩ := ends_app hs
        have hpl : p.length ≤ h.length := by
          rcases List.mem_cons.mp hp with rfl | hp
          · exact Nat.zero_le _
          · exact leR_len' (hmin p hp)
        obtain ⟨a', ea'⟩ := end_of e.symm hpl
        refine ⟨w.1, List.mem_map.mpr ⟨w, hw, rfl⟩, ?_, of_decide_eq_true hd⟩
        rw [ea, ea', ← str_assoc]
        exact ends_mem
    obtain ⟨w, hw, hbw, hlen⟩ := key
    rw [app_len] at hlen
    refine ⟨?_, fun y hy => sufU_mem hw hbw (.inr hy) ?_⟩
    · have := sufU_mem (g := g) (m := m) hw hbw (.inl rfl) (by rw [str_nil_l]; omega)
      rw [str_nil_l] at this
      exact this
    · rw [app_len]
      have := leR_len' (hmin y hy)
      omega
theorem uw_keys {g g' l l' : Tb} {M : Nat} {U : List Str} (h : UW g l M U) (hg : ∀ y, y ∈ g'.map (·.1) ↔ y ∈ g.map (·.1)) (hl : ∀ y, y ∈ l'.map (·.1) ↔ y ∈ l.map (·.1)) : UW g' l' M U :=
  ⟨h.len, h.m, h.wl, fun x hx => h.sub x ((hl x).mp hx), fun k hk hmin b hb => by
    obtain ⟨h1, h2⟩ := h.cl k ((hg k).mp hk) (fun y hy => hmin y ((hg y).mpr hy)) b hb
    exact ⟨h1, fun y hy => h2 y ((hg y).mp hy)⟩⟩
theorem canon_key {c : Int} {m k : Nat} {l : Tb} (v : VT c m k l) (y : Str) : y ∈ (canon l).map (·.1) ↔ y ∈ l.map (·.1) := by
  have v' := vt_canon v
  rw [rg_key v'.nd (fun p hp => (v'.nu p hp).1), rg_key v.nd (fun p hp => (v.nu p hp).1), canon_num v.nd]
section
variable {P : Program} {w : World} {K : PySem.W.Frag} {mg : Str → Option Value} {base : Heap}
def spRest (K : PySem.W.Frag) : Sp := fun vs H Q E => ∃ (a b : Addr) (c c' : Int) (g l : Tb) (m k mg kg M : Nat) (U : List Str), vs = [.ref a, .ref b] ∧ Bg K H a c mg kg g ∧ Bg K H b c' m k l ∧ isCk c ∧ k ≤ 2500 ∧ kg ≤ 100000 ∧ mg ≤ 1000 ∧
  (g = [] → E (.ref (He.ga K "IsNothing")) none H) ∧ (g ≠ [] → c ≠ c' → E (.ref (He.ga K "UnlikeClocks")) none H) ∧
  (g ≠ [] → c = c' → UW g l M U ∧ (∀ (H' : Hp) (r : Addr) (q : Tb), Same H H' → H r = none → Bg K H' r c M U.length q → Lk c l (prs g q) → Q (.ref r) H') ∧ (∀ H', Same H H' → (∀ q, ¬ Lk c l (prs g q)) → Q .non H'))
abbrev nRest : List Str := ["front", "bag", "quotient", "left"]
theorem sc_Rest : FnScope nRest ["front", "bag"] (defScope s_rest_behind) := ⟨rfl, rfl, rfl, by decide +kernel, rfl, by decide +kernel, by decide +kernel⟩
theorem ok_Rest (T : Top K mg) : OkX P w K mg base 8 "rest_behind" ["front", "bag"] (spRest K) := by
  obtain ⟨fd, F⟩ := fn_rest_behind T
  refine ⟨⟨fd, ?_, F.bindsN fun _ _ _ _ _ _ us hl => match us, hl with | [_, _], _ => rfl⟩, g_rest_behind T, F.kp⟩
  refine F.ok sc_Rest (fun vs H Q E h => ?_) (fun cdv A outer s H vs Q E hr h => ?_)
  · obtain ⟨a, b, c, c', g, l, m, k, mg, kg, M, U, rfl, _⟩ := h
    rfl
  · obtain ⟨a, b, c, c', g, l, m, k, mg, kg, M, U, rfl, h1, h2, hck, hk, hkg, hmg, q1, q2, q3⟩ := h
    have nd := sc_Rest.nd
    have hr1 : Room 1 _ := hr.mono (by decide)
    have hr6 : Room 6 _ := hr.mono (by decide)
    obtain ⟨hc2, hc7⟩ := ck_range hck
    refine ⟨_, pss_cons (ps_expr (pcX (takes_of rfl rfl rfl rfl) (ok_check_something T) hr1 (pa_cons (pv 0) pa_nil)))
      (pss_cons (ps_expr (pcX (takes_of rfl rfl rfl rfl) (ok_check_clocks T) hr1 (pa_cons (pv 0) (pa_cons (pv 1) pa_nil))))
      (pss_cons (ps_asg (pc (ok_Div T) hr6 (pa_cons (pc (ok_table_of T) hr1 (pa_cons (pv 1) pa_nil)) (pa_cons (pc (ok_table_of T) hr1 (pa_cons (pv 0) pa_nil)) (pa_cons (pe_fld (pv 1) rfl) pa_nil)))) (pg_tup rfl (pgs_cons (pg_name (i := 2) nd rfl (Or.inl rfl)) (pgs_cons (pg_name (i := 3) nd rfl (Or.inl rfl)) pgs_nil))))
      (pss_one (ps_ret (pe_ifExp (pt_truth (pv 3) (fun _ => rfl)) pe_non (pc (ok_bag_of T) hr (pa_cons (pe_fld (pv 1) rfl) (pa_cons (pv 2) pa_nil)))))))), ?_⟩
    have v1 := vt_canon h1.2
    have cn : canon g = [] ↔ g = [] := canon_nil_iff h1.2.nd (fun p hp => (h1.2.nu p hp).1) v1.nd (fun p hp => (v1.nu p hp).1)
    refine ⟨_, rfl, a, c, canon g, rfl, h1.1, fun hne => ?_, fun he => q1 (cn.mp he)⟩
    have hg0 : g ≠ [] := fun z => hne (cn.mpr z)
    refine ⟨_, rfl, _, rfl, a, b, c, c', _, _, rfl, h1.1, h2.1, fun hcc => ?_, fun hcc => q2 hg0 hcc⟩
    subst hcc
    obtain ⟨uw, q4, q5⟩ := q3 hg0 rfl
    have v1 := vt_canon h1.2
    have v2 := vt_canon h2.2
    obtain ⟨dx, t, eb, wb⟩ := id h2.1
    refine ⟨_, rfl, b, c, canon l, rfl, h2.1, v2.nd, fun D1 hD1 => ?_⟩
    have s1 := same_upd (o := .dK (kv (canon l))) hD1
    refine ⟨_, rfl, a, c, canon g, rfl, h1.1.same s1, v1.nd, fun D2 hD2 => ?_⟩
    have s2 := same_upd (o := .dK (kv (canon g))) hD2
    refine ⟨_, rfl, b, _, dx, _, _, rfl, s2 _ _ (s1 _ _ eb), cls_Bag T, na_Bag_clock T, flds_clock _ _, ?_⟩
    refine ⟨D1, D2, c, canon l, canon g, _, _, _, _, M, U, rfl, hck, s2 _ _ upd_same, upd_same, v2, v1, hk, hkg, hmg, hne, uw_keys uw (canon_key h1.2) (canon_key h2.2), fun H3 p qo le C a1 a2 ops h turn s3 np ep ele eqo hh hmin hinv ht1 htc hops n0 w0 n1 w1 hz => ?_⟩
    have s13 := (s1.trans s2).trans s3
    have hlk := run_lk v1.nd ops hops (canon l) [] v2.nd (show Nd [] from List.nodup_nil)
    generalize runT c 0 ops (canon l) = T0 at ele n0 w0 hz hlk
    generalize runT c 1 ops [] = T1 at eqo n1 w1 hlk
    have hlk2 : Lk c l (prs g (tidyM c T1) ++ tidyM c T0) := by
      have e1 : Lk c (canon l ++ prs (canon g) []) (canon l) := by
        rw [prs_nil_r, List.append_nil]
        exact Lk.refl _ _
      have e2 := (lk_canon h2.2.nd).symm.trans (hlk.trans e1).symm
      refine e2.trans fun x => ?_
      have e3 := Lk.app (Lk.prs (lk_canon h1.2.nd) (lk_tidy (c := c) n1).symm) (lk_tidy (c := c) n0).symm x
      rw [tot_app, tot_app] at e3
      rw [tot_app, tot_app, Int.add_comm]
      exact e3
    have ck : ∀ y, y ∈ (canon g).map (·.1) ↔ y ∈ g.map (·.1) := fun y => by
      rw [rg_key v1.nd (fun p hp => (v1.nu p hp).1), rg_key h1.2.nd (fun p hp => (h1.2.nu p hp).1), canon_num h1.2.nd]
    have hd : Hd c turn h g := ⟨h1.2.nd, (ck h).mp hh, fun y hy => hmin y ((ck y).mpr hy), by rw [canon_num h1.2.nd] at hinv; exact hinv⟩
    have h0 : Tt c (tidyM c T0) := ⟨tidy_nd n0, tidy_rg (by omega)⟩
    have hb : ∀ x ∈ (tidyM c T0).map (·.1), ∀ v, x ≠ h ++ v := fun x hx v e => by
      obtain ⟨p, hp, rfl⟩ := List.mem_map.mp hx
      obtain ⟨p', hp', e1, e2⟩ := tidy_keys hp
      have e3 : p.1 = p'.1 := by rw [e1]
      have h3 := hz p'.1 (List.mem_map.mpr ⟨p', hp', rfl⟩) (by rw [← e3, e]; exact start_has (List.mem_singleton.mpr rfl))
      obtain ⟨j, ej⟩ := List.getElem?_of_mem hp'
      rw [num_of n0 ej] at h3
      rw [h3, Int.zero_emod] at e2
      exact e2 rfl
    refine ⟨p, _, rfl, .inl (.inl ep), rfl, ?_⟩
    refine ⟨_, _, rfl, _, _, rfl, rfl, ?_⟩
    refine ⟨_, rfl, _, .inr (.inr ⟨_, ele, rfl⟩), ?_⟩
    cases et : tidyM c T0 with
    | nil =>
      refine iteF ?_
      rw [et, List.append_nil] at hlk2
      have half := tb_half n1 w1
      have tl := tidy_len (c := c) (l := T1)
      have ul := uw.len
      have um := uw.m
      have vt : VT c M U.length (tidyM c T1) := ⟨tidy_nd n1, tidy_rg (by omega), fun r hr => by
        obtain ⟨r', hr', e, _⟩ := tidy_keys hr
        rw [e]
        exact uw.wl _ (w1 r'.1 (List.mem_map.mpr ⟨r', hr', rfl⟩)), by omega⟩
      refine ⟨_, rfl, b, _, dx, _, _, rfl, s3 _ _ (s2 _ _ (s1 _ _ eb)), cls_Bag T, na_Bag_clock T, flds_clock _ _, ?_⟩
      refine ⟨_, rfl, c, qo, tidyM c T1, rfl, hck, eqo, tidy_nd n1, fun r hr => by have := (vt.wd r hr).2; omega, by omega, fun H4 r s4 n4 hb4 => ?_⟩
      obtain ⟨v3, v4⟩ := vt_again (show 0 < c by omega) vt
      exact q4 H4 r _ (s13.trans s4) (back_none8 s13 n4) ⟨hb4, v3⟩ (hlk2.trans (Lk.prs_r g v4.symm))
    | cons r0 rr =>
      refine iteT ?_
      refine q5 _ s13 fun q hq => ?_
      have := (div_one hc2 hd hlk2 h0 hb hq).1
      rw [et] at this
      cases this
end
end Fp

set_option Elab.async false
set_option linter.all false
set_option maxRecDepth 100000
set_option maxHeartbeats 4000000
namespace Fp
open PySem PySem.Spec PyProof.Rows L2
theorem tb_half12 {m : Nat} {t : Tb} (h : Nd t) (hw : ∀ x ∈ t.map (·.1), xyz x ∧ x.length ≤ m) : 2 * t.length < 3 ^ (m + 1) := by
  have h' : (t.map (·.1)).Nodup := h
  have := List.Nodup.length_le_of_subset h' (fun w hm => allW_mem m w (hw w hm).1 (hw w hm).2)
  rw [List.length_map] at this
  have := allW_half m
  omega
theorem ord_first {l : Tb} (h : l ≠ []) : ∃ x tl, ordW l = x :: tl ∧ x ∈ l.map (·.1) ∧ ∀ y ∈ l.map (·.1), leR x y = true := by
  cases e : ordW l with
  | nil =>
    have := ordW_len l
    rw [e] at this
    exact absurd (List.eq_nil_of_length_eq_zero this.symm) h
  | cons x tl =>
    have hs : (ordW l).Pairwise (fun a b => leR a b = true) := PySem.W.sort_pairwise leR_total _
    rw [e] at hs
    refine ⟨x, tl, rfl, ordW_mem.mp (e ▸ List.mem_cons_self), fun y hy => ?_⟩
    have hm : y ∈ ordW l := ordW_mem.mpr hy
    rw [e] at hm
    rcases List.mem_cons.mp hm with z | z
    · subst z
      rcases leR_total.total y y with z | z <;> exact z
    · exact (List.pairwise_cons.mp hs).1 _ z
/-- words behind some word of L -/
def muL (L : Tb) : Nat := ((allW 12).filter fun w => L.any fun p => leR p.1 w).length
theorem muL_lt {L L' : Tb} {x : Str} (hx : x ∈ L.map (·.1)) (hw : xyz x ∧ x.length ≤ 12) (hL : ∀ y ∈ L.map (·.1), leR x y = true) (h : ∀ y ∈ L'.map (·.1), leR x y = true ∧ x ≠ y) : muL L' < muL L := by
  unfold muL
  have hsub : ∀ w, (L'.any fun p => leR p.1 w) = true → (L.any fun p => leR p.1 w) = true := fun w hw' => by
    obtain ⟨p, hp, e⟩ := List.any_eq_true.mp hw'
    obtain ⟨q, hq, e2⟩ := List.mem_map.mp hx
    refine List.any_eq_true.mpr ⟨q, hq, ?_⟩
    rw [e2]
    exact leR_trans (h p.1 (List.mem_map.mpr ⟨p, hp, rfl⟩)).1 e
  have hxL : (L.any fun p => leR p.1 x) = true := by
    obtain ⟨q, hq, e2⟩ := List.mem_map.mp hx
    refine List.any_eq_true.mpr ⟨q, hq, ?_⟩
    rw [e2]
    rcases leR_total.total x x with z | z <;> exact z
  have hxL' : (L'.any fun p => leR p.1 x) = false := by
    cases e : L'.any fun p => leR p.1 x with
    | false => rfl
    | true =>
      obtain ⟨p, hp, e2⟩ := List.any_eq_true.mp e
      obtain ⟨z1, z2⟩ := h p.1 (List.mem_map.mpr ⟨p, hp, rfl⟩)
      exact absurd (leR_anti z1 e2) z2
  have hmem := allW_mem 12 x hw.1 hw.2
  rw [← List.countP_eq_length_filter, ← List.countP_eq_length_filter]
  clear hx hL h
  generalize allW 12 = W at hmem ⊢
  induction W with
  | nil => cases hmem
  | cons a r ih =>
    have mono : ∀ (r : List Str), r.countP (fun w => L'.any fun p => leR p.1 w) ≤ r.countP (fun w => L.any fun p => leR p.1 w) := fun r => List.countP_mono_left fun w _ => hsub w
    rw [List.countP_cons, List.countP_cons]
    rcases List.mem_cons.mp hmem with e | e
    · subst e
      rw [hxL, hxL']
      have := mono r
      simp
      omega
    · have h1 := ih e
      have h2 := hsub a
      cases e1 : L'.any fun p => leR p.1 a with
      | false =>
        rw [if_neg Bool.false_ne_true]
        split <;> omega
      | true =>
        rw [h2 e1]
        simp
        exact h1
theorem cut_le {z : Str} {k : Nat} : (cutS z none (some (k : Int))).length ≤ z.length := by
  rw [← len_list, ← len_list z]
  unfold cutS
  show (List.take _ (List.drop _ z.cps.toList)).length ≤ _
  rw [List.length_take, List.length_drop]
  omega
theorem key_prod {c : Int} {g : Tb} {v x : Str} {k : Nat} {m : Nat} (hc : 0 < c) (hg : VT c m k g) (hv : xyz v) (hx : x ∈ (prodM c g [(v, 1)]).map (·.1)) (hc2 : 2 ≤ c) : ∃ p ∈ g, x = p.1 ++ v := by
  have v2 : VT c v.length 1 [(v, 1)] := ⟨by show [v].Nodup; simp, fun q hq => by
    have : q = (v, (1 : Int)) := by simpa using hq
    subst this
    exact ⟨by show (1 : Int) ≤ 1; omega, by show (1 : Int) < c; omega⟩, fun q hq => by
    have : q = (v, (1 : Int)) := by simpa using hq
    subst this
    exact ⟨hv, Nat.le_refl _⟩, Nat.le_refl _⟩
  have vp := vt_prodM hc hg v2
  have h1 := (rg_key vp.nd (fun p hp => (vp.nu p hp).1) x).mp hx
  have h2 := lk_prod hc hg v2 x
  by_cases h3 : tot (prs g [(v, 1)]) x = 0
  · rw [tot_num vp.nd, h3, Int.zero_emod, num_mod hc vp] at h2
    exact absurd h2 h1
  · obtain ⟨p, hp, q, hq, e⟩ := prs_key h3
    have : q = (v, (1 : Int)) := by simpa using hq
    subst this
    exact ⟨p, hp, e⟩
def rInt1 : List V → Hp → VK → Prop := fun xs H Q => (∃ i, xs = [.int i] ∧ Q (.int i) H) ∨ ∃ k : Bool, xs = [.bl k] ∧ Q (.int (if k then 1 else 0)) H
section
variable {P : Program} {w : World} {K : PySem.W.Frag} {mg : Str → Option Value} {base : Heap}
def spLD : Sp := fun vs H Q _ => ∃ (c : Int) (f d : Addr) (g l : Tb), vs = [.int c, .ref f, .ref d] ∧ isCk c ∧ H f = some (.dK (kv g)) ∧ H d = some (.dK (kv l)) ∧ VT c 12 300 g ∧ VT c 12 300 l ∧ g ≠ [] ∧
  (∀ (H' : Hp) (r : Addr) (q : Tb), Same H H' → H r = none → H' r = some (.dK (kv q)) → VT c 12 1000000 q → Lk c l (prs g q) → Q (.ref r) H') ∧ (∀ H', Same H H' → (∀ q, ¬ Lk c l (prs g q)) → Q .non H')
abbrev nLD : List Str := ["_law_clock_here", "_law_front", "_law_bag", "_law_lead", "_law_left", "_law_found", "_law_word_here", "_law_number", "_law_k"]
end
end Fp

set_option Elab.async false
set_option linter.all false
set_option maxRecDepth 100000
set_option maxHeartbeats 4000000
namespace Fp
open PySem PySem.Spec PyProof.Rows L2
theorem scl_one (l : Tb) : scl 1 l = l := by
  unfold scl
  have : (fun p : Str × Int => ((p.1, 1 * p.2) : Str × Int)) = id := by
    funext p
    show ((p.1, 1 * p.2) : Str × Int) = p
    rw [Int.one_mul]
  rw [this, List.map_id]
theorem canon_len (l : Tb) : (canon l).length = l.length := by
  unfold canon
  rw [List.length_map, ordW_len]
/-- one table laid to another one, tidied -/
theorem vt_sum {c f : Int} {m k m' k' : Nat} {l l' : Tb} (hc : 0 < c) (h : VT c m k l) (h' : VT c m' k' l') : VT c (max m m') (k + k') (tidyM c (addT (scl f l') l)) ∧ Lk c (tidyM c (addT (scl f l') l)) (l ++ scl f l') := by
  have n1 := nd_addT (scl f l') l h.nd
  refine ⟨(vt_tidy (m := max m m') hc n1 fun p hp => ?_).mono (Nat.le_refl _) ?_, (lk_tidy n1).trans (lk_addT h.nd)⟩
  · rcases key_addT _ _ p hp with ⟨q, h1, h2⟩ | ⟨q, h1, h2⟩
    · rw [← h2]
      have := h.wd q h1
      exact ⟨this.1, by omega⟩
    · unfold scl at h1
      obtain ⟨r, h3, rfl⟩ := List.mem_map.mp h1
      rw [← h2]
      have := h'.wd r h3
      exact ⟨this.1, by show r.1.length ≤ _; omega⟩
  · have := len_addT (scl f l') l
    rw [scl_len] at this
    have := h.ln
    have := h'.ln
    omega
/-- one table behind another one, tidied -/
theorem vt_mul {c : Int} {m k m' k' : Nat} {l l' : Tb} (hc : 0 < c) (h : VT c m k l) (h' : VT c m' k' l') : VT c (m + m') (k * k') (tidyM c (multT l l')) ∧ Lk c (tidyM c (multT l l')) (prs l l') := by
  have n1 : Nd (multT l l') := nd_addT _ _ (show Nd [] from List.nodup_nil)
  have e : Lk c (multT l l') (prs l l') := lk_addT (a := []) (show Nd [] from List.nodup_nil)
  refine ⟨(vt_tidy (m := m + m') hc n1 fun p hp => ?_).mono (Nat.le_refl _) ?_, (lk_tidy n1).trans e⟩
  · rcases key_addT _ _ p hp with ⟨q, h1, h2⟩ | ⟨q, h1, h2⟩
    · cases h1
    · unfold prs at h1
      obtain ⟨r, h3, h4⟩ := List.mem_flatMap.mp h1
      obtain ⟨s, h5, rfl⟩ := List.mem_map.mp h4
      rw [← h2]
      have a1 := h.wd r h3
      have a2 := h'.wd s h5
      refine ⟨xyz_app a1.1 a2.1, ?_⟩
      show (r.1 ++ s.1).length ≤ _
      rw [len_app]
      omega
  · have := len_addT (prs l l') []
    rw [prs_len] at this
    have b4 : ([] : Tb).length = 0 := rfl
    have b5 : l.length * l'.length ≤ k * k' := Nat.mul_le_mul h.ln h'.ln
    unfold multT
    omega
section
variable {P : Program} {w : World} {K : PySem.W.Frag} {mg : Str → Option Value} {base : Heap}
def spTog (K : PySem.W.Frag) : Sp := fun vs H Q E => ∃ (a b : Addr) (c c' : Int) (m k m' k' : Nat) (l l' : Tb), vs = [.ref a, .ref b] ∧ Bg K H a c m k l ∧ Bg K H b c' m' k' l' ∧ isCk c ∧ m ≤ 1000 ∧ m' ≤ 1000 ∧ k + k' ≤ 400000 ∧
  (c = c' → ∀ H' r t, Same H H' → H r = none → Bg K H' r c (max m m') (k + k') t → Lk c t (l ++ l') → Q (.ref r) H') ∧ (c ≠ c' → E (.ref (He.ga K "UnlikeClocks")) none H)
abbrev nTog : List Str := ["one", "other"]
def spBeh (K : PySem.W.Frag) : Sp := fun vs H Q E => ∃ (a b : Addr) (c c' : Int) (m k m' k' : Nat) (l l' : Tb), vs = [.ref a, .ref b] ∧ Bg K H a c m k l ∧ Bg K H b c' m' k' l' ∧ isCk c ∧ m ≤ 1000 ∧ m' ≤ 1000 ∧ k * k' ≤ 900000 ∧
  (c = c' → ∀ H' r t, Same H H' → H r = none → Bg K H' r c (m + m') (k * k') t → Lk c t (prs l l') → Q (.ref r) H') ∧ (c ≠ c' → E (.ref (He.ga K "UnlikeClocks")) none H)
/-! ### powers -/
theorem vt_unit {c : Int} (hc : 2 ≤ c) (m : Nat) : VT c m 1 [("", 1)] := ⟨by show [(("" : Str))].Nodup; simp, fun q hq => by
    have : q = (("" : Str), (1 : Int)) := by simpa using hq
    subst this
    exact ⟨by decide, by show (1 : Int) < c; omega⟩, fun q hq => by
    have : q = (("" : Str), (1 : Int)) := by simpa using hq
    subst this
    exact ⟨by decide +kernel, Nat.zero_le _⟩, Nat.le_refl _⟩
end
end Fp

set_option Elab.async false
set_option linter.all false
set_option maxRecDepth 100000
set_option maxHeartbeats 4000000
namespace Fp
open PySem PySem.Spec PyProof.Rows L2
theorem vt_scl {c f : Int} {m k : Nat} {l : Tb} (hc : 0 < c) (h : VT c m k l) : VT c m k (tidyM c (scl f l)) ∧ Lk c (tidyM c (scl f l)) (scl f l) := by
  have n1 := scl_nd (f := f) h.nd
  refine ⟨(vt_tidy hc n1 fun p hp => ?_).mono (Nat.le_refl _) (by rw [scl_len]; exact h.ln), lk_tidy n1⟩
  unfold scl at hp
  obtain ⟨q, hq, rfl⟩ := List.mem_map.mp hp
  exact h.wd q hq
section
variable {P : Program} {w : World} {K : PySem.W.Frag} {mg : Str → Option Value} {base : Heap}
def spTimes (K : PySem.W.Frag) : Sp := fun vs H Q _ => ∃ (a : Addr) (n c : Int) (m k : Nat) (l : Tb), vs = [.ref a, .int n] ∧ Bg K H a c m k l ∧ isCk c ∧ m ≤ 100000 ∧ k ≤ 900000 ∧
  ∀ H' r t, Same H H' → H r = none → Bg K H' r c m k t → Lk c t (scl n l) → Q (.ref r) H'
abbrev nTimes : List Str := ["bag", "number"]
end
end Fp

set_option Elab.async false
set_option linter.all false
set_option maxRecDepth 100000
set_option maxHeartbeats 2000000
/-! a text told backward: s[::-1] -/
namespace L2
open PySem PySem.Spec PyProof.Rows
def revS (z : Str) : Str := ⟨z.cps.toList.reverse.toArray⟩
theorem revS_len (z : Str) : (revS z).length = z.length := by
  show (z.cps.toList.reverse.toArray).size = z.cps.size
  simp
theorem rev_ix (z : Str) : ((Builtin.Str.strSliceIndices none none (-1) z.length).filterMap (z.cps[·]?)).toArray = (revS z).cps := by
  show ((sliceRange ((z.cps.size : Int) - 1) (-1) (-1)).filterMap (z.cps[·]?)).toArray = _
  rw [PySem.W.krv_sliceRange, PySem.W.krv_range, List.filterMap_reverse, PySem.W.krv_all]
  rfl
def tRevS (te : TE) : TE := fun σ H Q => te σ H fun x H1 => ∃ z, x = .str z ∧ z.length ≤ sizeLine ∧ Q (.str (revS z)) H1
theorem pe_revS {X : Cx} {e : Expr} {te : TE} {k : Nat} {p1 p2 p3 pos : Pos} (he : PE X e te) : PE X (.Subscript e (.Slice none none (some (.UnaryOp .USub (.Constant (.int 1) k p1) p2)) p3) pos) (tRevS te) := by
  refine ⟨fun pins s σ H Q I h => ?_⟩
  refine Subscript_ (thn (he.run pins s σ H _ I h) fun v s1 ⟨x, H1, I1, r1, q1⟩ => ?_)
  obtain ⟨z, ex, hz, q⟩ := q1
  subst ex
  obtain ⟨t, rfl⟩ := r1
  have hst : PO X (some (.UnaryOp .USub (.Constant (.int 1) k p1) p2)) (tPart (tUn (rU fun i => .int (-i)) (tC (.int 1)))) := po_some (pe_un un_neg pe_int)
  refine wpAny_Slice (thn (po_none.run pins s1 σ H1 (fun o H2 => o = none ∧ H2 = H1) I1 ⟨rfl, rfl⟩) fun vl s2 ⟨l, H2, I2, pl, el, e2⟩ => ?_)
  subst el e2
  refine thn (po_none.run pins s2 σ H2 (fun o H3 => o = none ∧ H3 = H2) I2 ⟨rfl, rfl⟩) fun vu s3 ⟨u, H3, I3, pu, eu, e3⟩ => ?_
  subst eu e3
  refine thn (hst.run pins s3 σ H3 (fun o H4 => o = some (-1) ∧ H4 = H3) I3 ⟨1, rfl, -1, rfl, rfl, rfl⟩) fun vs s4 ⟨o, H4, I4, ps, eo, e4⟩ => ?_
  subst eo e4
  have I5 : Inv X pins σ H4 { s4 with heap := s4.heap.push { cls := .type "slice", data := .fields #[vl, vu, vs] } } := I4.kept (t' := s4.toks) fun b ob q => Heap.get?_push_of_some _ q
  obtain ⟨l, rfl, hl⟩ := IsPart.raw pl
  obtain ⟨u, rfl, hu⟩ := IsPart.raw pu
  obtain ⟨st, rfl, hst'⟩ := IsPart.raw ps
  show wpAny (model X.prog X.w) X.A (subscriptTail e (.Slice none none (some (.UnaryOp .USub (.Constant (.int 1) k p1) p2)) p3) (.str z t) (.ref s4.heap.objs.size)) (EP X pins σ Q) X.xe { s4 with heap := s4.heap.push { cls := .type "slice", data := .fields #[partValue l, partValue u, partValue st] } }
  refine tail_any (ops := [.str z t, .ref s4.heap.objs.size]) (typeIs_str _ z t) (F.slot_str_getitem.lookup) ?_ (by with_unfolding_all rfl)
  refine wpAny_getItem_str_slice (l := l) (u := u) (st := st) ⟨_, Heap.get?_push_size _ rfl, rfl, rfl⟩ (by rw [hst'] <;> rfl) ?_
  have e1 : (st.map (·.1)).getD 1 = -1 := by rw [hst'] <;> rfl
  show Made.post (if (((st.map (·.1)).getD 1) == 1 && (Builtin.Str.strSliceIndices (l.map (·.1)) (u.map (·.1)) ((st.map (·.1)).getD 1) z.length).length == z.length) = true then Made.val (.str z t)
    else Made.str ⟨((Builtin.Str.strSliceIndices (l.map (·.1)) (u.map (·.1)) ((st.map (·.1)).getD 1) z.length).filterMap (z.cps[·]?)).toArray⟩) (EP X pins σ Q) _
  rw [e1, hl, hu, if_neg (by simp), rev_ix]
  refine ⟨?_, .str _, H4, I5.tok _, ⟨_, rfl⟩, q⟩
  show (revS z).length ≤ sizeLine
  rw [revS_len]
  exact hz
end L2

set_option Elab.async false
set_option linter.all false
set_option maxRecDepth 100000
set_option maxHeartbeats 4000000
namespace Fp
open PySem PySem.Spec PyProof.Rows L2
/-! ### words told backward -/
theorem cps_app (u v : Str) : (u ++ v).cps.toList = u.cps.toList ++ v.cps.toList := by
  show (u.cps ++ v.cps).toList = _
  exact Array.toList_append
theorem revS_cps (u : Str) : (revS u).cps.toList = u.cps.toList.reverse := rfl
theorem revS_revS (u : Str) : revS (revS u) = u := PySem.W.str_of_cps (by rw [revS_cps, revS_cps, List.reverse_reverse])
theorem revS_app (u v : Str) : revS (u ++ v) = revS v ++ revS u := PySem.W.str_of_cps (by rw [revS_cps, cps_app, cps_app, revS_cps, revS_cps, List.reverse_append])
theorem revS_inj {u v : Str} (h : revS u = revS v) : u = v := by rw [← revS_revS u, h, revS_revS]
theorem xyz_rev {u : Str} (h : xyz u) : xyz (revS u) := fun c hc => h c (by rw [revS_cps] at hc; exact List.mem_reverse.mp hc)
def revT (l : Tb) : Tb := l.map fun p => (revS p.1, p.2)
theorem revT_cons (p : Str × Int) (l : Tb) : revT (p :: l) = (revS p.1, p.2) :: revT l := rfl
theorem revT_revT (l : Tb) : revT (revT l) = l := by
  unfold revT
  rw [List.map_map]
  have : ((fun p : Str × Int => ((revS p.1, p.2) : Str × Int)) ∘ fun p : Str × Int => ((revS p.1, p.2) : Str × Int)) = id := by
    funext p
    show ((revS (revS p.1), p.2) : Str × Int) = p
    rw [revS_revS]
  rw [this, List.map_id]
theorem revT_tot (l : Tb) (x : Str) : tot (revT l) x = tot l (revS x) := by
  induction l with
  | nil => rfl
  | cons p r ih =>
    rw [revT_cons, tot_cons, tot_cons, ih]
    by_cases h : p.1 = revS x
    · rw [if_pos h, if_pos (show revS p.1 = x by rw [h, revS_revS])]
    · rw [if_neg h, if_neg (show ¬ revS p.1 = x from fun z => h (by rw [← z, revS_revS]))]
theorem Lk.rev {c : Int} {l l' : Tb} (h : Lk c l l') : Lk c (revT l) (revT l') := fun x => by rw [revT_tot, revT_tot, h]
theorem revT_app (l m : Tb) : revT (l ++ m) = revT l ++ revT m := List.map_append
theorem revT_fwd (p : Str × Int) (m : Tb) : revT (fwd p m) = bwd (revS p.1, p.2) (revT m) := by
  unfold revT fwd bwd
  rw [List.map_map, List.map_map]
  apply List.map_congr_left
  intro q _
  show ((revS (p.1 ++ q.1), p.2 * q.2) : Str × Int) = (revS q.1 ++ revS p.1, q.2 * p.2)
  rw [revS_app, Int.mul_comm]
theorem revT_prs (l m : Tb) (x : Str) : tot (revT (prs l m)) x = tot (prs (revT m) (revT l)) x := by
  induction l with
  | nil =>
    show tot (revT []) x = tot (prs (revT m) []) x
    rw [prs_nil_r]
    rfl
  | cons p r ih =>
    rw [revT_cons, tot_prs_cons_r, prs_cons, revT_app, tot_app, ih]
    congr 1
    show tot (revT (fwd p m)) x = _
    rw [revT_fwd]
theorem revT_nd {l : Tb} (h : Nd l) : Nd (revT l) := by
  unfold Nd revT
  rw [List.map_map]
  show (l.map (revS ∘ fun p => p.1)).Nodup
  rw [← List.map_map]
  exact List.Pairwise.map revS (fun a b hab z => hab (revS_inj z)) h
theorem vt_rev {c : Int} {m k : Nat} {l : Tb} (h : VT c m k l) : VT c m k (revT l) :=
  ⟨revT_nd h.nd, fun p hp => by
    obtain ⟨q, hq, rfl⟩ := List.mem_map.mp hp
    exact h.nu q hq, fun p hp => by
    obtain ⟨q, hq, rfl⟩ := List.mem_map.mp hp
    refine ⟨xyz_rev (h.wd q hq).1, ?_⟩
    show (revS q.1).length ≤ m
    rw [revS_len]
    exact (h.wd q hq).2, by
    unfold revT
    rw [List.length_map]
    exact h.ln⟩
theorem revT_take {l : Tb} {i : Nat} {p : Str × Int} (e : l[i]? = some p) : revT (l.take (i + 1)) = revT (l.take i) ++ [(revS p.1, p.2)] := by
  rw [List.take_add_one, e, revT_app]
  rfl
/-! ### sums over words -/
end Fp

set_option Elab.async false
set_option linter.all false
set_option maxRecDepth 100000
set_option maxHeartbeats 2000000
/-! y = {k: v for ..}, y a name of the def -/
namespace L2
open PySem PySem.Spec PyProof.Rows
section
variable {X : Cx}
theorem sw_dict {ke ve : Expr} {cs : List Comprehension} {sco : Scope} {q qy : Pos} {nm : Str} {ln : Nat} {en : Env} (h1 : en.scope.kind = .function) (h2 : en.scope.names.lookup nm = some .local) (h3 : (qy.line == q.line) = true)
    (h4 : (sco.names.any fun (a, b) => a == nm && (b == .local || b == .cell)) = false) : swapsWith (.DictComp ke ve cs sco q) (some (.Name nm qy)) ln en = pure true := by
  have f1 : en.kindOf nm = some .local := h2
  have f2 : en.blockKind = .function := by unfold Env.blockKind; rw [h1] <;> rfl
  unfold swapsWith
  simp only [f1, f2, h4, h3, Expr.pos]
  rfl
theorem ps_setDc {j : Nat} {nm : Str} {qy : Pos} {ke ve tgt itr : Expr} {conds : List Expr} {sco : Scope} {mine : List (Str × Nat)} {q sq : Pos} {ti : TI} {tg : TG} {tc : TT} {t1 t2 : TE} (calm : X.calm = true) (nN : X.N.Nodup) (at_ : X.N[j]? = some nm) (loc : X.env.scope.names.lookup nm = some .local)
    (sw : swapsWith (.DictComp ke ve [⟨tgt, itr, conds, 0⟩] sco q) (some (.Name nm qy)) sq.line X.env = pure true) (pi : PI X tgt itr ti) (bo : BlkOk X.N X.env.scope sco mine)
    (g1 : ∀ (s : Shared) (H : Hp) (C : Addr) (cl : List (Str × Addr)) (fp : List Addr), PG (X.blk s H sco (compEnvC sco cl C X.env) fp) tgt tg) (g2 : ∀ (s : Shared) (H : Hp) (C : Addr) (cl : List (Str × Addr)) (fp : List Addr), PTs (X.blk s H sco (compEnvC sco cl C X.env) fp) conds tc)
    (g3 : ∀ (s : Shared) (H : Hp) (C : Addr) (cl : List (Str × Addr)) (fp : List Addr), PE (X.blk s H sco (compEnvC sco cl C X.env) fp) ke t1) (g4 : ∀ (s : Shared) (H : Hp) (C : Addr) (cl : List (Str × Addr)) (fp : List Addr), PE (X.blk s H sco (compEnvC sco cl C X.env) fp) ve t2)
    (fo : ∀ y, foldedSetIterable itr X.env y = pure y := by intro _; rfl) :
    PS X (.Assign [.Name nm qy] (.DictComp ke ve [⟨tgt, itr, conds, 0⟩] sco q) sq) (tAsg (tDc ti tg tc t1 t2 (mine.map (·.2))) (gName j)) := by
  constructor
  intro pn st sl hp ends inv rd
  rw [exec_Assign_Name_used _ _ _ _ sw]
  refine wpAny_bind (wpAny_standAt ?_)
  refine wpAny_bind ?_
  show wpAny _ X.A (do let _ ← comprehension (.DictComp ke ve [⟨tgt, itr, conds, 0⟩] sco q) sco X.env (firstIterPos [⟨tgt, itr, conds, 0⟩] q) newDict false (eval itr X.env) (some (assign (.Name nm qy) X.env))) _ _ st
  have rd' : tDc ti tg tc t1 t2 (mine.map (·.2)) sl hp (fun x H1 => gName j x sl H1 ends.nx) := rd
  refine wpAny_bind (thn (dc_core (Qf := fun _ st' => SP X pn ends .next st') calm nN inv pi bo g1 g2 g3 g4 fo rd' fun D C st1 mm hp1 inv1 q1 ns fr => ?_) fun _ st' hq => ?_)
  · show wpAny _ _ (assign (.Name nm qy) X.env (.ref D)) _ _ _
    refine wpAny_assign_Name (store_ok2 (v := V.ref D) inv1 nN at_ (.inl loc) rfl (fun st2 inv2 ⟨b, sb, hb⟩ => ?_) (.inr loc))
    obtain ⟨a0, a1, a2, a3, a4, a5⟩ := fr
    have cb : C ≠ b := by
      rcases hb with z | z
      · rw [z]
        exact a1
      · exact fun e => a4 nm b z e.symm
    refine ⟨mm, ns.sameBut sb cb, fun h3 sb3 => ⟨_, hp1, inv2.turned (t' := st2.toks) (fun b o nb e => (sb3.2 b nb).trans e) a0 a1 a3 a4 a5, q1⟩⟩
  · exact wpAny_pure (wpAny_pure hq)
end
end L2

set_option Elab.async false
set_option linter.all false
set_option maxRecDepth 100000
set_option maxHeartbeats 4000000
namespace Fp
open PySem PySem.Spec PyProof.Rows L2
section
variable {P : Program} {w : World} {K : PySem.W.Frag} {mg : Str → Option Value} {base : Heap}
theorem nd_prefix_has {l : Tb} (h : Nd l) {i : Nat} {p : Str × Int} (e : l[i]? = some p) : has (l.take i) p.1 = false := by
  cases z : has (l.take i) p.1 with
  | false => rfl
  | true =>
    exfalso
    have h1 : Nd (l.take (i + 1)) := by
      unfold Nd
      rw [List.map_take]
      exact (List.take_sublist _ _).nodup h
    unfold Nd at h1
    rw [List.take_add_one, e, List.map_append] at h1
    exact (List.nodup_append.mp h1).2.2 p.1 (has_iff.mp z) p.1 (by simp) rfl
def spMir (K : PySem.W.Frag) : Sp := fun vs H Q _ => ∃ (a : Addr) (c : Int) (m k : Nat) (l : Tb), vs = [.ref a] ∧ Bg K H a c m k l ∧ isCk c ∧ m ≤ 100000 ∧ k ≤ 1000000 ∧
  ∀ H' b t, Same H H' → H b = none → Bg K H' b c m k t → Lk c t (revT l) → Q (.ref b) H'
abbrev nMir : List Str := ["bag", "word", "number"]
theorem sc_mirrored : FnScope nMir ["bag"] (defScope s_mirrored) := ⟨rfl, rfl, rfl, by decide +kernel, rfl, by decide +kernel, by decide +kernel⟩
theorem ok_mirrored (T : Top K mg) : Ok P w K mg base 8 "mirrored" ["bag"] (spMir K) := by
  obtain ⟨fd, F⟩ := fn_mirrored T
  refine ⟨⟨fd, ?_, F.bindsN fun _ _ _ _ _ _ us hl => match us, hl with | [_], _ => rfl⟩, g_mirrored T, F.kp⟩
  refine F.ok sc_mirrored (fun vs H Q E h => ?_) (fun cdv A outer s H vs Q E hr h => ?_)
  · obtain ⟨a, c, m, k, l, rfl, _⟩ := h
    rfl
  · obtain ⟨a, c, m, k, l, rfl, hb, hck, hm, hk, q⟩ := h
    have nd := sc_mirrored.nd
    have hs : sizeLine = 16777216 := sizeLine_eq
    obtain ⟨hc2, hc7⟩ := ck_range hck
    have hc0 : 0 < c := by omega
    obtain ⟨dx, t, ea, wt⟩ := id hb.1
    have vc := vt_canon hb.2
    have vr := vt_rev vc
    obtain ⟨ps, o, e1, e2, e3⟩ := WordsAt.get wt
    refine ⟨_, PSs.nox (pss_one (ps_ret (pc (ok_bag_of T) hr (pa_cons (pe_fld (pv 0) rfl) (pa_cons (pe_dc (own := [("word", 1), ("number", 2)]) (g := gPair K 1 2) (tt := tYes) (tk := tRevS (tVar 1)) (tv := tVar 2) rfl nd (pi_tup (pe_fld (pv 0) rfl)) (blkOk_by (N := nMir) (sc := defScope s_mirrored) (by decide +kernel))
        (fun _ _ _ _ _ => pg_tup rfl (pgs_cons (pg_name (i := 1) nd rfl (Or.inl rfl)) (pgs_cons (pg_name (i := 2) nd rfl (Or.inl rfl)) pgs_nil)))
        (fun _ _ _ _ _ => by exact pts_nil) (fun _ _ _ _ _ => by exact pe_revS (pv 1)) (fun _ _ _ _ _ => pv 2)) pa_nil))))), ?_⟩
    refine ⟨_, rfl, a, _, dx, _, _, rfl, ea, cls_Bag T, na_Bag_clock T, flds_clock _ _, ?_⟩
    refine ⟨_, rfl, a, _, dx, _, _, rfl, ea, cls_Bag T, na_Bag_words T, flds_words _ _, ?_⟩
    refine ⟨t, rfl, ⟨_, .inl (.inr ⟨o, e1⟩)⟩, fun D hD => ?_⟩
    refine dc_it (walk_tup (xs := ps.map V.ref)) (fun i H' => H' D = some (.dK (kv (revT ((canon l).take i)))) ∧ Same H H') ⟨upd_same, same_upd hD⟩ (fun i H' _ hP => .inl (.inr ⟨o, hP.2 _ _ e1⟩)) ?_ ?_
    · rintro i x H1 H2 hi ⟨p1, p2⟩ ⟨rfl, e⟩
      rw [List.length_map, e2] at hi
      have ep : (canon l)[i]? = some (canon l)[i] := List.getElem?_eq_getElem hi
      generalize (canon l)[i] = p at ep
      obtain ⟨b, h1, h2⟩ := e3 i p ep
      rw [List.getElem?_map, h1] at e
      have e5 : V.ref b = x := Option.some.inj e
      subst e5
      have hp : p ∈ canon l := List.mem_of_getElem? ep
      have hw := (vc.wd p hp).2
      have hil : i < 1000000 := Nat.lt_of_lt_of_le hi (Nat.le_trans vc.ln hk)
      refine ⟨b, _, rfl, .inl (.inl (p2 _ _ h2)), rfl, ?_⟩
      refine ⟨_, _, rfl, _, _, rfl, rfl, rfl, ?_⟩
      have hh : has (revT ((canon l).take i)) (revS p.1) = false := by
        rw [← Bool.not_eq_true, has_iff]
        intro hm'
        obtain ⟨q0, h3, h4⟩ := List.mem_map.mp hm'
        obtain ⟨q1, h5, rfl⟩ := List.mem_map.mp h3
        have h6 : has ((canon l).take i) p.1 = true := has_iff.mpr (List.mem_map.mpr ⟨q1, h5, revS_inj h4⟩)
        rw [nd_prefix_has vc.nd ep] at h6
        cases h6
      refine ⟨_, rfl, _, rfl, by omega, _, rfl, _, Sum.inr (revS p.1), rfl, p1, ?_, ?_, fun y u z => ?_⟩
      · rw [kv_len]
        unfold revT
        rw [List.length_map, List.length_take]
        omega
      · rw [upd_same, putK_kv, revT_take ep]
        unfold putT
        rw [hh, if_neg Bool.false_ne_true]
      · rw [upd_ne (ne_of_none z hD)]
        exact p2 y u z
    · rintro H' ⟨p1, p2⟩
      rw [List.length_map, e2, List.take_length] at p1
      obtain ⟨w3, w4⟩ := vt_again hc0 vr
      refine ⟨c, D, _, rfl, hck, p1, vr.nd, fun p hp => Nat.le_trans (vr.wd p hp).2 (by omega), Nat.le_trans vr.ln (by omega), fun H4 b s4 n4 hb4 => ?_⟩
      exact q H4 b _ (p2.trans s4) (p2.free n4) ⟨hb4, w3⟩ (w4.trans (Lk.rev (lk_canon hb.2.nd)))
end
end Fp

set_option Elab.async false
set_option linter.all false
set_option maxRecDepth 100000
set_option maxHeartbeats 4000000
namespace L2
open PySem PySem.Spec PyProof.Rows
section
variable {X : Cx}
theorem PE.weak {e : Expr} {t t' : TE} (h : PE X e t) (w : ∀ σ H Q, t' σ H Q → t σ H Q) : PE X e t' := ⟨fun pins s σ H Q I hw => h.run pins s σ H Q I (w σ H Q hw)⟩
theorem PS.weak {e : Stmt} {t t' : TS} (h : PS X e t) (w : ∀ D σ H, t' D σ H → t D σ H) : PS X e t' := ⟨fun pins s σ H D I hw => h.run pins s σ H D I (w D σ H hw)⟩
theorem PSs.weak {e : List Stmt} {t t' : TS} (h : PSs X e t) (w : ∀ D σ H, t' D σ H → t D σ H) : PSs X e t' := ⟨fun pins s σ H D I hw => h.run pins s σ H D I (w D σ H hw)⟩
def rNeP (K : PySem.W.Frag) : R2 := fun x y H Q => ∃ d e, Dp K H x d ∧ Dp K H y e ∧ d.plain = true ∧ e.plain = true ∧ d.depth ≤ 64 ∧ Q (.bl (!PyData.eqv d e)) H
theorem op_neP (hu : X.A.units + 64 < cLine) : OpR X (compareOp .NotEq) (rNeP X.K) := by
  intro pins s σ H x y v u Q I rx ry h
  obtain ⟨d, e, hd, he, sd, se, hdp, q⟩ := h
  obtain ⟨as, r1⟩ := Dp.reads I d x v hd rx
  obtain ⟨bs, r2⟩ := Dp.reads I e y u he ry
  exact SeqAt.ne_plain r1 r2 sd se (by omega) ⟨.bl _, H, I, rfl, q⟩
end
end L2
namespace Fp
open PySem PySem.Spec PyProof.Rows L2
theorem head_of {c : Int} {m k : Nat} {g : Tb} (hck : isCk c) (vg : VT c m k g) (hne : g ≠ []) : ∃ turn h, Hd c turn h g := by
  obtain ⟨hc2, hc7⟩ := ck_range hck
  obtain ⟨h, tl, eo, hh, hmin⟩ := ord_first hne
  have hgn : 1 ≤ num g h ∧ num g h < c := by
    obtain ⟨p, hp, e⟩ := List.mem_map.mp hh
    obtain ⟨j, ej⟩ := List.getElem?_of_mem hp
    rw [← e, num_of vg.nd ej]
    exact vg.nu p hp
  obtain ⟨nsv, _, hinv⟩ := inv_get hck
  obtain ⟨tn, _, _, _, hti⟩ := hinv (num g h).toNat (by omega)
  have hti := (hti (by omega)).1
  rw [Int.toNat_of_nonneg (by omega)] at hti
  exact ⟨tn, h, vg.nd, hh, hmin, hti⟩
/-- one quotient only -/
theorem quot_one {c : Int} {m k : Nat} {g l q r : Tb} (hck : isCk c) (vg : VT c m k g) (hne : g ≠ []) (e : Lk c l (prs g q)) (f : Lk c l (prs g r)) : Lk c q r := by
  obtain ⟨turn, h, hd⟩ := head_of hck vg hne
  refine (div_one (T0 := []) (ck_range hck).1 hd (by rw [List.append_nil]; exact e) ⟨List.nodup_nil, fun p hp => by cases hp⟩ (fun x hx => by cases hx) f).2
theorem revT_prs_lk {c : Int} (l m : Tb) : Lk c (revT (prs l m)) (prs (revT m) (revT l)) := fun x => by rw [revT_prs]
theorem revT_ne {l : Tb} (h : l ≠ []) : revT l ≠ [] := fun z => h (by
  have := congrArg revT z
  rw [revT_revT] at this
  exact this)
/-- not nothing by the clock -/
theorem lk_ne {c : Int} {m k m' k' : Nat} {l t : Tb} (hc : 0 < c) (vl : VT c m k l) (vt : VT c m' k' t) (e : Lk c t l) (h : l ≠ []) : t ≠ [] := fun z => by
  have e2 := lk_same hc vt vl e
  subst z
  have := congrArg List.length e2
  rw [canon_len, canon_len] at this
  exact h (List.eq_nil_of_length_eq_zero this.symm)
theorem quot_one_r {c : Int} {m k : Nat} {g l q r : Tb} (hck : isCk c) (vg : VT c m k g) (hne : g ≠ []) (e : Lk c l (prs q g)) (f : Lk c l (prs r g)) : Lk c q r := by
  have h := quot_one hck (vt_rev vg) (revT_ne hne) ((Lk.rev e).trans (revT_prs_lk q g)) ((Lk.rev f).trans (revT_prs_lk r g))
  have := Lk.rev h
  rw [revT_revT, revT_revT] at this
  exact this
section
variable {P : Program} {w : World} {K : PySem.W.Frag} {mg : Str → Option Value} {base : Heap}
theorem Bg.as {H : Hp} {b : Addr} {c : Int} {m k m' k' : Nat} {l l' : Tb} (hc : 0 < c) (h : Bg K H b c m k l) (v : VT c m' k' l') (e : Lk c l l') : Bg K H b c m' k' l' := ⟨lk_same hc h.2 v e ▸ h.1, v⟩
theorem rest_rd {H : Hp} {a b : Addr} {c : Int} {g l : Tb} {m k mg kg : Nat} {Q : VK} {E : XK} (h1 : Bg K H a c mg kg g) (h2 : Bg K H b c m k l) (hck : isCk c) (hk : k ≤ 2500) (hkg : kg ≤ 100000) (hmg : mg ≤ 1000) (hm : m ≤ 1000) (hn : k + k * ((m + 1) * (kg + 1)) ≤ 1000000) (hne : g ≠ [])
    (q1 : ∀ (H' : Hp) (r : Addr) (q : Tb), Same H H' → H r = none → Bg K H' r c m (k + k * ((m + 1) * (kg + 1))) q → Lk c l (prs g q) → Q (.ref r) H') (q2 : ∀ H', Same H H' → (∀ q, ¬ Lk c l (prs g q)) → Q .non H') : spRest K [.ref a, .ref b] H Q E :=
  ⟨a, b, c, c, g, l, m, k, mg, kg, m, sufU g l m, rfl, h1, h2, hck, hk, hkg, hmg, fun z => absurd z hne, fun _ z => absurd rfl z, fun _ _ => ⟨uw_suf h2.2 h1.2 hm hn, fun H' r q s n hb hq => q1 H' r q s n (hb.mono (Nat.le_refl _) (sufU_le h2.2 h1.2)) hq, q2⟩⟩
theorem rest_some {H : Hp} {a b : Addr} {c : Int} {g l q0 : Tb} {m k mg kg m0 k0 : Nat} {Q : VK} {E : XK} (h1 : Bg K H a c mg kg g) (h2 : Bg K H b c m k l) (hck : isCk c) (hk : k ≤ 2500) (hkg : kg ≤ 100000) (hmg : mg ≤ 1000) (hm : m ≤ 1000) (hn : k + k * ((m + 1) * (kg + 1)) ≤ 1000000) (hne : g ≠ [])
    (v0 : VT c m0 k0 q0) (e : Lk c l (prs g q0)) (q1 : ∀ (H' : Hp) (r : Addr), Same H H' → H r = none → Bg K H' r c m0 k0 q0 → Q (.ref r) H') : spRest K [.ref a, .ref b] H Q E :=
  rest_rd h1 h2 hck hk hkg hmg hm hn hne (fun H' r q s n hb hq => q1 H' r s n (hb.as (by have := (ck_range hck).1; omega) v0 (quot_one hck h1.2 hne hq e))) fun H' s hno => absurd e (hno q0)
def spAhead (K : PySem.W.Frag) : Sp := fun vs H Q _ => ∃ (a b : Addr) (c : Int) (l g : Tb) (m k mg kg : Nat), vs = [.ref a, .ref b] ∧ Bg K H a c m k l ∧ Bg K H b c mg kg g ∧ isCk c ∧ k ≤ 2500 ∧ kg ≤ 100000 ∧ mg ≤ 1000 ∧ m ≤ 1000 ∧ k + k * ((m + 1) * (kg + 1)) ≤ 1000000 ∧ g ≠ [] ∧
  (∀ (H' : Hp) (r : Addr) (q : Tb), Same H H' → H r = none → Bg K H' r c m (k + k * ((m + 1) * (kg + 1))) q → Lk c l (prs q g) → Q (.ref r) H') ∧ (∀ H', Same H H' → (∀ q, ¬ Lk c l (prs q g)) → Q .non H')
abbrev nAhead : List Str := ["bag", "back", "found"]
theorem sc_Ahead : FnScope nAhead ["bag", "back"] (defScope s_rest_ahead) := ⟨rfl, rfl, rfl, by decide +kernel, rfl, by decide +kernel, by decide +kernel⟩
theorem ok_Ahead (T : Top K mg) : Ok P w K mg base 9 "rest_ahead" ["bag", "back"] (spAhead K) := by
  obtain ⟨fd, F⟩ := fn_rest_ahead T
  refine ⟨⟨fd, ?_, F.bindsN fun _ _ _ _ _ _ us hl => match us, hl with | [_, _], _ => rfl⟩, g_rest_ahead T, F.kp⟩
  refine F.ok sc_Ahead (fun vs H Q E h => ?_) (fun cdv A outer s H vs Q E hr h => ?_)
  · obtain ⟨a, b, c, l, g, m, k, mg, kg, rfl, _⟩ := h
    rfl
  · obtain ⟨a, b, c, l, g, m, k, mg, kg, rfl, h1, h2, hck, hk, hkg, hmg, hm, hn, hne, q1, q2⟩ := h
    have nd := sc_Ahead.nd
    obtain ⟨hc2, hc7⟩ := ck_range hck
    have hc0 : 0 < c := by omega
    refine ⟨_, PSs.nox (pss_cons (ps_set (i := 2) nd rfl (Or.inl rfl) (pcL (ok_Rest T) hr (pa_cons (pc (ok_mirrored T) hr (pa_cons (pv 1) pa_nil)) (pa_cons (pc (ok_mirrored T) hr (pa_cons (pv 0) pa_nil)) pa_nil))))
      (pss_one (ps_ret (pe_ifExp (pt_cmp (pc_isN (pv 2)) rfl) pe_non (pc (ok_mirrored T) hr (pa_cons (pv 2) pa_nil)))))), ?_⟩
    refine ⟨_, rfl, b, c, mg, kg, g, rfl, h2, hck, by omega, by omega, fun H1 b1 t1 s1 n1 g1 k1 => ?_⟩
    refine ⟨_, rfl, a, c, m, k, l, rfl, h1.same s1, hck, by omega, by omega, fun H2 b2 t2 s2 n2 g2 k2 => ?_⟩
    have s12 := s1.trans s2
    dsimp only [tNil, List.append_nil]
    refine rest_rd (g1.same s2) g2 hck hk hkg hmg hm hn (lk_ne hc0 (vt_rev h2.2) g1.2 k1 (revT_ne hne)) (fun H3 r q s3 n3 hb hq => ?_) (fun H3 s3 hno => ?_)
    · refine ⟨_, rfl, false, rfl, iteF ?_⟩
      refine ⟨_, rfl, r, c, m, _, q, rfl, hb, hck, by omega, by omega, fun H4 r4 t4 s4 n4 g4 k4 => ?_⟩
      have hq' : Lk c l (prs t4 g) := by
        have e1 := Lk.rev (k2.symm.trans (hq.trans (Lk.prs_l q k1)))
        rw [revT_revT] at e1
        have e2 := e1.trans (revT_prs_lk (revT g) q)
        rw [revT_revT] at e2
        exact e2.trans (Lk.prs_l g k4.symm)
      exact q1 H4 r4 t4 ((s12.trans s3).trans s4) (back_none8 (s12.trans s3) n4) g4 hq'
    · refine ⟨_, rfl, true, rfl, iteT ?_⟩
      refine q2 H3 (s12.trans s3) fun q hq => hno (revT q) ?_
      exact k2.trans ((Lk.rev hq).trans ((revT_prs_lk q g).trans (Lk.prs_l _ k1.symm)))
theorem rest_none {H : Hp} {a b : Addr} {c : Int} {g l : Tb} {m k mg kg : Nat} {Q : VK} {E : XK} (h1 : Bg K H a c mg kg g) (h2 : Bg K H b c m k l) (hck : isCk c) (hk : k ≤ 2500) (hkg : kg ≤ 100000) (hmg : mg ≤ 1000) (hm : m ≤ 1000) (hn : k + k * ((m + 1) * (kg + 1)) ≤ 1000000) (hne : g ≠ [])
    (no : ∀ q, ¬ Lk c l (prs g q)) (q2 : ∀ H', Same H H' → Q .non H') : spRest K [.ref a, .ref b] H Q E :=
  rest_rd h1 h2 hck hk hkg hmg hm hn hne (fun H' r q s n hb hq => absurd hq (no q)) fun H' s _ => q2 H' s
theorem ahead_some {H : Hp} {a b : Addr} {c : Int} {g l q0 : Tb} {m k mg kg m0 k0 : Nat} {Q : VK} {E : XK} (h1 : Bg K H a c m k l) (h2 : Bg K H b c mg kg g) (hck : isCk c) (hk : k ≤ 2500) (hkg : kg ≤ 100000) (hmg : mg ≤ 1000) (hm : m ≤ 1000) (hn : k + k * ((m + 1) * (kg + 1)) ≤ 1000000) (hne : g ≠ [])
    (v0 : VT c m0 k0 q0) (e : Lk c l (prs q0 g)) (q1 : ∀ (H' : Hp) (r : Addr), Same H H' → H r = none → Bg K H' r c m0 k0 q0 → Q (.ref r) H') : spAhead K [.ref a, .ref b] H Q E :=
  ⟨a, b, c, l, g, m, k, mg, kg, rfl, h1, h2, hck, hk, hkg, hmg, hm, hn, hne, fun H' r q s n hb hq => q1 H' r s n (hb.as (by have := (ck_range hck).1; omega) v0 (quot_one_r hck h2.2 hne hq e)), fun H' s hno => absurd e (hno q0)⟩
theorem ahead_none {H : Hp} {a b : Addr} {c : Int} {g l : Tb} {m k mg kg : Nat} {Q : VK} {E : XK} (h1 : Bg K H a c m k l) (h2 : Bg K H b c mg kg g) (hck : isCk c) (hk : k ≤ 2500) (hkg : kg ≤ 100000) (hmg : mg ≤ 1000) (hm : m ≤ 1000) (hn : k + k * ((m + 1) * (kg + 1)) ≤ 1000000) (hne : g ≠ [])
    (no : ∀ q, ¬ Lk c l (prs q g)) (q2 : ∀ H', Same H H' → Q .non H') : spAhead K [.ref a, .ref b] H Q E :=
  ⟨a, b, c, l, g, m, k, mg, kg, rfl, h1, h2, hck, hk, hkg, hmg, hm, hn, hne, fun H' r q s n hb hq => absurd hq (no q), fun H' s _ => q2 H' s⟩
end
end Fp

set_option Elab.async false
set_option linter.all false
set_option maxRecDepth 100000
set_option maxHeartbeats 4000000
namespace Fp
open PySem PySem.Spec PyProof.Rows L2
/-! ### first words by the clock -/
structure Ld (c : Int) (l : Tb) (w : Str) : Prop where
  ne : tot l w % c ≠ 0
  le : ∀ x, tot l x % c ≠ 0 → leR w x = true
theorem Ld.lk {c : Int} {l l' : Tb} {w : Str} (h : Ld c l w) (e : Lk c l l') : Ld c l' w := ⟨by rw [← e w]; exact h.ne, fun x hx => h.le x (by rw [e x]; exact hx)⟩
theorem Ld.uniq {c : Int} {l : Tb} {w w' : Str} (h : Ld c l w) (h' : Ld c l w') : w = w' := leR_anti (h.le _ h'.ne) (h'.le _ h.ne)
theorem Ld.no {c : Int} {w : Str} (h : Ld c [] w) : False := h.ne (by rw [tot_nil, Int.zero_emod])
theorem leR_self (w : Str) : leR w w = true := by
  rcases leR_total.total w w with z | z <;> exact z
theorem leR_longer {a b : Str} (h : b.length < a.length) : leR a b = true := leR_iff.mpr (.inl h)
theorem ld_ex {c : Int} (hc : 0 < c) (l : Tb) : Lk c l [] ∨ ∃ w, Ld c l w := by
  have ht := tt_add hc l
  have hl := lk_add (c := c) l
  generalize tidyM c (addT l []) = t at ht hl
  by_cases e : t = []
  · subst e
    exact .inl hl.symm
  · obtain ⟨v, hv, hmin⟩ := first_of (l := t.map (·.1)) (by simpa using e)
    refine .inr ⟨v, Ld.lk ⟨?_, fun x hx => ?_⟩ hl⟩
    · obtain ⟨p, hp, e⟩ := List.mem_map.mp hv
      obtain ⟨j, ej⟩ := List.getElem?_of_mem hp
      have hn := num_of ht.nd ej
      have h1 := ht.rg p hp
      rw [tot_num ht.nd, ← e, hn, Int.emod_eq_of_lt (by omega) h1.2]
      omega
    · by_cases hk : x ∈ t.map (·.1)
      · exact hmin x hk
      · rw [tot_not hk, Int.zero_emod] at hx
        exact absurd rfl hx
theorem inv_of {c : Int} (hck : isCk c) {n : Int} (h : n % c ≠ 0) : ∃ t, (n * t) % c = 1 := by
  obtain ⟨hc2, hc7⟩ := ck_range hck
  obtain ⟨ns, _, hinv⟩ := inv_get hck
  have h1 := Int.emod_nonneg n (show c ≠ 0 by omega)
  have h2 := Int.emod_lt_of_pos n (show 0 < c by omega)
  obtain ⟨t, _, _, _, ht⟩ := hinv (n % c).toNat (by omega)
  refine ⟨t, ?_⟩
  have := (ht (by omega)).1
  rw [Int.toNat_of_nonneg h1] at this
  have h3 : (n * t) % c = ((n % c) * t) % c := by rw [Int.mul_emod n t, Int.mul_emod (n % c) t, Int.emod_emod_of_dvd n (Int.dvd_refl c)]
  exact h3.trans this
theorem ld_prs {c : Int} (hck : isCk c) {a b : Tb} {u v : Str} (ha : Ld c a u) (hb : Ld c b v) : Ld c (prs a b) (u ++ v) := by
  obtain ⟨hc2, hc7⟩ := ck_range hck
  have hc0 : 0 < c := by omega
  have ta := tt_add hc0 a
  have la := lk_add (c := c) a
  have tb := tt_add hc0 b
  have lb := lk_add (c := c) b
  refine Ld.lk ?_ (Lk.prs la lb)
  replace ha := ha.lk la.symm
  replace hb := hb.lk lb.symm
  generalize tidyM c (addT a []) = a' at ta ha
  generalize tidyM c (addT b []) = b' at tb hb
  have key : ∀ {t : Tb} {w : Str}, Tt c t → Ld c t w → w ∈ t.map (·.1) ∧ ∀ y ∈ t.map (·.1), leR w y = true := fun {t w} ht hw => by
    refine ⟨?_, fun y hy => hw.le y ?_⟩
    · by_cases hk : w ∈ t.map (·.1)
      · exact hk
      · have := hw.ne
        rw [tot_not hk, Int.zero_emod] at this
        exact absurd rfl this
    · obtain ⟨p, hp, e⟩ := List.mem_map.mp hy
      obtain ⟨j, ej⟩ := List.getElem?_of_mem hp
      have hn := num_of ht.nd ej
      have h1 := ht.rg p hp
      rw [tot_num ht.nd, ← e, hn, Int.emod_eq_of_lt (by omega) h1.2]
      omega
  obtain ⟨ka, ma⟩ := key ta ha
  obtain ⟨kb, mb⟩ := key tb hb
  have na : num a' u % c ≠ 0 := by rw [← tot_num ta.nd]; exact ha.ne
  have nb : tot b' v % c ≠ 0 := hb.ne
  obtain ⟨t, ht⟩ := inv_of hck na
  refine ⟨fun z => nb ?_, fun x hx => ?_⟩
  · rw [tot_first mb ta.nd ma] at z
    have h2 : (tot b' v * (num a' u * t)) % c = tot b' v % c := by
      rw [Int.mul_emod, ht, Int.mul_one, Int.emod_emod_of_dvd _ (Int.dvd_refl c)]
    rw [← h2, show tot b' v * (num a' u * t) = (num a' u * tot b' v) * t by rw [← Int.mul_assoc, Int.mul_comm (tot b' v)], Int.mul_emod, z, Int.zero_mul, Int.zero_emod]
  · have hx' : tot (prs a' b') x ≠ 0 := fun z => hx (by rw [z, Int.zero_emod])
    obtain ⟨p, hp, q, hq, rfl⟩ := prs_key hx'
    exact leR_trans (leR_app_r (z := v) (ma p.1 (List.mem_map.mpr ⟨p, hp, rfl⟩))) (leR_app_l (z := p.1) (mb q.1 (List.mem_map.mpr ⟨q, hq, rfl⟩)))
theorem ld_of {c : Int} {w : Str} {n : Int} {r : Tb} (h1 : 1 ≤ n) (h2 : n < c) (hr : ∀ p ∈ r, p.1.length < w.length) : Ld c ((w, n) :: r) w := by
  have hn : w ∉ r.map (·.1) := fun z => by
    obtain ⟨p, hp, e⟩ := List.mem_map.mp z
    have := hr p hp
    rw [e] at this
    omega
  refine ⟨?_, fun x hx => ?_⟩
  · rw [tot_cons, if_pos rfl, tot_not hn, Int.add_zero, Int.emod_eq_of_lt (by omega) h2]
    omega
  · by_cases e : w = x
    · rw [e]
      exact leR_self x
    · rw [tot_cons, if_neg e, Int.zero_add] at hx
      by_cases hk : x ∈ r.map (·.1)
      · obtain ⟨p, hp, rfl⟩ := List.mem_map.mp hk
        exact leR_longer (hr p hp)
      · rw [tot_not hk, Int.zero_emod] at hx
        exact absurd rfl hx
/-- a shorter word more -/
theorem ld_more {c : Int} {l : Tb} {w z : Str} {n : Int} (h : Ld c l w) (hz : z.length < w.length) : Ld c (l ++ [(z, n)]) w := by
  have hne : z ≠ w := fun e => by rw [e] at hz; omega
  refine ⟨?_, fun x hx => ?_⟩
  · rw [tot_app, tot_cons, if_neg hne, tot_nil]
    simpa using h.ne
  · by_cases e : z = x
    · subst e
      exact leR_longer hz
    · rw [tot_app, tot_cons, if_neg e, tot_nil] at hx
      exact h.le x (by simpa using hx)
theorem no_quot {c : Int} (hck : isCk c) {g l : Tb} {u w : Str} (hg : Ld c g u) (hl : Ld c l w) (hw : ∀ v, w ≠ u ++ v) (q : Tb) : ¬ Lk c l (prs g q) := fun e => by
  rcases ld_ex (show 0 < c by have := (ck_range hck).1; omega) q with h | ⟨v, h⟩
  · have := hl.lk (e.trans (Lk.prs_r g h))
    rw [prs_nil_r] at this
    exact this.no
  · exact hw v ((hl.lk e).uniq (ld_prs hck hg h))
theorem ld_rev_of {c : Int} {w : Str} {n : Int} {r : Tb} (h1 : 1 ≤ n) (h2 : n < c) (hr : ∀ p ∈ r, p.1.length < w.length) : Ld c (revT ((w, n) :: r)) (revS w) := by
  have hl : ∀ x : Str, (revS x).length = x.length := fun x => by rw [← len_list, ← len_list, revS_cps, List.length_reverse]
  rw [revT_cons]
  refine ld_of h1 h2 fun p hp => ?_
  obtain ⟨q, hq, rfl⟩ := List.mem_map.mp hp
  show (revS q.1).length < (revS w).length
  rw [hl, hl]
  exact hr q hq
theorem revS_len (x : Str) : (revS x).length = x.length := by rw [← len_list, ← len_list, revS_cps, List.length_reverse]
theorem str_ne {a b : Str} (h : a.cps.toList ≠ b.cps.toList) : a ≠ b := fun e => h (by rw [e])
theorem short4 {α : Type} {l : List α} (h : l.length ≤ 4) : l = [] ∨ (∃ a, l = [a]) ∨ (∃ a b, l = [a, b]) ∨ (∃ a b d, l = [a, b, d]) ∨ ∃ a b d e, l = [a, b, d, e] := by
  match l, h with
  | [], _ => exact .inl rfl
  | [a], _ => exact .inr (.inl ⟨a, rfl⟩)
  | [a, b], _ => exact .inr (.inr (.inl ⟨a, b, rfl⟩))
  | [a, b, d], _ => exact .inr (.inr (.inr (.inl ⟨a, b, d, rfl⟩)))
  | [a, b, d, e], _ => exact .inr (.inr (.inr (.inr ⟨a, b, d, e, rfl⟩)))
  | a :: b :: d :: e :: f :: r, h => simp at h
/-- the words of the long ones never begin alike -/
theorem front_no (r s : Str) (hr : r.length ≤ 3) (X v : Str) : (r ++ "xyyxy") ++ X ≠ ("yxxyx" ++ s) ++ v := str_ne (by
  rw [app_list, app_list, app_list, app_list]
  have h : r.cps.toList.length ≤ 4 := by rw [len_list]; omega
  have h3 : r.cps.toList.length ≤ 3 := by rw [len_list]; omega
  show (r.cps.toList ++ [120, 121, 121, 120, 121]) ++ X.cps.toList ≠ ([121, 120, 120, 121, 120] ++ s.cps.toList) ++ v.cps.toList
  generalize r.cps.toList = l at h h3
  rcases short4 h with rfl | ⟨a, rfl⟩ | ⟨a, b, rfl⟩ | ⟨a, b, d, rfl⟩ | ⟨a, b, d, e, rfl⟩
  · simp
  · simp
  · simp
  · simp
  · simp at h3)
theorem back_no (s : Str) (hs : s.length ≤ 4) (X v : Str) : ("xxxxxx" : Str) ++ X ≠ revS ("yxxyx" ++ s) ++ v := str_ne (by
  rw [revS_app, app_list, app_list, app_list, revS_cps s, revS_cps "yxxyx"]
  have h : s.cps.toList.reverse.length ≤ 4 := by rw [List.length_reverse, len_list]; omega
  show [120, 120, 120, 120, 120, 120] ++ X.cps.toList ≠ (s.cps.toList.reverse ++ [120, 121, 120, 120, 121]) ++ v.cps.toList
  generalize s.cps.toList.reverse = l at h
  rcases short4 h with rfl | ⟨a, rfl⟩ | ⟨a, b, rfl⟩ | ⟨a, b, d, rfl⟩ | ⟨a, b, d, e, rfl⟩ <;> simp)
theorem prs_scl (f : Int) (l m : Tb) : prs l (scl f m) = scl f (prs l m) := by
  induction l with
  | nil => rfl
  | cons p r ih =>
    rw [prs_cons, prs_cons, ih]
    unfold scl
    rw [List.map_append, List.map_map, List.map_map]
    congr 1
    refine List.map_congr_left fun q _ => ?_
    show ((p.1 ++ q.1, p.2 * (f * q.2)) : Str × Int) = (p.1 ++ q.1, f * (p.2 * q.2))
    rw [← Int.mul_assoc, Int.mul_comm p.2 f, Int.mul_assoc]
theorem tot_prs_scl (f : Int) (l m : Tb) (x : Str) : tot (prs l (scl f m)) x = f * tot (prs l m) x := by rw [prs_scl, tot_scl]
section
variable {c : Int} {r s : Str} {n : Int}
abbrev oneT (r : Str) (n : Int) : Tb := [(r ++ "xyyxy", 1), ("x", 1), ("", n)]
abbrev twoT (s : Str) : Tb := [("yxxyx" ++ s, 1), ("yy", 1)]
abbrev endT : Tb := [("xxxxxx", 1), ("y", 1)]
theorem len5 (r : Str) : (r ++ "xyyxy").length = r.length + 5 := by rw [app_len]; rfl
theorem len5' (s : Str) : ("yxxyx" ++ s).length = 5 + s.length := by rw [app_len]; rfl
theorem one_ld (hc : 2 ≤ c) : Ld c (oneT r n) (r ++ "xyyxy") := ld_of (by decide) (by omega) fun p hp => by
  rw [len5]
  have : p = (("x" : Str), (1 : Int)) ∨ p = (("" : Str), n) := by simpa using hp
  rcases this with rfl | rfl
  · show 1 < r.length + 5; omega
  · show 0 < r.length + 5; omega
theorem two_ld (hc : 2 ≤ c) : Ld c (twoT s) ("yxxyx" ++ s) := ld_of (by decide) (by omega) fun p hp => by
  rw [len5']
  have : p = (("yy" : Str), (1 : Int)) := by simpa using hp
  subst this
  show 2 < 5 + s.length; omega
theorem two_rld (hc : 2 ≤ c) : Ld c (revT (twoT s)) (revS ("yxxyx" ++ s)) := ld_rev_of (by decide) (by omega) fun p hp => by
  rw [len5']
  have : p = (("yy" : Str), (1 : Int)) := by simpa using hp
  subst this
  show 2 < 5 + s.length; omega
theorem one_rld (hc : 2 ≤ c) : Ld c (revT (oneT r n)) (revS (r ++ "xyyxy")) := ld_rev_of (by decide) (by omega) fun p hp => by
  rw [len5]
  have : p = (("x" : Str), (1 : Int)) ∨ p = (("" : Str), n) := by simpa using hp
  rcases this with rfl | rfl
  · show 1 < r.length + 5; omega
  · show 0 < r.length + 5; omega
theorem end_ld (hc : 2 ≤ c) : Ld c endT "xxxxxx" := ld_of (by decide) (by omega) fun p hp => by
  have : p = (("y" : Str), (1 : Int)) := by simpa using hp
  subst this
  decide
theorem end_rld (hc : 2 ≤ c) : Ld c (revT endT) "xxxxxx" := by
  have : Ld c (revT endT) (revS "xxxxxx") := ld_rev_of (by decide) (by omega) fun p hp => by
    have : p = (("y" : Str), (1 : Int)) := by simpa using hp
    subst this
    decide
  rwa [show revS "xxxxxx" = "xxxxxx" from by decide +kernel] at this
/-- two is no front of one two end -/
theorem long_a (hck : isCk c) (hr : r.length ≤ 3) (q : Tb) : ¬ Lk c (prs (oneT r n) (prs (twoT s) endT)) (prs (twoT s) q) :=
  have hc := (ck_range hck).1
  no_quot hck (two_ld hc) (ld_prs hck (one_ld hc) (ld_prs hck (two_ld hc) (end_ld hc))) (fun v => front_no r s hr _ v) q
/-- a z more is no product with one ahead -/
theorem long_b (hck : isCk c) (q : Tb) : ¬ Lk c (prs (oneT r n) (prs (twoT s) endT) ++ ([(("z" : Str), (1 : Int))] : Tb)) (prs (oneT r n) q) := fun e => by
  have hc := (ck_range hck).1
  have e2 : Lk c ([(("z" : Str), (1 : Int))] : Tb) (prs (oneT r n) (q ++ scl (-1) (prs (twoT s) endT))) := fun x => by
    have h1 := e x
    rw [tot_app] at h1
    rw [prs_app_r, tot_app, tot_prs_scl]
    have h2 : (tot (prs (oneT r n) (prs (twoT s) endT)) x + tot [(("z" : Str), (1 : Int))] x - tot (prs (oneT r n) (prs (twoT s) endT)) x) % c = (tot (prs (oneT r n) q) x - tot (prs (oneT r n) (prs (twoT s) endT)) x) % c := by rw [Int.sub_emod, h1, ← Int.sub_emod]
    rw [show tot (prs (oneT r n) (prs (twoT s) endT)) x + tot [(("z" : Str), (1 : Int))] x - tot (prs (oneT r n) (prs (twoT s) endT)) x = tot [(("z" : Str), (1 : Int))] x by omega] at h2
    rw [h2]
    congr 1
    omega
  refine no_quot hck (one_ld hc) (ld_of (r := []) (by decide) (by omega) fun p hp => by cases hp) (fun v z => ?_) _ e2
  have := congrArg Str.length z
  rw [app_len, len5] at this
  have h1 : ("z" : Str).length = 1 := rfl
  omega
/-- nor one with two behind -/
theorem long_c (hck : isCk c) (hs : s.length ≤ 4) (q : Tb) : ¬ Lk c (prs (oneT r n) (prs (twoT s) endT) ++ ([(("z" : Str), (1 : Int))] : Tb)) (prs q (twoT s)) := fun e => by
  have hc := (ck_range hck).1
  have e2 := (Lk.rev e).trans (revT_prs_lk q (twoT s))
  rw [revT_app] at e2
  have e3 : Lk c (prs (prs (revT endT) (revT (twoT s))) (revT (oneT r n)) ++ revT [(("z" : Str), (1 : Int))]) (prs (revT (twoT s)) (revT q)) := by
    refine (Lk.app ?_ (Lk.refl _ _)).trans e2
    exact ((revT_prs_lk (oneT r n) (prs (twoT s) endT)).trans (Lk.prs_l _ (revT_prs_lk (twoT s) endT))).symm
  rw [prs_assoc] at e3
  have h1 := ld_prs hck (end_rld hc) (ld_prs hck (two_rld (s := s) hc) (one_rld (r := r) (n := n) hc))
  refine no_quot hck (two_rld hc) (ld_more (z := revS "z") (n := 1) h1 ?_) (fun v => back_no s hs _ v) _ e3
  rw [app_len]
  show 1 < 6 + _
  omega
end
end Fp

set_option Elab.async false
set_option linter.all false
set_option maxRecDepth 100000
set_option maxHeartbeats 4000000
namespace Fp
open PySem PySem.Spec PyProof.Rows L2
/-! ### == and != of bags -/
section
variable {X : Cx}
theorem opEq (T : Top X.K X.mg) (hr : Room 1 X.A) : OpR X (compareOp .Eq) (rOwnEq X.K (He.ga X.K "Bag") (spEqB X.K)) := by
  obtain ⟨fd, F, b⟩ := ok_eq (P := X.prog) (w := X.w) (base := X.base) T
  exact op_ownEq F (m_Bag___eq__ T).at_ (m_Bag___eq__ T).fn b hr
theorem opNe (T : Top X.K X.mg) (hr : Room 2 X.A) : OpR X (compareOp .NotEq) (rOwnNe X.K (He.ga X.K "Bag") (spEqB X.K)) := by
  obtain ⟨fd, F, b⟩ := ok_eq (P := X.prog) (w := X.w) (base := X.base) T
  exact op_ownNe F (x_ne T) (m_Bag___eq__ T).at_ (m_Bag___eq__ T).fn (x_mro T) b hr
end
section
variable {P : Program} {w : World} {K : PySem.W.Frag} {mg : Str → Option Value} {base : Heap}
theorem nf_own (C : Addr) : PySem.W.notFirst K C (.ref C) = true := by simp [PySem.W.notFirst]
theorem rd_eq (T : Top K mg) {H : Hp} {a b : Addr} {c c' : Int} {L M : Tb} {Q : VK} (ha : BagAt K H a c L) (hb : BagAt K H b c' M) (q : Q (.bl (decide (c = c' ∧ L = M))) H) : rOwnEq K (He.ga K "Bag") (spEqB K) (.ref a) (.ref b) H Q := by
  obtain ⟨dx, t, h1, h2⟩ := id ha
  obtain ⟨dy, t', h3, h4⟩ := id hb
  exact ⟨a, dx, _, .ref (He.ga K "Bag"), rfl, h1, .base (.ins h3 (cls_Bag T) (x_class T) (x_get T) (x_takes T) (x_mro T)), nf_own _, a, .ref b, c, L, rfl, ha, .inl ⟨b, c', M, rfl, hb, _, rfl, q⟩⟩
theorem rd_ne (T : Top K mg) {H : Hp} {a b : Addr} {c c' : Int} {L M : Tb} {Q : VK} (ha : BagAt K H a c L) (hb : BagAt K H b c' M) (q : Q (.bl (!decide (c = c' ∧ L = M))) H) : rOwnNe K (He.ga K "Bag") (spEqB K) (.ref a) (.ref b) H Q := by
  obtain ⟨dx, t, h1, h2⟩ := id ha
  obtain ⟨dy, t', h3, h4⟩ := id hb
  exact ⟨a, dx, _, .ref (He.ga K "Bag"), rfl, h1, .base (.ins h3 (cls_Bag T) (x_class T) (x_get T) (x_takes T) (x_mro T)), nf_own _, a, .ref b, c, L, rfl, ha, .inl ⟨b, c', M, rfl, hb, _, rfl, q⟩⟩

theorem vt_ld {c : Int} {m k : Nat} {l : Tb} (hc : 0 < c) (v : VT c m k l) (h : l ≠ []) : ∃ u, Ld c l u := by
  rcases ld_ex hc l with e | e
  · have := lk_same hc v (vt_nil c m) e
    have := congrArg List.length this
    rw [canon_len, canon_len] at this
    exact absurd (List.eq_nil_of_length_eq_zero this) h
  · exact e
theorem prod_ne {c : Int} {m k m' k' : Nat} {l l' : Tb} (hck : isCk c) (v : VT c m k l) (v' : VT c m' k' l') (h : l ≠ []) (h' : l' ≠ []) : prodM c l l' ≠ [] := fun z => by
  have hc0 : 0 < c := by have := (ck_range hck).1; omega
  obtain ⟨u, hu⟩ := vt_ld hc0 v h
  obtain ⟨u', hu'⟩ := vt_ld hc0 v' h'
  have := (ld_prs hck hu hu').lk (lk_prod hc0 v v').symm
  rw [z] at this
  exact this.no
/-- something: a drawn table of few words, or a product of two small ones -/
def tSth : TS := fun D σ H => ∃ (h ca d : Addr) (c : Int) (l : Tb), σ = [some (.ref h), some (.int c), some (.ref d)] ∧ HandAt ca H h ∧ isCk c ∧ H d = some (.dK (kv l)) ∧ VT c 2 3 l ∧
  ∀ H' d' l', HandAt ca H' h → But h H H' → H' d' = some (.dK (kv l')) → VT c 4 9 l' → l' ≠ [] → D.nx [some (.ref h), some (.int c), some (.ref d')] H'
def spSth : Sp := fun vs H Q _ => ∃ (h ca : Addr) (c : Int), vs = [.ref h, .int c] ∧ HandAt ca H h ∧ isCk c ∧ ∀ H' d l, HandAt ca H' h → But h H H' → H' d = some (.dK (kv l)) → VT c 4 9 l → l ≠ [] → Q (.ref d) H'
abbrev nSth : List Str := ["_law_hand_here", "_law_clock_here", "_law_words_here"]
end
end Fp

set_option Elab.async false
set_option linter.all false
set_option maxRecDepth 100000
set_option maxHeartbeats 4000000
namespace Fp
open PySem PySem.Spec PyProof.Rows L2
theorem prs_scl_l (f : Int) (l m : Tb) : prs (scl f l) m = scl f (prs l m) := by
  induction l with
  | nil => rfl
  | cons p r ih =>
    have e : scl f (p :: r) = (p.1, f * p.2) :: scl f r := rfl
    rw [e, prs_cons, prs_cons, ih]
    unfold scl
    rw [List.map_append, List.map_map]
    congr 1
    refine List.map_congr_left fun q _ => ?_
    show ((p.1 ++ q.1, f * p.2 * q.2) : Str × Int) = (p.1 ++ q.1, f * (p.2 * q.2))
    rw [Int.mul_assoc]
theorem ld_scl {c : Int} (hck : isCk c) {l : Tb} {u : Str} {n : Int} (h : Ld c l u) (h1 : 1 ≤ n) (h2 : n < c) : Ld c (scl n l) u := by
  have hn : n % c ≠ 0 := by rw [Int.emod_eq_of_lt (by omega) h2]; omega
  obtain ⟨t, ht⟩ := inv_of hck hn
  refine ⟨fun z => h.ne ?_, fun x hx => h.le x fun z => hx ?_⟩
  · rw [tot_scl] at z
    have e1 : (tot l u * (n * t)) % c = tot l u % c := by rw [Int.mul_emod, ht, Int.mul_one, Int.emod_emod_of_dvd _ (Int.dvd_refl c)]
    rw [← e1, show tot l u * (n * t) = (n * tot l u) * t by rw [← Int.mul_assoc, Int.mul_comm (tot l u)], Int.mul_emod, z, Int.zero_mul, Int.zero_emod]
  · rw [tot_scl, Int.mul_emod, z, Int.mul_zero, Int.zero_emod]
/-- a bag or None -/
def OptB (K : PySem.W.Frag) (H : Hp) (c : Int) (m k : Nat) (x : V) (Pr : Tb → Prop) : Prop := (x = .non ∧ ∀ q, ¬ Pr q) ∨ ∃ r q, x = .ref r ∧ Bg K H r c m k q ∧ Pr q
theorem OptB.same {K : PySem.W.Frag} {H H' : Hp} {c : Int} {m k : Nat} {x : V} {Pr : Tb → Prop} (h : OptB K H c m k x Pr) (s : Same H H') : OptB K H' c m k x Pr := by
  rcases h with h | ⟨r, q, h1, h2, h3⟩
  · exact .inl h
  · exact .inr ⟨r, q, h1, h2.same s, h3⟩
theorem OptB.imp {K : PySem.W.Frag} {H : Hp} {c : Int} {m k : Nat} {x : V} {Pr Pr' : Tb → Prop} (h : OptB K H c m k x Pr) (e : ∀ q, Pr q ↔ Pr' q) : OptB K H c m k x Pr' := by
  rcases h with ⟨h1, h2⟩ | ⟨r, q, h1, h2, h3⟩
  · exact .inl ⟨h1, fun q z => h2 q ((e q).mpr z)⟩
  · exact .inr ⟨r, q, h1, h2, (e q).mp h3⟩
/-- a table or None -/
def OptD (H : Hp) (c : Int) (x : V) (Pr : Tb → Prop) : Prop := (x = .non ∧ ∀ q, ¬ Pr q) ∨ ∃ r q, x = .ref r ∧ H r = some (.dK (kv q)) ∧ VT c 12 1000000 q ∧ Pr q
theorem OptD.imp {H : Hp} {c : Int} {x : V} {Pr Pr' : Tb → Prop} (h : OptD H c x Pr) (e : ∀ q, Pr q ↔ Pr' q) : OptD H c x Pr' := by
  rcases h with ⟨h1, h2⟩ | ⟨r, q, h1, h2, h4, h3⟩
  · exact .inl ⟨h1, fun q z => h2 q ((e q).mpr z)⟩
  · exact .inr ⟨r, q, h1, h2, h4, (e q).mp h3⟩
theorem ld_opt {H : Hp} {f d : Addr} {c : Int} {g l : Tb} {Q : VK} {E : XK} (hck : isCk c) (hf : H f = some (.dK (kv g))) (hd : H d = some (.dK (kv l))) (vg : VT c 12 300 g) (vl : VT c 12 300 l) (hne : g ≠ [])
    (q : ∀ (H' : Hp) (x : V), Same H H' → OptD H' c x (fun q => Lk c l (prs g q)) → Q x H') : spLD [.int c, .ref f, .ref d] H Q E :=
  ⟨c, f, d, g, l, rfl, hck, hf, hd, vg, vl, hne, fun H' r t s n e v h => q H' (.ref r) s (.inr ⟨r, t, rfl, e, v, h⟩), fun H' s h => q H' .non s (.inl ⟨rfl, h⟩)⟩
section
variable {K : PySem.W.Frag}
theorem rest_opt {H : Hp} {a b : Addr} {c : Int} {g l : Tb} {m k mg kg : Nat} {Q : VK} {E : XK} (h1 : Bg K H a c mg kg g) (h2 : Bg K H b c m k l) (hck : isCk c) (hk : k ≤ 2500) (hkg : kg ≤ 100000) (hmg : mg ≤ 1000) (hm : m ≤ 1000) (hn : k + k * ((m + 1) * (kg + 1)) ≤ 1000000) (hne : g ≠ [])
    (q : ∀ (H' : Hp) (x : V), Same H H' → OptB K H' c m (k + k * ((m + 1) * (kg + 1))) x (fun q => Lk c l (prs g q)) → Q x H') : spRest K [.ref a, .ref b] H Q E :=
  rest_rd h1 h2 hck hk hkg hmg hm hn hne (fun H' r t s n hb hq => q H' (.ref r) s (.inr ⟨r, t, rfl, hb, hq⟩)) fun H' s hno => q H' .non s (.inl ⟨rfl, hno⟩)
theorem ahead_opt {H : Hp} {a b : Addr} {c : Int} {g l : Tb} {m k mg kg : Nat} {Q : VK} {E : XK} (h1 : Bg K H a c m k l) (h2 : Bg K H b c mg kg g) (hck : isCk c) (hk : k ≤ 2500) (hkg : kg ≤ 100000) (hmg : mg ≤ 1000) (hm : m ≤ 1000) (hn : k + k * ((m + 1) * (kg + 1)) ≤ 1000000) (hne : g ≠ [])
    (q : ∀ (H' : Hp) (x : V), Same H H' → OptB K H' c m (k + k * ((m + 1) * (kg + 1))) x (fun q => Lk c l (prs q g)) → Q x H') : spAhead K [.ref a, .ref b] H Q E :=
  ⟨a, b, c, l, g, m, k, mg, kg, rfl, h1, h2, hck, hk, hkg, hmg, hm, hn, hne, fun H' r t s n hb hq => q H' (.ref r) s (.inr ⟨r, t, rfl, hb, hq⟩), fun H' s hno => q H' .non s (.inl ⟨rfl, hno⟩)⟩
end
theorem lk_sub {c : Int} {a b d : Tb} (h : Lk c (a ++ b) d) : Lk c a (d ++ scl (-1) b) := fun x => by
  have h1 := h x
  rw [tot_app] at h1
  rw [tot_app, tot_scl]
  have h2 : (tot a x + tot b x - tot b x) % c = (tot d x - tot b x) % c := by rw [Int.sub_emod, h1, ← Int.sub_emod]
  rw [show tot a x + tot b x - tot b x = tot a x by omega] at h2
  rw [h2]
  congr 1
  omega
theorem lk_prs_add {c : Int} (g q p : Tb) : Lk c (prs g (q ++ p)) (prs g q ++ prs g p) := fun x => by rw [prs_app_r]
/-- a sum with a multiple: both are there, or both are not -/
theorem sum_opt {c : Int} {g o w p : Tb} (hw : Lk c w (prs g p)) : (∀ q, Lk c o (prs g q) → Lk c (o ++ w) (prs g (q ++ p))) ∧ (∀ q, Lk c (o ++ w) (prs g q) → Lk c o (prs g (q ++ scl (-1) p))) := by
  refine ⟨fun q h => (Lk.app h hw).trans (lk_prs_add g q p).symm, fun q h => ?_⟩
  refine (lk_sub h).trans ?_
  refine Lk.trans (Lk.app (Lk.refl _ _) ?_) (lk_prs_add g q _).symm
  rw [prs_scl]
  exact Lk.scl (-1) hw
/-- the bags of a turn -/
structure WA (K : PySem.W.Frag) (ca h R b1 b2 b3 bw r0 : Addr) (c : Int) (t1 t2 t3 tw : Tb) (H : Hp) : Prop where
  hh : HandAt ca H h
  nR : R ≠ h
  n0 : r0 ≠ h
  eR : ∃ r1 r2, H R = some (.lst [.ref r0, .ref r1, .ref r2])
  e0 : H r0 = some (.dK (kv t1))
  g1 : Bg K H b1 c 4 9 t1
  g2 : Bg K H b2 c 4 9 t2
  g3 : Bg K H b3 c 4 9 t3
  gw : Bg K H bw c 12 729 tw
theorem WA.same {K : PySem.W.Frag} {ca h R b1 b2 b3 bw r0 : Addr} {c : Int} {t1 t2 t3 tw : Tb} {H H' : Hp} (z : WA K ca h R b1 b2 b3 bw r0 c t1 t2 t3 tw H) (s : Same H H') : WA K ca h R b1 b2 b3 bw r0 c t1 t2 t3 tw H' := by
  obtain ⟨r1, r2, e⟩ := z.eR
  exact ⟨z.hh.same s, z.nR, z.n0, ⟨r1, r2, s _ _ e⟩, s _ _ z.e0, z.g1.same s, z.g2.same s, z.g3.same s, z.gw.same s⟩
theorem Bg.but {K : PySem.W.Frag} {H H' : Hp} {b h : Addr} {c : Int} {m k : Nat} {l : Tb} (g : Bg K H b c m k l) (s : But h H H') (hl : ∃ xs, H h = some (.lst xs)) : Bg K H' b c m k l := ⟨g.1.but s hl, g.2⟩
theorem WA.but {K : PySem.W.Frag} {ca h R b1 b2 b3 bw r0 : Addr} {c : Int} {t1 t2 t3 tw : Tb} {H H' : Hp} (z : WA K ca h R b1 b2 b3 bw r0 c t1 t2 t3 tw H) (s : But h H H') (hh : HandAt ca H' h) : WA K ca h R b1 b2 b3 bw r0 c t1 t2 t3 tw H' := by
  obtain ⟨r1, r2, e⟩ := z.eR
  have hl := z.hh.lst
  exact ⟨hh, z.nR, z.n0, ⟨r1, r2, s _ _ e z.nR⟩, s _ _ z.e0 z.n0, z.g1.but s hl, z.g2.but s hl, z.g3.but s hl, z.gw.but s hl⟩
end Fp

set_option Elab.async false
set_option linter.all false
set_option maxRecDepth 100000
set_option maxHeartbeats 4000000
namespace Fp
open PySem PySem.Spec PyProof.Rows L2
/-! ### beginnings -/
theorem snoc_ind {α : Type} {P : List α → Prop} (h0 : P []) (h1 : ∀ l a, P l → P (l ++ [a])) (l : List α) : P l := by
  have key : ∀ r : List α, P r.reverse := fun r => by
    induction r with
    | nil => exact h0
    | cons a r ih =>
      rw [List.reverse_cons]
      exact h1 _ _ ih
  have := key l.reverse
  rw [List.reverse_reverse] at this
  exact this
theorem nodup_flat {α β : Type} {f : α → List β} : ∀ {l : List α}, (∀ x ∈ l, (f x).Nodup) → l.Pairwise (fun a b => ∀ x ∈ f a, x ∉ f b) → (l.flatMap f).Nodup
  | [], _, _ => List.nodup_nil
  | a :: r, h, hp => by
    obtain ⟨h1, h2⟩ := List.pairwise_cons.mp hp
    rw [List.flatMap_cons]
    refine List.nodup_append.mpr ⟨h a List.mem_cons_self, nodup_flat (fun x hx => h x (List.mem_cons_of_mem _ hx)) h2, fun x hx y hy e => ?_⟩
    subst e
    obtain ⟨b, hb, hy⟩ := List.mem_flatMap.mp hy
    exact h1 b hb x hx hy
def W (cs : List Nat) : Str := ⟨cs.toArray⟩
theorem W_cps (w : Str) : W w.cps.toList = w := PySem.W.str_of_cps (by simp [W])
theorem cps_W (cs : List Nat) : (W cs).cps.toList = cs := by simp [W]
theorem W_inj {a b : List Nat} (h : W a = W b) : a = b := by rw [← cps_W a, h, cps_W]
theorem W_app (a b : List Nat) : W a ++ W b = W (a ++ b) := PySem.W.str_of_cps (by rw [app_list, cps_W, cps_W, cps_W])
theorem W_len (a : List Nat) : (W a).length = a.length := by rw [← len_list, cps_W]
theorem W_nil : W [] = "" := rfl
/-- the numbers of the beginnings, together -/
def preL (l : Tb) (cs : List Nat) : Int := ((List.range (cs.length + 1)).map fun i => num l (W (cs.take i))).sum
theorem preL_nil (l : Tb) : preL l [] = num l "" := by
  show (num l (W []) + 0 : Int) = _
  rw [Int.add_zero]
  rfl
theorem preL_snoc (l : Tb) (cs : List Nat) (b : Nat) : preL l (cs ++ [b]) = preL l cs + num l (W (cs ++ [b])) := by
  unfold preL
  have h1 : (cs ++ [b]).length + 1 = (cs.length + 1) + 1 := by rw [List.length_append]; rfl
  rw [h1, List.range_succ, List.map_append, List.sum_append]
  congr 1
  · congr 1
    refine List.map_congr_left fun i hi => ?_
    have := List.mem_range.mp hi
    rw [List.take_append_of_le_length (by omega)]
  · show (num l (W ((cs ++ [b]).take (cs.length + 1))) + 0 : Int) = _
    rw [Int.add_zero, List.take_of_length_le (by rw [List.length_append]; exact Nat.le_refl _)]
theorem num_long {l : Tb} {L : Nat} (h : ∀ p ∈ l, p.1.length ≤ L) {x : Str} (hx : L < x.length) : num l x = 0 := num_not fun z => by
  obtain ⟨p, hp, rfl⟩ := List.mem_map.mp z
  have := h p hp
  omega
theorem preL_long {l : Tb} {L : Nat} (h : ∀ p ∈ l, p.1.length ≤ L) (cs : List Nat) (hc : L ≤ cs.length) : ∀ ds : List Nat, preL l (cs ++ ds) = preL l cs := by
  refine snoc_ind ?_ fun ds b ih => ?_
  · rw [List.append_nil]
  · rw [← List.append_assoc, preL_snoc, ih, num_long h (by rw [W_len, List.length_append, List.length_append]; show L < cs.length + ds.length + 1; omega), Int.add_zero]
abbrev oneM : Tb := [(("" : Str), (1 : Int))]
def AT (al : List Nat) : Tb := al.map fun a => (W [a], 1)
/-- one less the letters, one less a table -/
abbrev BT (al : List Nat) : Tb := oneM ++ scl (-1) (AT al)
abbrev C1 (l : Tb) : Tb := oneM ++ scl (-1) l
theorem tot_last (q : Tb) (a b : Nat) (cs : List Nat) : tot (prs q [(W [a], 1)]) (W (cs ++ [b])) = if b = a then tot q (W cs) else 0 := by
  induction q with
  | nil => rw [show prs [] [(W [a], (1 : Int))] = [] from rfl, tot_nil]; split <;> rfl
  | cons p r ih =>
    rw [prs_cons, tot_app, ih, tot_cons]
    show (if p.1 ++ W [a] = W (cs ++ [b]) then p.2 * 1 else 0) + 0 + _ = _
    rw [Int.add_zero, Int.mul_one]
    have key : p.1 ++ W [a] = W (cs ++ [b]) ↔ p.1 = W cs ∧ b = a := by
      rw [← W_cps p.1, W_app]
      constructor
      · intro e
        have := List.append_inj' (W_inj e) rfl
        exact ⟨by rw [this.1], (List.cons.inj this.2).1.symm⟩
      · rintro ⟨e1, rfl⟩
        rw [W_inj e1]
    by_cases hb : b = a
    · rw [if_pos hb, if_pos hb]
      by_cases hp : p.1 = W cs
      · rw [if_pos (key.mpr ⟨hp, hb⟩), if_pos hp]
      · rw [if_neg (fun z => hp (key.mp z).1), if_neg hp]
    · rw [if_neg hb, if_neg hb, if_neg (fun z => hb (key.mp z).2), Int.add_zero]
theorem tot_last0 (q : Tb) (a : Nat) : tot (prs q [(W [a], 1)]) "" = 0 := by
  refine tot_not fun z => ?_
  obtain ⟨e, he, h0⟩ := List.mem_map.mp z
  unfold prs at he
  obtain ⟨p, hp, he⟩ := List.mem_flatMap.mp he
  have : e = (p.1 ++ W [a], p.2 * 1) := by simpa using he
  subst this
  have := congrArg Str.length h0
  rw [app_len, W_len] at this
  have h1 : ("" : Str).length = 0 := rfl
  have h2 : ([a] : List Nat).length = 1 := rfl
  omega
theorem AT_cons (a : Nat) (r : List Nat) : AT (a :: r) = ([(W [a], 1)] : Tb) ++ AT r := rfl
theorem tot_AT (q : Tb) (b : Nat) (cs : List Nat) : ∀ al : List Nat, al.Nodup → tot (prs q (AT al)) (W (cs ++ [b])) = if b ∈ al then tot q (W cs) else 0
  | [], _ => by
    rw [show AT [] = [] from rfl, prs_nil_r, tot_nil]
    simp
  | a :: r, h => by
    obtain ⟨h1, h2⟩ := List.nodup_cons.mp h
    rw [AT_cons, prs_app_r, tot_app, tot_last, tot_AT q b cs r h2]
    by_cases hb : b = a
    · subst hb
      rw [if_pos rfl, if_neg h1, if_pos List.mem_cons_self, Int.add_zero]
    · rw [if_neg hb, Int.zero_add]
      by_cases hr : b ∈ r
      · rw [if_pos hr, if_pos (List.mem_cons_of_mem _ hr)]
      · rw [if_neg hr, if_neg (fun z => by rcases List.mem_cons.mp z with z | z; exact hb z; exact hr z)]
theorem tot_AT0 (q : Tb) : ∀ al : List Nat, tot (prs q (AT al)) "" = 0
  | [] => by rw [show AT [] = [] from rfl, prs_nil_r, tot_nil]
  | a :: r => by rw [AT_cons, prs_app_r, tot_app, tot_last0, tot_AT0 q r]; rfl
theorem tot_BT (q : Tb) (x : Str) (al : List Nat) : tot (prs q (BT al)) x = tot q x - tot (prs q (AT al)) x := by
  rw [prs_app_r, tot_app, prs_one_r, tot_prs_scl]
  omega
theorem tot_C1 {l : Tb} (hn : Nd l) (x : Str) : tot (C1 l) x = (if x = "" then 1 else 0) - num l x := by
  rw [tot_app, tot_scl, tot_num hn, tot_cons, tot_nil]
  by_cases h : x = ""
  · subst h
    rw [if_pos rfl]
    show (1 : Int) + 0 + -1 * _ = 1 - _
    omega
  · rw [if_neg h, if_neg (fun z => h z.symm)]
    omega
/-- full: the numbers of the beginnings of all words of L letters come together to 1 -/
def FullAt (c : Int) (al : List Nat) (l : Tb) (L : Nat) : Prop := ∀ cs : List Nat, (∀ b ∈ cs, b ∈ al) → cs.length = L → preL l cs % c = 1
structure OverT (al : List Nat) (L : Nat) (l : Tb) : Prop where
  ov : ∀ p ∈ l, ∀ b ∈ p.1.cps.toList, b ∈ al
  ln : ∀ p ∈ l, p.1.length ≤ L
theorem modc {c a b : Int} (h : a % c = b % c) (d : Int) : (d - a) % c = (d - b) % c := by rw [Int.sub_emod, h, ← Int.sub_emod]
/-- what a quotient has at a word is one less the numbers of its beginnings -/
theorem quot_pre {c : Int} {al : List Nat} {l q : Tb} (hn : Nd l) (ha : al.Nodup) (e : Lk c (C1 l) (prs q (BT al))) : ∀ cs : List Nat, (∀ b ∈ cs, b ∈ al) → tot q (W cs) % c = (1 - preL l cs) % c := by
  refine snoc_ind (P := fun cs => (∀ b ∈ cs, b ∈ al) → tot q (W cs) % c = (1 - preL l cs) % c) ?_ fun cs b ih => ?_
  · intro _
    have := e ""
    rw [tot_BT, tot_AT0, tot_C1 hn, if_pos rfl, Int.sub_zero] at this
    rw [W_nil, preL_nil]
    exact this.symm
  · intro h
    have ih := ih fun d hd => h d (List.mem_append_left _ hd)
    have hb : b ∈ al := h b (by simp)
    have h1 := e (W (cs ++ [b]))
    have hne : W (cs ++ [b]) ≠ "" := fun z => by
      have := congrArg Str.length z
      rw [W_len, List.length_append] at this
      have h2 : ("" : Str).length = 0 := rfl
      have h3 : ([b] : List Nat).length = 1 := rfl
      omega
    rw [tot_BT, tot_AT q b cs al ha, if_pos hb, tot_C1 hn, if_neg hne] at h1
    rw [preL_snoc]
    have h2 : (tot q (W (cs ++ [b])) - tot q (W cs) + tot q (W cs)) % c = (0 - num l (W (cs ++ [b])) + (1 - preL l cs)) % c := by
      rw [Int.add_emod, ← h1, ih, ← Int.add_emod]
    rw [show tot q (W (cs ++ [b])) - tot q (W cs) + tot q (W cs) = tot q (W (cs ++ [b])) by omega] at h2
    rw [h2]
    congr 1
    omega
theorem key_bound (q : Tb) : ∃ M, ∀ p ∈ q, p.1.length ≤ M := by
  induction q with
  | nil => exact ⟨0, fun p hp => by cases hp⟩
  | cons p r ih =>
    obtain ⟨M, h⟩ := ih
    refine ⟨max M p.1.length, fun y hy => ?_⟩
    rcases List.mem_cons.mp hy with rfl | hy
    · omega
    · have := h y hy
      omega
theorem tot_long {q : Tb} {M : Nat} (h : ∀ p ∈ q, p.1.length ≤ M) {x : Str} (hx : M < x.length) : tot q x = 0 := tot_not fun z => by
  obtain ⟨p, hp, rfl⟩ := List.mem_map.mp z
  have := h p hp
  omega
theorem full_of_quot {c : Int} {al : List Nat} {l q : Tb} {L : Nat} (hc : 2 ≤ c) (hn : Nd l) (ha : al.Nodup) (hal : al ≠ []) (ho : OverT al L l) (e : Lk c (C1 l) (prs q (BT al))) : FullAt c al l L := fun cs hcs hlen => by
  obtain ⟨a0, r, rfl⟩ : ∃ a r, al = a :: r := by
    cases al with
    | nil => exact absurd rfl hal
    | cons a r => exact ⟨a, r, rfl⟩
  obtain ⟨M, hM⟩ := key_bound q
  have h1 := quot_pre hn ha e (cs ++ List.replicate (M + 1) a0) fun b hb => by
    rcases List.mem_append.mp hb with hb | hb
    · exact hcs b hb
    · rw [List.eq_of_mem_replicate hb]
      exact List.mem_cons_self
  rw [tot_long hM (by rw [W_len, List.length_append, List.length_replicate]; omega), preL_long ho.ln cs (by omega)] at h1
  have h2 : (1 : Int) % c = 1 := Int.emod_eq_of_lt (by decide) (by omega)
  rw [Int.zero_emod] at h1
  have h3 : (1 - (1 - preL l cs)) % c = (1 - 0) % c := by rw [Int.sub_emod, ← h1, Int.sub_emod 1 0, Int.zero_emod]
  rw [show (1 : Int) - (1 - preL l cs) = preL l cs by omega, Int.sub_zero, h2] at h3
  exact h3
/-- all words of n letters -/
def allL (al : List Nat) : Nat → List (List Nat)
  | 0 => [[]]
  | n + 1 => (allL al n).flatMap fun cs => al.map fun a => cs ++ [a]
theorem allL_mem (al : List Nat) : ∀ (n : Nat) (cs : List Nat), cs ∈ allL al n ↔ (∀ b ∈ cs, b ∈ al) ∧ cs.length = n
  | 0, cs => by
    show cs ∈ [[]] ↔ _
    rw [List.mem_singleton]
    constructor
    · rintro rfl
      exact ⟨fun b hb => (by cases hb), rfl⟩
    · rintro ⟨_, h⟩
      exact List.eq_nil_of_length_eq_zero h
  | n + 1, cs => by
    show cs ∈ (allL al n).flatMap _ ↔ _
    rw [List.mem_flatMap]
    constructor
    · rintro ⟨ds, hd, h⟩
      obtain ⟨a, ha, rfl⟩ := List.mem_map.mp h
      obtain ⟨h1, h2⟩ := (allL_mem al n ds).mp hd
      refine ⟨fun b hb => ?_, by rw [List.length_append, h2]; rfl⟩
      rcases List.mem_append.mp hb with hb | hb
      · exact h1 b hb
      · have : b = a := by simpa using hb
        subst this
        exact ha
    · rintro ⟨h1, h2⟩
      obtain ⟨ds, b, rfl⟩ : ∃ ds b, cs = ds ++ [b] := by
        revert h2
        refine snoc_ind (P := fun cs => cs.length = n + 1 → ∃ ds b, cs = ds ++ [b]) (fun h => by cases h) (fun ds b _ _ => ⟨ds, b, rfl⟩) cs
      refine ⟨ds, (allL_mem al n ds).mpr ⟨fun d hd => h1 d (List.mem_append_left _ hd), ?_⟩, List.mem_map.mpr ⟨b, h1 b (by simp), rfl⟩⟩
      rw [List.length_append] at h2
      have h3 : ([b] : List Nat).length = 1 := rfl
      omega
theorem allL_nd (al : List Nat) (ha : al.Nodup) : ∀ n, (allL al n).Nodup
  | 0 => by simp [allL]
  | n + 1 => by
    show ((allL al n).flatMap _).Nodup
    refine nodup_flat (fun cs _ => ?_) ?_
    · exact List.Pairwise.map _ (fun a b hne z => hne (by simpa using z)) ha
    · refine List.Pairwise.imp ?_ (allL_nd al ha n)
      intro a b hne x hx hy
      obtain ⟨u, _, e1⟩ := List.mem_map.mp hx
      obtain ⟨v, _, e2⟩ := List.mem_map.mp hy
      exact hne (List.append_inj' (e1.trans e2.symm) rfl).1
/-- all words of fewer than n letters -/
def lowL (al : List Nat) (n : Nat) : List (List Nat) := (List.range n).flatMap (allL al)
theorem lowL_mem (al : List Nat) (n : Nat) (cs : List Nat) : cs ∈ lowL al n ↔ (∀ b ∈ cs, b ∈ al) ∧ cs.length < n := by
  unfold lowL
  rw [List.mem_flatMap]
  constructor
  · rintro ⟨k, hk, h⟩
    obtain ⟨h1, h2⟩ := (allL_mem al k cs).mp h
    exact ⟨h1, h2 ▸ List.mem_range.mp hk⟩
  · rintro ⟨h1, h2⟩
    exact ⟨cs.length, List.mem_range.mpr h2, (allL_mem al _ cs).mpr ⟨h1, rfl⟩⟩
theorem lowL_nd (al : List Nat) (ha : al.Nodup) (n : Nat) : (lowL al n).Nodup := by
  refine nodup_flat (fun k _ => allL_nd al ha k) ?_
  refine List.Pairwise.imp ?_ (List.nodup_range (n := n))
  intro a b hne x hx hy
  exact hne (((allL_mem al a x).mp hx).2.symm.trans ((allL_mem al b x).mp hy).2)
theorem tot_map {l : List (List Nat)} (hn : l.Nodup) (f : List Nat → Int) (cs : List Nat) : tot (l.map fun d => (W d, f d)) (W cs) = if cs ∈ l then f cs else 0 := by
  induction l with
  | nil => rw [List.map_nil, tot_nil]; simp
  | cons d r ih =>
    obtain ⟨h1, h2⟩ := List.nodup_cons.mp hn
    rw [List.map_cons, tot_cons, ih h2]
    by_cases e : d = cs
    · subst e
      rw [if_pos rfl, if_neg h1, if_pos List.mem_cons_self, Int.add_zero]
    · rw [if_neg (fun z => e (W_inj z)), Int.zero_add]
      by_cases hr : cs ∈ r
      · rw [if_pos hr, if_pos (List.mem_cons_of_mem _ hr)]
      · rw [if_neg hr, if_neg (fun z => by rcases List.mem_cons.mp z with z | z; exact e z.symm; exact hr z)]
theorem full_long {c : Int} {al : List Nat} {l : Tb} {L : Nat} (ho : OverT al L l) (h : FullAt c al l L) {cs : List Nat} (hcs : ∀ b ∈ cs, b ∈ al) (hl : L ≤ cs.length) : preL l cs % c = 1 := by
  have h1 := h (cs.take L) (fun b hb => hcs b (List.mem_of_mem_take hb)) (by rw [List.length_take]; omega)
  have h2 := preL_long ho.ln (cs.take L) (by rw [List.length_take]; omega) (cs.drop L)
  rw [List.take_append_drop] at h2
  rw [h2]
  exact h1
theorem quot_of_full {c : Int} {al : List Nat} {l : Tb} {L : Nat} (hc : 2 ≤ c) (hn : Nd l) (ha : al.Nodup) (ho : OverT al L l) (h : FullAt c al l L) : ∃ q, Lk c (C1 l) (prs q (BT al)) := by
  refine ⟨(lowL al L).map fun d => (W d, 1 - preL l d), fun x => ?_⟩
  have h12 : (1 : Int) % c = 1 := Int.emod_eq_of_lt (by decide) (by omega)
  generalize hq : ((lowL al L).map fun d => (W d, 1 - preL l d) : Tb) = q
  have val : ∀ cs, (∀ b ∈ cs, b ∈ al) → tot q (W cs) % c = (1 - preL l cs) % c := fun cs hcs => by
    rw [← hq, tot_map (lowL_nd al ha L)]
    by_cases hl : cs.length < L
    · rw [if_pos ((lowL_mem al L cs).mpr ⟨hcs, hl⟩)]
    · rw [if_neg (fun z => hl ((lowL_mem al L cs).mp z).2)]
      have h1 := full_long ho h hcs (by omega)
      rw [Int.sub_emod, h1, h12]
      rfl
  have zero : ∀ cs, (¬ ∀ b ∈ cs, b ∈ al) → tot q (W cs) = 0 := fun cs hcs => by
    rw [← hq, tot_map (lowL_nd al ha L), if_neg (fun z => hcs ((lowL_mem al L cs).mp z).1)]
  have lz : ∀ cs, (¬ ∀ b ∈ cs, b ∈ al) → num l (W cs) = 0 := fun cs hcs => num_not fun z => hcs fun b hb => by
    obtain ⟨p, hp, e⟩ := List.mem_map.mp z
    exact ho.ov p hp b (by rw [e, cps_W]; exact hb)
  rw [← W_cps x]
  generalize x.cps.toList = cs
  refine snoc_ind (P := fun cs => tot (C1 l) (W cs) % c = tot (prs q (BT al)) (W cs) % c) ?_ (fun cs b _ => ?_) cs
  · rw [W_nil, tot_BT, tot_AT0, tot_C1 hn, if_pos rfl, Int.sub_zero]
    have := val [] (fun b hb => by cases hb)
    rw [preL_nil, W_nil] at this
    exact this.symm
  · have hne : W (cs ++ [b]) ≠ "" := fun z => by
      have := congrArg Str.length z
      rw [W_len, List.length_append] at this
      have h2 : ("" : Str).length = 0 := rfl
      have h3 : ([b] : List Nat).length = 1 := rfl
      omega
    rw [tot_BT, tot_AT q b cs al ha, tot_C1 hn, if_neg hne]
    by_cases hb : b ∈ al
    · rw [if_pos hb]
      by_cases hcs : ∀ d ∈ cs, d ∈ al
      · have v1 := val cs hcs
        have v2 := val (cs ++ [b]) fun d hd => by
          rcases List.mem_append.mp hd with hd | hd
          · exact hcs d hd
          · have : d = b := by simpa using hd
            subst this
            exact hb
        rw [Int.sub_emod (tot q (W (cs ++ [b]))), v2, v1, ← Int.sub_emod, preL_snoc]
        congr 1
        omega
      · rw [zero cs hcs, zero _ (fun z => hcs fun d hd => z d (List.mem_append_left _ hd)), lz _ (fun z => hcs fun d hd => z d (List.mem_append_left _ hd))]
    · rw [if_neg hb, zero _ (fun z => hb (z b (by simp))), lz _ (fun z => hb (z b (by simp)))]
end Fp

set_option Elab.async false
set_option linter.all false
set_option maxRecDepth 100000
set_option maxHeartbeats 4000000
namespace Fp
open PySem PySem.Spec PyProof.Rows L2
/-! ### the tape: what is drawn from -/
def TapeAt (ca : Addr) (H : Hp) (h : Addr) : Prop := ∃ (cs : List Int) (a l sd : Int), H h = some (.lst [.ref ca, .int a, .int l, .int sd]) ∧ H ca = some (.lst (cs.map V.int)) ∧ 0 ≤ a ∧ 0 ≤ l
theorem TapeAt.ne {H : Hp} {h ca : Addr} {cs : List Int} {a l sd : Int} (h1 : H h = some (.lst [.ref ca, .int a, .int l, .int sd])) (h2 : H ca = some (.lst (cs.map V.int))) : ca ≠ h := by
  refine ne_of h2 h1 fun z => ?_
  injection z with z
  cases cs with
  | nil => cases z
  | cons c r =>
    rw [List.map_cons] at z
    injection z with z1
    cases z1
theorem TapeAt.lst {ca : Addr} {H : Hp} {h : Addr} (x : TapeAt ca H h) : ∃ xs, H h = some (.lst xs) := by
  obtain ⟨cs, a, l, sd, h1, _⟩ := x
  exact ⟨_, h1⟩
theorem TapeAt.cells {ca : Addr} {H : Hp} {h : Addr} (x : TapeAt ca H h) : ∃ xs, H ca = some (.lst xs) := by
  obtain ⟨cs, a, l, sd, h1, h2, _⟩ := x
  exact ⟨_, h2⟩
theorem TapeAt.same {ca : Addr} {H H' : Hp} {h : Addr} (x : TapeAt ca H h) (k : Same H H') : TapeAt ca H' h := by
  obtain ⟨cs, a, l, sd, h1, h2, r⟩ := x
  exact ⟨cs, a, l, sd, k _ _ h1, k _ _ h2, r⟩
theorem TapeAt.off {ca : Addr} {H H' : Hp} {h d : Addr} (x : TapeAt ca H h) (k : But d H H') (h1 : h ≠ d) (h2 : ca ≠ d) : TapeAt ca H' h := by
  obtain ⟨cs, a, l, sd, g1, g2, r⟩ := x
  exact ⟨cs, a, l, sd, k _ _ g1 h1, k _ _ g2 h2, r⟩
theorem TapeAt.neD {ca : Addr} {H : Hp} {h d : Addr} {kvs : List (Key × V)} (x : TapeAt ca H h) (hd : H d = some (.dK kvs)) : d ≠ h := by
  obtain ⟨xs, hx⟩ := x.lst
  exact ne_of hd hx (by intro z; cases z)
/-- a new thing stands apart from the tape -/
theorem TapeAt.fresh {ca : Addr} {H : Hp} {h d : Addr} (x : TapeAt ca H h) (hd : H d = none) : d ≠ h ∧ d ≠ ca := by
  obtain ⟨xs, hx⟩ := x.lst
  obtain ⟨ys, hy⟩ := x.cells
  exact ⟨(ne_of_none hx hd).symm, (ne_of_none hy hd).symm⟩
section
variable {P : Program} {w : World} {K : PySem.W.Frag} {mg : Str → Option Value} {base : Heap}
def spTape (K : PySem.W.Frag) : Sp := fun vs H Q _ => ∃ (a : Addr) (ns : List Int), vs = [.ref a] ∧ SqL K H a (ns.map V.int) ∧ ∀ H' h ca, Same H H' → TapeAt ca H' h → Q (.ref h) H'
abbrev nTape : List Str := ["_law_script"]
theorem sc_tape : FnScope nTape ["_law_script"] (defScope s__law_tape) := ⟨rfl, rfl, rfl, by decide +kernel, rfl, by decide +kernel, by decide +kernel⟩
theorem ok_tape (T : Top K mg) : Ok P w K mg base 1 "_law_tape" ["_law_script"] (spTape K) := by
  obtain ⟨fd, F⟩ := fn__law_tape T
  refine ⟨⟨fd, ?_, F.bindsN fun _ _ _ _ _ _ us hl => match us, hl with | [_], _ => rfl⟩, g__law_tape T, F.kp⟩
  refine F.ok sc_tape (fun vs H Q E h => ?_) (fun cdv A outer s H vs Q E hr h => ?_)
  · obtain ⟨a, ns, rfl, _⟩ := h
    rfl
  · obtain ⟨a, ns, rfl, hS, q⟩ := h
    have nd := sc_tape.nd
    have hs : sizeLine = 16777216 := sizeLine_eq
    refine ⟨_, PSs.nox (pss_one (ps_ret (pe_lst (pa_cons (pe_callTy call_list_of (by rfl) (f_list T) (by decide +kernel) (pa_cons (pv 0) pa_nil)) (pa_cons pe_int (pa_cons pe_int (pa_cons pe_int pa_nil))))))), ?_⟩
    refine ⟨_, rfl, a, _, rfl, .inl hS, fun l hl => ?_⟩
    have s1 := same_upd (o := .lst (ns.map V.int)) hl
    refine ⟨by show 4 ≤ sizeLine; omega, fun p np => ?_⟩
    have e1 : (upd H l (.lst (ns.map V.int))) l = some (.lst (ns.map V.int)) := upd_same
    exact q _ p l (s1.trans (same_upd np)) ⟨ns, 0, 0, 11, upd_same, (by rw [upd_ne (ne_of_none e1 np)]; exact e1), by decide, by decide⟩
def spTDraw : Sp := fun vs H Q _ => ∃ (h ca : Addr) (n : Int), vs = [.ref h, .int n] ∧ 0 < n ∧ n < 1073741824 ∧ TapeAt ca H h ∧ ∀ (r : Int) (H' : Hp), 0 ≤ r → r < n → TapeAt ca H' h → But h H H' → Q (.int r) H'
abbrev nTDraw : List Str := ["_law_tape_here", "_law_many", "_law_cell", "_law_digit", "_law_mixed"]
theorem sc_tdraw : FnScope nTDraw ["_law_tape_here", "_law_many"] (defScope s__law_draw) := ⟨rfl, rfl, rfl, by decide +kernel, rfl, by decide +kernel, by decide +kernel⟩
theorem ok_tdraw (T : Top K mg) : Ok P w K mg base 1 "_law_draw" ["_law_tape_here", "_law_many"] spTDraw := by
  obtain ⟨fd, F⟩ := fn__law_draw T
  refine ⟨⟨fd, ?_, F.bindsN fun _ _ _ _ _ _ us hl => match us, hl with | [_, _], _ => rfl⟩, g__law_draw T, F.kp⟩
  refine F.ok sc_tdraw (fun vs H Q E h => ?_) (fun cdv A outer s H vs Q E hr h => ?_)
  · obtain ⟨h, ca, n, rfl, _⟩ := h
    rfl
  · obtain ⟨h, ca, n, rfl, hn0, hn1, hh, q⟩ := h
    have nd := sc_tdraw.nd
    refine ⟨_, PSs.nox (pss_cons (ps_if (PW.pt (pw_and (pt_cmpR op_eq (pe_ix ix_list (pv 0) pe_int (fun _ _ => rfl)) pe_int (nomark _)) (pw_and1 (pt_cmpR op_lt (pe_ix ix_list (pv 0) pe_int (fun _ _ => rfl)) (pe_callB call_len (by rfl) (f_len T) PySem.boot_len (pa_cons (pe_ix ix_list (pv 0) pe_int (fun _ _ => rfl)) pa_nil)) (nomark _)))))
        (pss_cons (ps_set (i := 2) nd rfl (Or.inl rfl) (pe_ix ix_list (pe_ix ix_list (pv 0) pe_int (fun _ _ => rfl)) (pe_ix ix_list (pv 0) pe_int (fun _ _ => rfl)) (fun _ _ => rfl)))
        (pss_cons (ps_asg (pe_op op_add (pe_ix ix_list (pv 0) pe_int (fun _ _ => rfl)) pe_int) (pg_sub (pv 0) pe_int set_list))
        (pss_cons (ps_if (pt_cmpR op_ge (pv 2) (pe_op op_pow pe_int pe_int) (nomark _)) (pss_one (ps_asg (pv 2) (pg_sub (pv 0) pe_int set_list))) pss_nil)
        (pss_one (ps_asg (pe_op op_mod (pe_callTy call_int1 (by rfl) (f_int T) boot_int (pa_cons (pe_op op_add (pe_op op_mul (pe_ix ix_list (pv 0) pe_int (fun _ _ => rfl)) pe_int) (pe_op op_mod (pe_callTy call_int1 (by rfl) (f_int T) boot_int (pa_cons (pv 2) pa_nil)) pe_int)) pa_nil)) pe_int) (pg_sub (pv 0) pe_int set_list)))))) pss_nil)
      (pss_cons (ps_if (pt_cmpR op_gt (pe_ix ix_list (pv 0) pe_int (fun _ _ => rfl)) pe_int (nomark _))
        (pss_cons (ps_set (i := 3) nd rfl (Or.inl rfl) (pe_op op_mod (pe_callTy call_int1 (by rfl) (f_int T) boot_int (pa_cons (pe_ix ix_list (pv 0) pe_int (fun _ _ => rfl)) pa_nil)) (pv 1)))
        (pss_cons (ps_asg (pe_op op_fdiv (pe_ix ix_list (pv 0) pe_int (fun _ _ => rfl)) (pv 1)) (pg_sub (pv 0) pe_int set_list))
        (pss_one (ps_ret (pv 3))))) pss_nil)
      (pss_cons (ps_asg (pe_op op_mod (pe_callTy call_int1 (by rfl) (f_int T) boot_int (pa_cons (pe_op op_add (pe_op op_mul (pe_ix ix_list (pv 0) pe_int (fun _ _ => rfl)) pe_int) pe_int) pa_nil)) pe_int) (pg_sub (pv 0) pe_int set_list))
      (pss_cons (ps_set (i := 4) nd rfl (Or.inl rfl) (pe_op op_mod (pe_callTy call_int1 (by rfl) (f_int T) boot_int (pa_cons (pe_op op_mul (pe_ix ix_list (pv 0) pe_int (fun _ _ => rfl)) (pe_op op_add (pe_op op_fdiv (pe_ix ix_list (pv 0) pe_int (fun _ _ => rfl)) pe_int) pe_int)) pa_nil)) pe_int))
      (pss_one (ps_ret (pe_op op_mod (pe_callTy call_int1 (by rfl) (f_int T) boot_int (pa_cons (pe_op op_fdiv (pv 4) pe_int) pa_nil)) (pv 1)))))))), ?_⟩
    obtain ⟨cs, a, l, sd, h1, h2, h5, h6⟩ := id hh
    have hne := TapeAt.ne h1 h2
    obtain ⟨k, rfl⟩ : ∃ k : Nat, a = k := ⟨a.toNat, (Int.toNat_of_nonneg h5).symm⟩
    refine ⟨_, rfl, h, _, 2, _, rfl, rfl, SqL.of h1, rfl, rfl, _, rfl, ?_⟩
    by_cases hl0 : l = 0
    case' neg =>
      rw [decide_eq_false (show ¬ V.int l = V.int 0 from fun z => hl0 (by injection z))]
      refine iteF ?_
      have hk := hh
      have kb := But.refl h H
    case' pos =>
      rw [decide_eq_true (show V.int l = V.int 0 by rw [hl0])]
      refine iteT ?_
      refine ⟨_, rfl, h, _, 1, _, rfl, rfl, SqL.of h1, rfl, _, rfl, h, _, 0, _, rfl, rfl, SqL.of h1, rfl, _, _, rfl, .inl ⟨_, SqL.of h2, rfl⟩, _, _, rfl, rfl, _, rfl, ?_⟩
      refine ite2 (fun ha => ?_) (fun ha => ?_)
    case' pos.refine_2 =>
      have hk := hh
      have kb := But.refl h H
    case' pos.refine_1 =>
      have ha2 : k < cs.length := by
        have := of_decide_eq_true ha
        rw [List.length_map] at this
        omega
      have ek : (cs.map V.int)[k]? = some (.int cs[k]) := by
        rw [List.getElem?_map, List.getElem?_eq_getElem ha2]
        rfl
      generalize cs[k] = cell at ek
      refine ⟨_, rfl, h, _, 0, _, rfl, rfl, SqL.of h1, rfl, _, rfl, h, _, 1, _, rfl, rfl, SqL.of h1, rfl, ca, _, _, _, rfl, rfl, SqL.of h2, atI_nat ek, ?_⟩
      refine ⟨_, rfl, h, _, 1, _, rfl, rfl, SqL.of h1, rfl, _, _, rfl, rfl, _, rfl, h, _, 1, 1, rfl, rfl, h1, rfl, ?_⟩
      refine ⟨_, rfl, _, _, rfl, rfl, ⟨by decide, by decide, by decide⟩, _, _, rfl, rfl, _, rfl, ?_⟩
      refine ite2 (fun hg => ?_) (fun hg => ?_)
    case' pos.refine_1.refine_2 =>
      have e1 : (upd H h (.lst [.ref ca, .int ((k : Int) + 1), .int l, .int sd])) h = some (.lst [.ref ca, .int ((k : Int) + 1), .int l, .int sd]) := upd_same
      have e2 : (upd H h (.lst [.ref ca, .int ((k : Int) + 1), .int l, .int sd])) ca = some (.lst (cs.map V.int)) := by rw [upd_ne hne]; exact h2
      have kc : But h H (upd H h (.lst [.ref ca, .int ((k : Int) + 1), .int l, .int sd])) := but_upd
      have hl1 : 0 ≤ l := h6
      refine ⟨_, rfl, h, _, 3, _, rfl, rfl, SqL.of upd_same, rfl, _, _, rfl, rfl, .inr ⟨by decide, by decide⟩, _, rfl, .inl ⟨_, rfl, _, _, rfl, rfl, (by show (0 : Int) < _; decide), _, _, rfl, rfl, .inl ⟨_, rfl, _, _, rfl, rfl, (by show (0 : Int) < _; decide), _, rfl, h, _, 3, 3, rfl, rfl, upd_same, rfl, ?_⟩⟩⟩
      have hk : TapeAt ca (upd (upd H h (.lst [.ref ca, .int ((k : Int) + 1), .int l, .int sd])) h (.lst [.ref ca, .int ((k : Int) + 1), .int l, .int ((sd * 48271 + cell % 2147483629) % 2147483647)])) h := ⟨cs, _, _, _, upd_same, by rw [upd_ne hne]; exact e2, by omega, hl1⟩
      have kb : But h H (upd (upd H h (.lst [.ref ca, .int ((k : Int) + 1), .int l, .int sd])) h (.lst [.ref ca, .int ((k : Int) + 1), .int l, .int ((sd * 48271 + cell % 2147483629) % 2147483647)])) := kc.trans but_upd
    case' pos.refine_1.refine_1 =>
      refine ⟨_, rfl, _, rfl, h, _, 2, 2, rfl, rfl, upd_same, rfl, ?_⟩
      have e1 : (upd (upd H h (.lst [.ref ca, .int ((k : Int) + 1), .int l, .int sd])) h (.lst [.ref ca, .int ((k : Int) + 1), .int cell, .int sd])) h = some (.lst [.ref ca, .int ((k : Int) + 1), .int cell, .int sd]) := upd_same
      have e2 : (upd (upd H h (.lst [.ref ca, .int ((k : Int) + 1), .int l, .int sd])) h (.lst [.ref ca, .int ((k : Int) + 1), .int cell, .int sd])) ca = some (.lst (cs.map V.int)) := by rw [upd_ne hne, upd_ne hne]; exact h2
      have kc : But h H (upd (upd H h (.lst [.ref ca, .int ((k : Int) + 1), .int l, .int sd])) h (.lst [.ref ca, .int ((k : Int) + 1), .int cell, .int sd])) := but_upd.trans but_upd
      have hl1 : 0 ≤ cell := by
        have hg : (10 : Int) ^ 18 ≤ cell := of_decide_eq_true hg
        exact Int.le_trans (by decide) hg
      refine ⟨_, rfl, h, _, 3, _, rfl, rfl, SqL.of upd_same, rfl, _, _, rfl, rfl, .inr ⟨by decide, by decide⟩, _, rfl, .inl ⟨_, rfl, _, _, rfl, rfl, (by show (0 : Int) < _; decide), _, _, rfl, rfl, .inl ⟨_, rfl, _, _, rfl, rfl, (by show (0 : Int) < _; decide), _, rfl, h, _, 3, 3, rfl, rfl, upd_same, rfl, ?_⟩⟩⟩
      have hk : TapeAt ca (upd (upd (upd H h (.lst [.ref ca, .int ((k : Int) + 1), .int l, .int sd])) h (.lst [.ref ca, .int ((k : Int) + 1), .int cell, .int sd])) h (.lst [.ref ca, .int ((k : Int) + 1), .int cell, .int ((sd * 48271 + cell % 2147483629) % 2147483647)])) h := ⟨cs, _, _, _, upd_same, by rw [upd_ne hne]; exact e2, by omega, hl1⟩
      have kb : But h H (upd (upd (upd H h (.lst [.ref ca, .int ((k : Int) + 1), .int l, .int sd])) h (.lst [.ref ca, .int ((k : Int) + 1), .int cell, .int sd])) h (.lst [.ref ca, .int ((k : Int) + 1), .int cell, .int ((sd * 48271 + cell % 2147483629) % 2147483647)])) := kc.trans but_upd
    all_goals
      obtain ⟨cs1, a1, l1, sd1, g1, g2, g5, g6⟩ := hk
      have gne := TapeAt.ne g1 g2
      refine ⟨_, rfl, h, _, 2, _, rfl, rfl, SqL.of g1, rfl, _, _, rfl, rfl, _, rfl, ?_⟩
      refine ite2 (fun hc => ?_) (fun hc => ?_)
      · refine ⟨_, rfl, h, _, 2, _, rfl, rfl, SqL.of g1, rfl, .inl ⟨_, rfl, _, rfl, _, _, rfl, rfl, hn0, _, rfl, h, _, 2, _, rfl, rfl, SqL.of g1, rfl, _, rfl, _, _, rfl, rfl, ⟨hn0, hn1⟩, _, rfl, h, _, 2, 2, rfl, rfl, g1, rfl, _, rfl, ?_⟩⟩
        exact q _ _ (Int.emod_nonneg _ (by omega)) (Int.emod_lt_of_pos _ hn0) ⟨cs1, a1, l1 / n, sd1, upd_same, by rw [upd_ne gne]; exact g2, g5, Int.ediv_nonneg g6 (Int.le_of_lt hn0)⟩ (kb.trans but_upd)
      · refine ⟨_, rfl, h, _, 3, _, rfl, rfl, SqL.of g1, rfl, _, _, rfl, rfl, .inr ⟨by decide, by decide⟩, _, _, rfl, rfl, .inl ⟨_, rfl, _, _, rfl, rfl, (by show (0 : Int) < _; decide), _, rfl, h, _, 3, 3, rfl, rfl, g1, rfl, ?_⟩⟩
        refine ⟨_, rfl, h, _, 3, _, rfl, rfl, SqL.of upd_same, rfl, _, rfl, h, _, 3, _, rfl, rfl, SqL.of upd_same, rfl, _, _, rfl, rfl, ⟨by decide, by decide⟩, _, _, rfl, rfl, _, _, rfl, rfl, .inl ⟨Int.lt_of_lt_of_le (by decide) (Int.emod_nonneg _ (by decide)), Int.lt_trans (Int.emod_lt_of_pos _ (by decide)) (by decide)⟩, .inl ⟨_, rfl, _, _, rfl, rfl, (by show (0 : Int) < _; decide), ?_⟩⟩
        refine ⟨_, rfl, _, _, rfl, rfl, ⟨by decide, by decide⟩, .inl ⟨_, rfl, _, rfl, _, _, rfl, rfl, hn0, ?_⟩⟩
        exact q _ _ (Int.emod_nonneg _ (by omega)) (Int.emod_lt_of_pos _ hn0) ⟨cs1, a1, l1, _, upd_same, by rw [upd_ne gne]; exact g2, g5, g6⟩ (kb.trans but_upd)
end
end Fp

set_option Elab.async false
set_option linter.all false
set_option maxRecDepth 100000
set_option maxHeartbeats 4000000
namespace Fp
open PySem PySem.Spec PyProof.Rows L2 TL
def over (z r : Str) : Prop := ∀ b ∈ r.cps.toList, b ∈ z.cps.toList
theorem over_xyz {z r : Str} (hz : xyz z) (h : over z r) : xyz r := fun c hc => hz c (h c hc)
theorem join_over (z : Str) : ∀ ys : List Str, (∀ y ∈ ys, ∃ c, y = ⟨#[c]⟩ ∧ c ∈ z.cps.toList) → over z (PySem.Txt.join "" ys) ∧ (PySem.Txt.join "" ys).length = ys.length := by
  intro ys
  have h0 : ∀ zs : List Str, (∀ y ∈ zs, ∃ c, y = ⟨#[c]⟩ ∧ c ∈ z.cps.toList) → (∀ c ∈ joinL [] (zs.map tl), c ∈ z.cps.toList) ∧ (joinL [] (zs.map tl)).length = zs.length := by
    intro zs
    induction zs with
    | nil => intro _; exact ⟨fun c hc => (by cases hc), rfl⟩
    | cons y r ih =>
      intro h
      obtain ⟨c, rfl, hc⟩ := h y List.mem_cons_self
      obtain ⟨i1, i2⟩ := ih fun z hz => h z (List.mem_cons_of_mem _ hz)
      cases r with
      | nil =>
        refine ⟨fun d hd => ?_, rfl⟩
        have : d = c := by simpa [joinL, tl] using hd
        rw [this]
        exact hc
      | cons z r =>
        have e : joinL [] ((⟨#[c]⟩ :: z :: r : List Str).map tl) = c :: joinL [] ((z :: r).map tl) := rfl
        rw [e]
        refine ⟨fun d hd => ?_, by rw [List.length_cons, i2]; rfl⟩
        rcases List.mem_cons.mp hd with rfl | hd
        · exact hc
        · exact i1 d hd
  intro h
  obtain ⟨h1, h2⟩ := h0 ys h
  have e : tl (PySem.Txt.join "" ys) = joinL [] (ys.map tl) := by
    rw [join_eq, tl_join]
    rfl
  refine ⟨fun c hc => h1 c ?_, ?_⟩
  · rw [← e]
    exact hc
  · rw [len_tl, e, h2]
section
variable {P : Program} {w : World} {K : PySem.W.Frag} {mg : Str → Option Value} {base : Heap}
def spTCk : Sp := fun vs H Q _ => ∃ h ca : Addr, vs = [.ref h] ∧ TapeAt ca H h ∧ ∀ H' c, TapeAt ca H' h → But h H H' → isCk c → Q (.int c) H'
theorem sc_tck : FnScope ["_law_tape_here"] ["_law_tape_here"] (defScope s__law_clock) := ⟨rfl, rfl, rfl, by decide +kernel, rfl, by decide +kernel, by decide +kernel⟩
theorem ok_tck (T : Top K mg) : Ok P w K mg base 2 "_law_clock" ["_law_tape_here"] spTCk := by
  obtain ⟨fd, F⟩ := fn__law_clock T
  refine ⟨⟨fd, ?_, F.bindsN fun _ _ _ _ _ _ us hl => match us, hl with | [_], _ => rfl⟩, g__law_clock T, F.kp⟩
  refine F.ok sc_tck (fun vs H Q E h => ?_) (fun cdv A outer s H vs Q E hr h => ?_)
  · obtain ⟨h, ca, rfl, _⟩ := h
    rfl
  · obtain ⟨h, ca, rfl, hh, q⟩ := h
    refine ⟨_, PSs.nox (pss_one (ps_ret (pe_ix ix_list (pe_lst (pa_cons pe_int (pa_cons pe_int (pa_cons pe_int (pa_cons pe_int (pa_cons pe_int (pa_cons pe_int pa_nil))))))) (pc (ok_tdraw T) hr (pa_cons (pv 0) (pa_cons pe_int pa_nil))) (fun _ _ => rfl)))), ?_⟩
    refine ⟨by show 6 ≤ sizeLine; rw [sizeLine_eq]; decide, fun L hL => ?_⟩
    have hne := (hh.fresh hL).1.symm
    refine ⟨_, rfl, h, ca, 6, rfl, by decide, by decide, hh.same (same_upd hL), fun r H1 hr0 hr1 h1 k1 => ?_⟩
    obtain ⟨n, rfl⟩ : ∃ n : Nat, r = n := ⟨r.toNat, (Int.toNat_of_nonneg hr0).symm⟩
    have hn : n < 6 := by omega
    have e : ∃ c : Int, isCk c ∧ [V.int 2, V.int 3, V.int 2, V.int 3, V.int 5, V.int 7][n]? = some (V.int c) := by
      have : n = 0 ∨ n = 1 ∨ n = 2 ∨ n = 3 ∨ n = 4 ∨ n = 5 := by omega
      rcases this with rfl | rfl | rfl | rfl | rfl | rfl
      · exact ⟨2, .inl rfl, rfl⟩
      · exact ⟨3, .inr (.inl rfl), rfl⟩
      · exact ⟨2, .inl rfl, rfl⟩
      · exact ⟨3, .inr (.inl rfl), rfl⟩
      · exact ⟨5, .inr (.inr (.inl rfl)), rfl⟩
      · exact ⟨7, .inr (.inr (.inr rfl)), rfl⟩
    obtain ⟨c, hc, ec⟩ := e
    refine ⟨L, _, _, _, rfl, rfl, .inl (.inl (k1 _ _ upd_same hne.symm)), atI_nat ec, ?_⟩
    exact q H1 c h1 (fun b o z n => k1 b o (same_upd hL b o z) n) hc
def spTWrd : Sp := fun vs H Q _ => ∃ (h ca : Addr) (z : Str) (m : Nat), vs = [.ref h, .str z, .int m] ∧ TapeAt ca H h ∧ 1 ≤ z.length ∧ z.length ≤ 1000 ∧ m ≤ 1000 ∧ ∀ H' r, TapeAt ca H' h → But h H H' → over z r → r.length ≤ m → Q (.str r) H'
abbrev nTWrd : List Str := ["_law_tape_here", "_law_letters", "_law_most", "_law_k"]
theorem sc_twrd : FnScope nTWrd ["_law_tape_here", "_law_letters", "_law_most"] (defScope s__law_word) := ⟨rfl, rfl, rfl, by decide +kernel, rfl, by decide +kernel, by decide +kernel⟩
theorem ok_twrd (T : Top K mg) : Ok P w K mg base 3 "_law_word" ["_law_tape_here", "_law_letters", "_law_most"] spTWrd := by
  obtain ⟨fd, F⟩ := fn__law_word T
  refine ⟨⟨fd, ?_, F.bindsN fun _ _ _ _ _ _ us hl => match us, hl with | [_, _, _], _ => rfl⟩, g__law_word T, F.kp⟩
  refine F.ok sc_twrd (fun vs H Q E h => ?_) (fun cdv A outer s H vs Q E hr h => ?_)
  · obtain ⟨h, ca, z, m, rfl, _⟩ := h
    rfl
  · obtain ⟨h, ca, z, m, rfl, hh, hz1, hz2, hm, q⟩ := h
    have nd := sc_twrd.nd
    have hs : sizeLine = 16777216 := sizeLine_eq
    have hr1 : Room 1 _ := hr.mono (by decide)
    refine ⟨_, PSs.nox (pss_one (ps_ret (pe_join pe_str (pe_lc (own := [("_law_k", 3)]) (g := gName 3) (tt := tYes) rfl nd (pi_range1 (by rfl) (f_range T) (pa_cons (pc (ok_tdraw T) hr1 (pa_cons (pv 0) (pa_cons (pe_op op_add (pv 2) pe_int) pa_nil))) pa_nil))
      (blkOk_by (N := nTWrd) (sc := defScope s__law_word) (by decide +kernel)) (fun _ _ _ _ _ => pg_name (i := 3) nd rfl (Or.inl rfl)) (fun _ _ _ _ _ => pts_nil)
      (fun _ _ _ _ _ => pe_item_str (pv 1) (pc (ok_tdraw T) hr1 (pa_cons (pv 0) (pa_cons (pe_callB call_len_str (by rfl) (f_len T) PySem.boot_len (pa_cons (pv 1) pa_nil)) pa_nil))) (fun _ _ => rfl)))))), ?_⟩
    refine ⟨⟨_, rfl⟩, ?_⟩
    refine ⟨_, rfl, _, rfl, _, _, rfl, rfl, h, ca, (m : Int) + 1, rfl, by omega, by omega, hh, fun r1 H1 hr0 hr2 hh1 k1 => ?_⟩
    refine ⟨r1, rfl, by omega, by omega, fun D hD => ?_⟩
    obtain ⟨nDh, nDc⟩ := hh1.fresh hD
    refine lc_it walk_range (fun i H' => (∃ ys : List Str, H' D = some (.lst (ys.map V.str)) ∧ ys.length = i ∧ ∀ y ∈ ys, ∃ c, y = ⟨#[c]⟩ ∧ c ∈ z.cps.toList) ∧ TapeAt ca H' h ∧ But h H1 H')
      ⟨⟨[], upd_same, rfl, fun y hy => (by cases hy)⟩, hh1.same (same_upd hD), But.of (same_upd hD)⟩ (fun _ _ _ _ => trivial) ?_ ?_
    · rintro i x H2 H3 hi ⟨⟨ys, p1, p2, p3⟩, p4, p5⟩ ⟨rfl, rfl⟩
      refine ⟨rfl, ?_⟩
      refine ⟨_, rfl, _, rfl, _, rfl, z, rfl, by omega, h, ca, (z.length : Int), rfl, by omega, by omega, p4, fun r2 H4 hr3 hr4 hh4 k4 => ?_⟩
      obtain ⟨n, rfl⟩ : ∃ n : Nat, r2 = n := ⟨r2.toNat, (Int.toNat_of_nonneg hr3).symm⟩
      have hn : n < z.cps.size := by
        have : z.length = z.cps.size := rfl
        omega
      refine ⟨z, _, z.cps[n], rfl, rfl, by omega, by omega, hr4, ?_, ?_⟩
      · rw [Int.toNat_natCast, Array.getElem?_eq_getElem hn]
      · refine ⟨_, k4 _ _ p1 nDh, ?_, ⟨ys ++ [⟨#[z.cps[n]]⟩], ?_, ?_, ?_⟩, ?_, ?_⟩
        · rw [List.length_map]
          omega
        · rw [upd_same, List.map_append]
          rfl
        · rw [List.length_append, p2]
          rfl
        · intro y hy
          rcases List.mem_append.mp hy with hy | hy
          · exact p3 y hy
          · have : y = ⟨#[z.cps[n]]⟩ := by simpa using hy
            exact ⟨_, this, by simp⟩
        · exact hh4.off (d := D) but_upd nDh.symm nDc.symm
        · intro b o z' n'
          have nb : b ≠ D := ne_of_none z' hD
          rw [upd_ne nb]
          exact k4 b o (p5 b o z' n') n'
    · rintro H' ⟨⟨ys, p1, p2, p3⟩, p4, p5⟩
      obtain ⟨j1, j2⟩ := join_over z ys p3
      refine ⟨_, D, ys, rfl, rfl, .inl (.inl (.inl p1)), ?_, ?_⟩
      · have e : (ys.map (·.length)).sum = ys.length := by
          clear p1 p2 j1 j2
          induction ys with
          | nil => rfl
          | cons y r ih =>
            obtain ⟨c, rfl, _⟩ := p3 y List.mem_cons_self
            rw [List.map_cons, List.sum_cons, ih fun w hw => p3 w (List.mem_cons_of_mem _ hw), List.length_cons]
            show 1 + r.length = _
            omega
        rw [e]
        show ys.length + ys.length * 0 ≤ _
        omega
      · exact q H' _ p4 (fun b o z' n' => p5 b o (k1 b o z' n') n') j1 (by omega)
theorem over_put {z : Str} {m : Nat} {l : Tb} {x : Str} {n : Int} (h : OverT z.cps.toList m l) (hx : over z x) (hl : x.length ≤ m) : OverT z.cps.toList m (putT l x n) :=
  ⟨fun p hp => by
    rcases mem_put hp with rfl | hp
    · exact hx
    · exact h.ov p hp, fun p hp => by
    rcases mem_put hp with rfl | hp
    · exact hl
    · exact h.ln p hp⟩
def spTSome : Sp := fun vs H Q _ => ∃ (h ca : Addr) (c : Int) (z : Str) (m k : Nat), vs = [.ref h, .int c, .str z, .int m, .int k] ∧ TapeAt ca H h ∧ 2 ≤ c ∧ c ≤ 7 ∧ xyz z ∧ 1 ≤ z.length ∧ z.length ≤ 1000 ∧ m ≤ 1000 ∧ k ≤ 1000 ∧
  ∀ H' d l, TapeAt ca H' h → But h H H' → H d = none → H' d = some (.dK (kv l)) → VT c m k l → OverT z.cps.toList m l → Q (.ref d) H'
abbrev nTSome : List Str := ["_law_tape_here", "_law_clock_here", "_law_letters", "_law_most", "_law_many", "_law_found", "_law_k"]
theorem sc_tsome : FnScope nTSome ["_law_tape_here", "_law_clock_here", "_law_letters", "_law_most", "_law_many"] (defScope s__law_some) := ⟨rfl, rfl, rfl, by decide +kernel, rfl, by decide +kernel, by decide +kernel⟩
theorem ok_tsome (T : Top K mg) : Ok P w K mg base 4 "_law_some" ["_law_tape_here", "_law_clock_here", "_law_letters", "_law_most", "_law_many"] spTSome := by
  obtain ⟨fd, F⟩ := fn__law_some T
  refine ⟨⟨fd, ?_, F.bindsN fun _ _ _ _ _ _ us hl => match us, hl with | [_, _, _, _, _], _ => rfl⟩, g__law_some T, F.kp⟩
  refine F.ok sc_tsome (fun vs H Q E h => ?_) (fun cdv A outer s H vs Q E hr h => ?_)
  · obtain ⟨h, ca, c, z, m, k, rfl, _⟩ := h
    rfl
  · obtain ⟨h, ca, c, z, m, k, rfl, hh, hc2, hc7, hz, hz1, hz2, hm, hk, q⟩ := h
    have nd := sc_tsome.nd
    have hu := hu_of hr
    have hs : sizeLine = 16777216 := sizeLine_eq
    have hr1 : Room 1 _ := hr.mono (by decide)
    refine ⟨_, PSs.nox (pss_cons (ps_set (i := 5) nd rfl (Or.inl rfl) pe_dnewK)
      (pss_cons (ps_for PassesOwn.never rfl (pi_range1 (by rfl) (f_range T) (pa_cons (pc (ok_tdraw T) hr1 (pa_cons (pv 0) (pa_cons (pe_op op_add (pv 4) pe_int) pa_nil))) pa_nil)) (pg_name (i := 6) nd rfl (Or.inl rfl))
        (pss_one (ps_dput hu (pv 5) (pc (ok_twrd T) hr (pa_cons (pv 0) (pa_cons (pv 2) (pa_cons (pv 3) pa_nil)))) (pe_op op_add pe_int (pc (ok_tdraw T) hr1 (pa_cons (pv 0) (pa_cons (pe_op op_sub (pv 1) pe_int) pa_nil)))) rfl)))
      (pss_one (ps_ret (pv 5))))), ?_⟩
    refine fun F0 hF => ?_
    obtain ⟨nFh, nFc⟩ := hh.fresh hF
    refine ⟨_, rfl, _, rfl, _, _, rfl, rfl, h, ca, (k : Int) + 1, rfl, by omega, by omega, hh.same (same_upd hF), fun r1 H1 hr0 hr2 hh1 k1 => ?_⟩
    refine ⟨r1, rfl, by omega, by omega, ?_⟩
    refine for_it walk_range (fun i σ H' => (∃ v, σ = [some (.ref h), some (.int c), some (.str z), some (.int m), some (.int k), some (.ref F0), v]) ∧ (∃ l, H' F0 = some (.dK (kv l)) ∧ VT c m i l ∧ OverT z.cps.toList m l) ∧ TapeAt ca H' h ∧ But h H H')
      ⟨⟨none, rfl⟩, ⟨[], k1 _ _ upd_same nFh, vt_nil c m, ⟨fun p hp => (by cases hp), fun p hp => (by cases hp)⟩⟩, hh1, fun b o e n => k1 b o (same_upd hF b o e) n⟩ (fun _ _ _ _ _ => trivial) ?_ ?_
    · rintro i x σ H2 H3 hi ⟨⟨v, rfl⟩, ⟨l, p1, p2, p6⟩, p3, p4⟩ ⟨rfl, rfl⟩
      refine ⟨_, rfl, _, rfl, _, _, rfl, rfl, h, ca, c - 1, rfl, by omega, by omega, p3, fun r2 H4 g0 g1 hh4 k4 => ?_⟩
      refine ⟨_, _, rfl, rfl, _, rfl, _, rfl, _, rfl, _, rfl, h, ca, z, m, rfl, hh4, hz1, hz2, hm, fun H5 x5 hh5 k5 hx5 hl5 => ?_⟩
      have e5 : H5 F0 = some (.dK (kv l)) := k5 _ _ (k4 _ _ p1 nFh) nFh
      have hlen := p2.ln
      refine ⟨F0, _, rfl, DPut.k (k := Sum.inr x5) e5 (by rw [kv_len]; omega), ?_⟩
      refine ⟨⟨_, rfl⟩, ⟨putT l x5 (1 + r2), ?_, vt_put p2 (over_xyz hz hx5) hl5 (by omega) (by omega), over_put p6 hx5 hl5⟩, hh5.off but_upd nFh.symm nFc.symm, fun b o e n => ?_⟩
      · rw [upd_same, putK_kv]
      · rw [upd_ne (ne_of_none e hF)]
        exact k5 b o (k4 b o (p4 b o e n) n) n
    · rintro σ H' ⟨⟨v, rfl⟩, ⟨l, p1, p2, p6⟩, p3, p4⟩
      refine ⟨_, rfl, ?_⟩
      exact q H' F0 l p3 p4 hF p1 (p2.mono (Nat.le_refl _) (by omega)) p6
def spFlag : Sp := fun vs H Q _ => ∃ a b : Bool, vs = [.bl a, .bl b] ∧ Q (.bl (decide (a = b))) H
abbrev nFlag : List Str := ["_law_told", "_law_due_here"]
/-- the greatest length, -1 for nothing -/
structure LongOf (l : Tb) (m : Int) : Prop where
  lo : -1 ≤ m
  le : ∀ p ∈ l, (p.1.length : Int) ≤ m
  at_ : m = -1 ∨ ∃ p ∈ l, (p.1.length : Int) = m
theorem unlockT {H H' : Hp} {d : Addr} {o : HO} (hd : H d = some o) (k : But d H H') : Same H (upd H' d o) := fun b x e => by
  by_cases n : b = d
  · rw [n, upd_same, ← hd, ← n, e]
  · rw [upd_ne n]
    exact k b x e n
def spLong : Sp := fun vs H Q _ => ∃ (d : Addr) (l : Tb), vs = [.ref d] ∧ H d = some (.dK (kv l)) ∧ (∀ p ∈ l, p.1.length ≤ 1000) ∧ l.length ≤ 1000000 ∧ ∀ H' m, Same H H' → LongOf l m → Q (.int m) H'
abbrev nLong : List Str := ["_law_words", "_law_word_here"]
end
end Fp

set_option Elab.async false
set_option linter.all false
set_option maxRecDepth 100000
set_option maxHeartbeats 4000000
namespace Fp
open PySem PySem.Spec PyProof.Rows L2
/-! ### reckoned by the clock at each step -/
def addC (c : Int) (es a : Tb) : Tb := es.foldl (fun acc p => putT acc p.1 ((num acc p.1 + p.2) % c)) a
def cleanT (l : Tb) : Tb := l.filter fun p => p.2 != 0
theorem clean_nd {l : Tb} (h : Nd l) : Nd (cleanT l) := by
  unfold Nd cleanT
  have h' : (l.map (·.1)).Nodup := h
  exact (List.filter_sublist.map _).nodup h'
theorem clean_take {l : Tb} {i : Nat} {p : Str × Int} (e : l[i]? = some p) : cleanT (l.take (i + 1)) = if p.2 ≠ 0 then cleanT (l.take i) ++ [p] else cleanT (l.take i) := by
  unfold cleanT
  rw [List.take_add_one, e, List.filter_append]
  by_cases h : p.2 = 0
  · rw [if_neg (fun z => z h)]
    simp [h]
  · rw [if_pos h]
    simp [h]
theorem clean_tot (l : Tb) (x : Str) : tot (cleanT l) x = tot l x := by
  induction l with
  | nil => rfl
  | cons p r ih =>
    unfold cleanT at ih ⊢
    by_cases h : p.2 = 0
    · rw [List.filter_cons_of_neg (by simp [h]), ih, tot_cons, h]
      simp
    · rw [List.filter_cons_of_pos (by simp [h]), tot_cons, tot_cons, ih]
theorem addC_app (c : Int) (a b x : Tb) : addC c (a ++ b) x = addC c b (addC c a x) := by
  unfold addC
  rw [List.foldl_append]
theorem addC_take {c : Int} {es : Tb} {i : Nat} {p : Str × Int} (e : es[i]? = some p) (a : Tb) : addC c (es.take (i + 1)) a = putT (addC c (es.take i) a) p.1 ((num (addC c (es.take i) a) p.1 + p.2) % c) := by
  rw [List.take_add_one, e, addC_app]
  rfl
theorem addC_len (c : Int) : ∀ (es a : Tb), (addC c es a).length ≤ a.length + es.length
  | [], a => Nat.le_refl _
  | p :: r, a => by
    have h1 := addC_len c r (putT a p.1 ((num a p.1 + p.2) % c))
    have h2 := putT_len a p.1 ((num a p.1 + p.2) % c)
    have e : addC c (p :: r) a = addC c r (putT a p.1 ((num a p.1 + p.2) % c)) := rfl
    rw [e, List.length_cons]
    omega
theorem addC_nd (c : Int) : ∀ (es a : Tb), Nd a → Nd (addC c es a)
  | [], a, h => h
  | p :: r, a, h => addC_nd c r _ (nd_put h p.1 _)
theorem addC_rg {c : Int} (hc : 0 < c) : ∀ (es a : Tb), (∀ p ∈ a, 0 ≤ p.2 ∧ p.2 < c) → ∀ p ∈ addC c es a, 0 ≤ p.2 ∧ p.2 < c
  | [], a, h => h
  | p :: r, a, h => addC_rg hc r _ (put_rg h ⟨Int.emod_nonneg _ (by omega), Int.emod_lt_of_pos _ hc⟩)
theorem addC_key (c : Int) : ∀ (es a : Tb) (q : Str × Int), q ∈ addC c es a → (∃ p ∈ a, p.1 = q.1) ∨ ∃ p ∈ es, p.1 = q.1
  | [], a, q, h => .inl ⟨q, h, rfl⟩
  | p :: r, a, q, h => by
    rcases addC_key c r _ q h with ⟨y, h1, h2⟩ | ⟨y, h1, h2⟩
    · rcases key_put h1 with e | ⟨z, hz, e⟩
      · exact .inr ⟨p, List.mem_cons_self, by rw [← h2, e]⟩
      · exact .inl ⟨z, hz, by rw [e, h2]⟩
    · exact .inr ⟨y, List.mem_cons_of_mem _ h1, h2⟩
theorem addC_num {c : Int} : ∀ (es a : Tb) (x : Str), num (addC c es a) x % c = (num a x + tot es x) % c
  | [], a, x => by
    show num a x % c = (num a x + tot [] x) % c
    rw [tot_nil, Int.add_zero]
  | p :: r, a, x => by
    have e : addC c (p :: r) a = addC c r (putT a p.1 ((num a p.1 + p.2) % c)) := rfl
    rw [e, addC_num r _ x, tot_cons]
    by_cases h : p.1 = x
    · rw [if_pos h, ← h, num_put_self, Int.add_emod, Int.emod_emod_of_dvd _ (Int.dvd_refl c), ← Int.add_emod]
      congr 1
      omega
    · rw [if_neg h, num_put_ne _ h, Int.zero_add]
/-- laid together by the clock, then cleaned -/
theorem vt_addC {c : Int} {m k : Nat} {es a : Tb} (hc : 0 < c) (hn : Nd a) (hr : ∀ p ∈ a, 0 ≤ p.2 ∧ p.2 < c) (hw : ∀ p ∈ a ++ es, xyz p.1 ∧ p.1.length ≤ m) (hk : a.length + es.length ≤ k) : VT c m k (cleanT (addC c es a)) ∧ Lk c (cleanT (addC c es a)) (a ++ es) := by
  have n1 := addC_nd c es a hn
  refine ⟨⟨clean_nd n1, fun p hp => ?_, fun p hp => ?_, ?_⟩, fun x => ?_⟩
  · obtain ⟨h1, h2⟩ := List.mem_filter.mp hp
    have h3 := addC_rg hc es a hr p h1
    have h4 : p.2 ≠ 0 := by simpa using h2
    omega
  · obtain ⟨h1, h2⟩ := List.mem_filter.mp hp
    rcases addC_key c es a p h1 with ⟨y, h3, h4⟩ | ⟨y, h3, h4⟩
    · rw [← h4]
      exact hw y (List.mem_append_left _ h3)
    · rw [← h4]
      exact hw y (List.mem_append_right _ h3)
  · exact Nat.le_trans (List.length_filter_le _ _) (Nat.le_trans (addC_len c es a) hk)
  · rw [clean_tot, tot_num n1, addC_num, tot_app, tot_num hn]
section
variable {P : Program} {w : World} {K : PySem.W.Frag} {mg : Str → Option Value} {base : Heap}
def tClA : TE := fun σ H Q => ∃ (x0 x1 x2 x3 x5 x6 : Option V) (d : Addr) (l : Tb), σ = [x0, x1, x2, x3, some (.ref d), x5, x6] ∧ H d = some (.dK (kv l)) ∧ Nd l ∧ l.length ≤ 1000000 ∧
  ∀ H' r, Same H H' → H r = none → H' r = some (.dK (kv (cleanT l))) → Q (.ref r) H'
def spLAdd : Sp := fun vs H Q _ => ∃ (d1 d2 : Addr) (f c : Int) (m1 k1 m2 k2 : Nat) (l1 l2 : Tb), vs = [.int c, .ref d1, .ref d2, .int f] ∧ 0 < c ∧ c ≤ 7 ∧ H d1 = some (.dK (kv l1)) ∧ H d2 = some (.dK (kv l2)) ∧ VT c m1 k1 l1 ∧ VT c m2 k2 l2 ∧ k1 + k2 ≤ 900000 ∧
  ∀ H' D t, Same H H' → H D = none → H' D = some (.dK (kv t)) → VT c (max m1 m2) (k1 + k2) t → Lk c t (l1 ++ scl f l2) → Q (.ref D) H'
abbrev nLAdd : List Str := ["_law_clock_here", "_law_one", "_law_other", "_law_factor", "_law_found", "_law_word_here", "_law_total"]
def tClP : TE := fun σ H Q => ∃ (x0 x1 x2 x4 x5 x6 : Option V) (d : Addr) (l : Tb), σ = [x0, x1, x2, some (.ref d), x4, x5, x6] ∧ H d = some (.dK (kv l)) ∧ Nd l ∧ l.length ≤ 1000000 ∧
  ∀ H' r, Same H H' → H r = none → H' r = some (.dK (kv (cleanT l))) → Q (.ref r) H'
def spLProd : Sp := fun vs H Q _ => ∃ (d1 d2 : Addr) (c : Int) (m1 k1 m2 k2 : Nat) (l1 l2 : Tb), vs = [.int c, .ref d1, .ref d2] ∧ 0 < c ∧ c ≤ 7 ∧ d1 ≠ d2 ∧ H d1 = some (.dK (kv l1)) ∧ H d2 = some (.dK (kv l2)) ∧ VT c m1 k1 l1 ∧ VT c m2 k2 l2 ∧ m1 ≤ 1000 ∧ m2 ≤ 1000 ∧ k1 * k2 ≤ 900000 ∧
  ∀ H' D t, Same H H' → H D = none → H' D = some (.dK (kv t)) → VT c (m1 + m2) (k1 * k2) t → Lk c t (prs l1 l2) → Q (.ref D) H'
abbrev nLProd : List Str := ["_law_clock_here", "_law_one", "_law_other", "_law_found", "_law_front", "_law_back", "_law_word_here"]
end
end Fp

set_option Elab.async false
set_option linter.all false
set_option maxRecDepth 100000
set_option maxHeartbeats 4000000
namespace Fp
open PySem PySem.Spec PyProof.Rows L2
theorem cut_W {w : Str} {i : Nat} (h : i ≤ w.length) : cutS w none (some (i : Int)) = W (w.cps.toList.take i) := PySem.W.str_of_cps (by rw [cut_front_list h, cps_W])
theorem sign_W (x : Str) (n : Nat) : x ++ (⟨#[n]⟩ : Str) = W (x.cps.toList ++ [n]) := PySem.W.str_of_cps (by rw [app_list, cps_W])
theorem allL_len (al : List Nat) : ∀ n, (allL al n).length = al.length ^ n
  | 0 => rfl
  | n + 1 => by
    show ((allL al n).flatMap _).length = _
    rw [List.length_flatMap, Nat.pow_succ, ← allL_len al n]
    have : (fun cs : List Nat => (al.map fun a => cs ++ [a]).length) = fun _ => al.length := by
      funext cs
      rw [List.length_map]
    rw [this]
    generalize allL al n = l
    induction l with
    | nil => simp
    | cons a r ih =>
      rw [List.map_cons, List.sum_cons, ih, List.length_cons, Nat.add_mul]
      omega
section
variable {P : Program} {w : World} {K : PySem.W.Frag} {mg : Str → Option Value} {base : Heap}
def spComes : Sp := fun vs H Q _ => ∃ (c : Int) (d : Addr) (x : Str) (l : Tb), vs = [.int c, .ref d, .str x] ∧ 0 < c ∧ H d = some (.dK (kv l)) ∧ x.length ≤ 1000 ∧ ∀ H', Same H H' → Q (.int (preL l x.cps.toList % c)) H'
abbrev nComes : List Str := ["_law_clock_here", "_law_words", "_law_word_here", "_law_size"]
def spAll : Sp := fun vs H Q _ => ∃ (z : Str) (n : Nat), vs = [.str z, .int n] ∧ 1 ≤ z.length ∧ z.length ≤ 3 ∧ n ≤ 12 ∧ ∀ H' r, Same H H' → H r = none → H' r = some (.lst ((allL z.cps.toList n).map fun cs => V.str (W cs))) → Q (.ref r) H'
abbrev nAll : List Str := ["_law_alphabet", "_law_size", "_law_found", "_law_turn", "_law_longer", "_law_word_here", "_law_letter"]
end
end Fp

set_option Elab.async false
set_option linter.all false
set_option maxRecDepth 100000
set_option maxHeartbeats 4000000
namespace Fp
open PySem PySem.Spec PyProof.Rows L2
/-- one less the bag is something with one less the letters behind it -/
def Qt (c : Int) (al : List Nat) (l : Tb) : Prop := ∃ q, Lk c (C1 l) (prs q (BT al))
theorem qt_iff {c : Int} {al : List Nat} {l : Tb} {L : Nat} (hc : 2 ≤ c) (hn : Nd l) (ha : al.Nodup) (hal : al ≠ []) (ho : OverT al L l) : Qt c al l ↔ FullAt c al l L :=
  ⟨fun ⟨_, e⟩ => full_of_quot hc hn ha hal ho e, fun h => quot_of_full hc hn ha ho h⟩
def isAl (z : Str) : Prop := z = "xy" ∨ z = "xyz"
theorem isAl.len {z : Str} (h : isAl z) : 1 ≤ z.length ∧ z.length ≤ 3 := by rcases h with rfl | rfl <;> decide
theorem isAl.xyz {z : Str} (h : isAl z) : xyz z := by rcases h with rfl | rfl <;> decide +kernel
theorem isAl.nd {z : Str} (h : isAl z) : z.cps.toList.Nodup := by rcases h with rfl | rfl <;> decide +kernel
theorem isAl.ne {z : Str} (h : isAl z) : z.cps.toList ≠ [] := by rcases h with rfl | rfl <;> decide +kernel
theorem LongOf.over {al : List Nat} {L : Nat} {l : Tb} {m : Int} (h : LongOf l m) (ho : OverT al L l) : OverT al (max 0 m).toNat l := ⟨ho.ov, fun p hp => by have := h.le p hp; omega⟩
section
variable {P : Program} {w : World} {K : PySem.W.Frag} {mg : Str → Option Value} {base : Heap}
def spDue : Sp := fun vs H Q _ => ∃ (c : Int) (z : Str) (d : Addr) (L : Nat) (l : Tb), vs = [.int c, .str z, .ref d] ∧ isCk c ∧ isAl z ∧ H d = some (.dK (kv l)) ∧ Nd l ∧ OverT z.cps.toList L l ∧ L ≤ 11 ∧ l.length ≤ 1000000 ∧
  ∀ H' (b : Bool), Same H H' → (b = true ↔ Qt c z.cps.toList l) → Q (.bl b) H'
abbrev nDue : List Str := ["_law_clock_here", "_law_alphabet", "_law_words", "_law_long_here", "_law_size", "_law_word_here"]
end
end Fp

set_option Elab.async false
set_option linter.all false
set_option maxRecDepth 100000
set_option maxHeartbeats 4000000
namespace Fp
open PySem PySem.Spec PyProof.Rows L2
theorem strip_over {w z : Str} (hz : isAl z) (h : over z w) : PySem.Txt.stripChars w z = (Str.ofString "") := by
  have hg : ∀ c ∈ w.cps.toList, (z.cps.contains c) = true := fun c hc => by
    rcases hz with rfl | rfl
    · have h1 : c ∈ ([120, 121] : List Nat) := h c hc
      have : c = 120 ∨ c = 121 := by simpa using h1
      rcases this with e | e <;> subst e <;> decide +kernel
    · have h1 : c ∈ ([120, 121, 122] : List Nat) := h c hc
      have : c = 120 ∨ c = 121 ∨ c = 122 := by simpa using h1
      rcases this with e | e | e <;> subst e <;> decide +kernel
  have ht : w.cps.toList.takeWhile z.cps.contains = w.cps.toList := tw_self hg
  have hlo : stripLo z.cps.contains true w = w.cps.toList.length := by
    unfold stripLo
    rw [if_pos rfl, ht]
  have hsz : w.length = w.cps.toList.length := by simp [Str.length]
  unfold PySem.Txt.stripChars PySem.Txt.stripBy
  cases e : stripSame z.cps.contains true true w with
  | true =>
    rw [if_pos rfl]
    unfold stripSame at e
    rw [hlo] at e
    simp only [Bool.and_eq_true, beq_iff_eq] at e
    have e0 : w.cps.toList = [] := List.length_eq_zero_iff.mp e.1
    obtain ⟨a⟩ := w
    have : a = #[] := by simpa using e0
    subst this
    rfl
  | false =>
    rw [if_neg Bool.false_ne_true]
    unfold stripped
    rw [hlo]
    have hhi : stripHi z.cps.contains true w w.cps.toList.length = w.length := by
      unfold stripHi
      rw [if_pos rfl, List.drop_length]
      simp
    rw [hhi, hsz]
    unfold Builtin.Str.strSub
    simp
    rfl
theorem vt_AT {c : Int} (hc : 2 ≤ c) {z : Str} (hz : isAl z) : VT c 1 3 (AT z.cps.toList) := by
  have e : AT z.cps.toList = z.cps.toList.map fun a => (W [a], 1) := rfl
  refine ⟨?_, fun p hp => ?_, fun p hp => ?_, ?_⟩
  · show ((AT z.cps.toList).map (·.1)).Nodup
    rw [e, List.map_map]
    exact List.Pairwise.map _ (fun a b hne y => hne (by have := W_inj y; simpa using this)) hz.nd
  · obtain ⟨a, _, rfl⟩ := List.mem_map.mp (e ▸ hp)
    exact ⟨by show (1 : Int) ≤ 1; decide, by show (1 : Int) < c; omega⟩
  · obtain ⟨a, ha, rfl⟩ := List.mem_map.mp (e ▸ hp)
    refine ⟨fun b hb => ?_, by show (W [a]).length ≤ 1; rw [W_len]; exact Nat.le_refl _⟩
    have hb' : b ∈ (W [a]).cps.toList := hb
    rw [cps_W] at hb'
    have : b = a := by simpa using hb'
    rw [this]
    exact hz.xyz a ha
  · rw [e, List.length_map, len_list]
    exact hz.len.2
theorem AT_take {al : List Nat} {i a : Nat} (e : al[i]? = some a) : AT (al.take (i + 1)) = AT (al.take i) ++ [(W [a], 1)] := by
  unfold AT
  rw [List.take_add_one, e, List.map_append]
  rfl
section
variable {P : Program} {w : World} {K : PySem.W.Frag} {mg : Str → Option Value} {base : Heap}
def spLess (K : PySem.W.Frag) : Sp := fun vs H Q E => ∃ (a b : Addr) (c : Int) (m k m' k' : Nat) (l l' : Tb), vs = [.ref a, .ref b] ∧ Bg K H a c m k l ∧ Bg K H b c m' k' l' ∧ isCk c ∧ m ≤ 1000 ∧ m' ≤ 1000 ∧ k + k' ≤ 400000 ∧
  ∀ H' r t, Same H H' → H r = none → Bg K H' r c (max m m') (k + k') t → Lk c t (l ++ scl (-1) l') → Q (.ref r) H'
abbrev nLess : List Str := ["one", "other"]
theorem sc_less : FnScope nLess nLess (defScope s_less) := ⟨rfl, rfl, rfl, by decide +kernel, rfl, by decide +kernel, by decide +kernel⟩
theorem ok_less (T : Top K mg) : OkX P w K mg base 8 "less" nLess (spLess K) := by
  obtain ⟨fd, F⟩ := fn_less T
  refine ⟨⟨fd, ?_, F.bindsN fun _ _ _ _ _ _ us hl => match us, hl with | [_, _], _ => rfl⟩, g_less T, F.kp⟩
  refine F.ok sc_less (fun vs H Q E h => ?_) (fun cdv A outer s H vs Q E hr h => ?_)
  · obtain ⟨a, b, c, m, k, m', k', l, l', rfl, _⟩ := h
    rfl
  · obtain ⟨a, b, c, m, k, m', k', l, l', rfl, h1, h2, hck, hm, hm', hk, q1⟩ := h
    have hr1 : Room 1 _ := hr.mono (by decide)
    have hr2 : Room 2 _ := hr.mono (by decide)
    obtain ⟨hc2, hc7⟩ := ck_range hck
    have hc0 : 0 < c := by omega
    obtain ⟨dx, t, ea, wa⟩ := id h1.1
    refine ⟨_, pss_cons (ps_expr (pcX (takes_of rfl rfl rfl rfl) (ok_check_clocks T) hr1 (pa_cons (pv 0) (pa_cons (pv 1) pa_nil))))
      (pss_one (ps_ret (pc (ok_bag_of T) hr (pa_cons (pe_fld (pv 0) rfl) (pa_cons (pc (ok_added T) hr2 (pa_cons (pc (ok_table_of T) hr1 (pa_cons (pv 0) pa_nil)) (pa_cons (pc (ok_table_of T) hr1 (pa_cons (pv 1) pa_nil)) (pa_cons (pe_un un_neg pe_int) (pa_cons (pe_fld (pv 0) rfl) pa_nil))))) pa_nil))))), ?_⟩
    refine ⟨_, rfl, _, rfl, a, b, c, c, _, _, rfl, h1.1, h2.1, fun _ => ?_, fun hcc => absurd rfl hcc⟩
    have v1 := vt_canon h1.2
    have v2 := vt_canon h2.2
    refine ⟨_, rfl, a, _, dx, _, _, rfl, ea, cls_Bag T, na_Bag_clock T, flds_clock _ _, ?_⟩
    refine ⟨_, rfl, a, c, canon l, rfl, h1.1, v1.nd, fun D1 hD1 => ?_⟩
    have s1 := same_upd (o := .dK (kv (canon l))) hD1
    refine ⟨_, rfl, b, c, canon l', rfl, h2.1.same s1, v2.nd, fun D2 hD2 => ?_⟩
    have s2 := same_upd (o := .dK (kv (canon l'))) hD2
    refine ⟨_, rfl, _, rfl, a, _, dx, _, _, rfl, s2 _ _ (s1 _ _ ea), cls_Bag T, na_Bag_clock T, flds_clock _ _, ?_⟩
    refine ⟨D1, D2, -1, c, canon l, canon l', rfl, hc0, hc7, s2 _ _ upd_same, upd_same, v1.nd, v2.nu, Nat.le_trans v1.ln (by omega), Nat.le_trans v2.ln (by omega), fun H3 D3 s3 n3 e3 => ?_⟩
    obtain ⟨w1, w2⟩ := vt_sum (f := -1) hc0 v1 v2
    obtain ⟨w3, w4⟩ := vt_again hc0 w1
    refine ⟨c, D3, _, rfl, hck, e3, w1.nd, fun p hp => Nat.le_trans (w1.wd p hp).2 (by omega), Nat.le_trans w1.ln (by omega), fun H4 r s4 n4 hb4 => ?_⟩
    have s := ((s1.trans s2).trans s3)
    exact q1 H4 r _ (s.trans s4) (s.free n4) ⟨hb4, w3⟩ (w4.trans (w2.trans ((lk_canon h1.2.nd).app (Lk.scl (-1) (lk_canon h2.2.nd)))))
def spOnly (K : PySem.W.Frag) : Sp := fun vs H Q _ => ∃ (a : Addr) (c : Int) (L : Tb) (z : Str), vs = [.ref a, .str z] ∧ BagAt K H a c L ∧ isAl z ∧ (∀ p ∈ L, over z p.1 ∧ p.1.length ≤ 1000) ∧ L.length ≤ 1000000 ∧ ∀ H', Same H H' → Q (.bl true) H'
abbrev nOnly : List Str := ["bag", "letters", "word", "_"]
theorem sc_only : FnScope nOnly ["bag", "letters"] (defScope s_has_only) := ⟨rfl, rfl, rfl, by decide +kernel, rfl, by decide +kernel, by decide +kernel⟩
theorem ok_only (T : Top K mg) : Ok P w K mg base 1 "has_only" ["bag", "letters"] (spOnly K) := by
  obtain ⟨fd, F⟩ := fn_has_only T
  refine ⟨⟨fd, ?_, F.bindsN fun _ _ _ _ _ _ us hl => match us, hl with | [_, _], _ => rfl⟩, g_has_only T, F.kp⟩
  refine F.ok sc_only (fun vs H Q E h => ?_) (fun cdv A outer s H vs Q E hr h => ?_)
  · obtain ⟨a, c, L, z, rfl, _⟩ := h
    rfl
  · obtain ⟨a, c, L, z, rfl, ⟨dx, t, ea, wt⟩, hz, hw, hl, q⟩ := h
    have nd := sc_only.nd
    have hs : sizeLine = 16777216 := sizeLine_eq
    obtain ⟨ps, o, e1, e2, e3⟩ := WordsAt.get wt
    refine ⟨_, PSs.nox (pss_one (ps_ret (pe_callB (cr_all rfl) (by rfl) (f_all T) (by decide +kernel) (pa_cons (pe_lc (own := [("word", 2), ("_", 3)]) (g := gPair K 2 3) (tt := tYes) rfl nd (pi_tup (pe_fld (pv 0) rfl)) (blkOk_by (N := nOnly) (sc := defScope s_has_only) (by decide +kernel))
        (fun _ _ _ _ _ => pg_tup rfl (pgs_cons (pg_name (i := 2) nd rfl (Or.inl rfl)) (pgs_cons (pg_name (i := 3) nd rfl (Or.inl rfl)) pgs_nil)))
        (fun _ _ _ _ _ => by exact pts_nil) (fun _ _ _ _ _ => by exact (pe_cmpR op_eq (pe_m1 PySem.F.slot_str_strip PySem.F.type_str_strip mt_stripChars (pv 2) (pv 1)) pe_str (nomark _)))) pa_nil)))), ?_⟩
    refine ⟨_, rfl, a, _, dx, _, _, rfl, ea, cls_Bag T, na_Bag_words T, flds_words _ _, ?_⟩
    refine ⟨t, rfl, ⟨_, .inl (.inr ⟨o, e1⟩)⟩, fun D hD => ?_⟩
    refine lc_it (walk_tup (xs := ps.map V.ref)) (fun i H' => H' D = some (.lst ((List.replicate i true).map V.bl)) ∧ Same H H') ⟨upd_same, same_upd hD⟩ (fun i H' _ hP => .inl (.inr ⟨o, hP.2 _ _ e1⟩)) ?_ ?_
    · rintro i x H1 H2 hi ⟨p1, p2⟩ ⟨rfl, e⟩
      rw [List.length_map, e2] at hi
      have ep : L[i]? = some L[i] := List.getElem?_eq_getElem hi
      generalize L[i] = p at ep
      obtain ⟨b, h1, h2⟩ := e3 i p ep
      rw [List.getElem?_map, h1] at e
      have e5 : V.ref b = x := Option.some.inj e
      subst e5
      obtain ⟨hov, hln⟩ := hw p (List.mem_of_getElem? ep)
      refine ⟨b, _, rfl, .inl (.inl (p2 _ _ h2)), rfl, ?_⟩
      refine ⟨_, _, rfl, _, _, rfl, rfl, rfl, ?_⟩
      refine ⟨_, rfl, ⟨p.1, rfl⟩, _, rfl, p.1, z, rfl, rfl, by omega, rfl, ?_⟩
      rw [strip_over hz hov]
      refine ⟨_, p1, ?_, ?_, fun b' o' y => ?_⟩
      · rw [List.length_map, List.length_replicate]
        omega
      · rw [upd_same, List.replicate_succ', List.map_append]
        rfl
      · rw [upd_ne (ne_of_none y hD)]
        exact p2 _ _ y
    · rintro H' ⟨p1, p2⟩
      refine ⟨D, List.replicate _ true, rfl, .inl (.inl p1), ?_⟩
      rw [show (List.replicate (ps.map V.ref).length true).all id = true by simp]
      exact q H' p2
def spCkAl : Sp := fun vs H Q _ => ∃ z : Str, vs = [.str z] ∧ isAl z ∧ Q .non H
theorem sc_ckal : FnScope ["thing"] ["thing"] (defScope s_check_alphabet) := ⟨rfl, rfl, rfl, by decide +kernel, rfl, by decide +kernel, by decide +kernel⟩
theorem ok_ckal (T : Top K mg) : Ok P w K mg base 1 "check_alphabet" ["thing"] spCkAl := by
  obtain ⟨fd, F⟩ := fn_check_alphabet T
  refine ⟨⟨fd, ?_, F.bindsN fun _ _ _ _ _ _ us hl => match us, hl with | [_], _ => rfl⟩, g_check_alphabet T, F.kp⟩
  refine F.ok sc_ckal (fun vs H Q E h => ?_) (fun cdv A outer s H vs Q E hr h => ?_)
  · obtain ⟨z, rfl, _⟩ := h
    rfl
  · obtain ⟨z, rfl, hz, q⟩ := h
    refine ⟨_, PSs.nox (pss_one (ps_if (pt_cmpR op_notIn_seq (pv 0) (pe_glob (v := .ref (He.ga K "ALPHABETS")) rfl (g_ALPHABETS T) rfl) (by rfl)) (pss_one ps_never) pss_nil)), ?_⟩
    refine ⟨_, rfl, _, _, rfl, .inr (x_ALPHABETS T _), rfl, rfl, _, rfl, ?_⟩
    have e : (if true = true then !inV (V.str z) [.str "xy", .str "xyz"] else inV (V.str z) [.str "xy", .str "xyz"]) = false := by
      rcases hz with rfl | rfl <;> decide +kernel
    rw [e]
    exact iteF q
def spCkOv (K : PySem.W.Frag) : Sp := fun vs H Q _ => ∃ (a : Addr) (c : Int) (L : Tb) (z : Str), vs = [.str z, .ref a] ∧ BagAt K H a c L ∧ isAl z ∧ (∀ p ∈ L, over z p.1 ∧ p.1.length ≤ 1000) ∧ L.length ≤ 1000000 ∧ ∀ H', Same H H' → Q .non H'
theorem sc_ckov : FnScope ["alphabet", "bag"] ["alphabet", "bag"] (defScope s_check_over) := ⟨rfl, rfl, rfl, by decide +kernel, rfl, by decide +kernel, by decide +kernel⟩
theorem ok_ckov (T : Top K mg) : Ok P w K mg base 2 "check_over" ["alphabet", "bag"] (spCkOv K) := by
  obtain ⟨fd, F⟩ := fn_check_over T
  refine ⟨⟨fd, ?_, F.bindsN fun _ _ _ _ _ _ us hl => match us, hl with | [_, _], _ => rfl⟩, g_check_over T, F.kp⟩
  refine F.ok sc_ckov (fun vs H Q E h => ?_) (fun cdv A outer s H vs Q E hr h => ?_)
  · obtain ⟨a, c, L, z, rfl, _⟩ := h
    rfl
  · obtain ⟨a, c, L, z, rfl, hb, hz, hw, hl, q⟩ := h
    refine ⟨_, PSs.nox (pss_cons (ps_expr (pc (ok_ckal T) hr (pa_cons (pv 0) pa_nil)))
      (pss_one (ps_if (pt_not (pt_val (pc (ok_only T) hr (pa_cons (pv 1) (pa_cons (pv 0) pa_nil))))) (pss_one ps_never) pss_nil))), ?_⟩
    refine ⟨_, rfl, z, rfl, hz, ?_⟩
    exact ⟨_, rfl, _, rfl, a, c, L, z, rfl, hb, hz, hw, hl, fun H' s' => ⟨true, rfl, iteF (q H' s')⟩⟩
end
end Fp

set_option Elab.async false
set_option linter.all false
set_option maxRecDepth 100000
set_option maxHeartbeats 4000000
namespace Fp
open PySem PySem.Spec PyProof.Rows L2
theorem over_of {z : Str} {L : Nat} {l : Tb} (h : OverT z.cps.toList L l) (hL : L ≤ 1000) : ∀ p ∈ l, over z p.1 ∧ p.1.length ≤ 1000 := fun p hp => ⟨h.ov p hp, Nat.le_trans (h.ln p hp) hL⟩
theorem over_canon {c : Int} {m k : Nat} {al : List Nat} {L : Nat} {l : Tb} (v : VT c m k l) (h : OverT al L l) : OverT al L (canon l) := by
  have key : ∀ p ∈ canon l, ∃ q ∈ l, q.1 = p.1 := fun p hp => by
    obtain ⟨q, hq, e⟩ := List.mem_map.mp ((canon_key v p.1).mp (List.mem_map.mpr ⟨p, hp, rfl⟩))
    exact ⟨q, hq, e⟩
  refine ⟨fun p hp => ?_, fun p hp => ?_⟩
  · obtain ⟨q, hq, e⟩ := key p hp
    rw [← e]
    exact h.ov q hq
  · obtain ⟨q, hq, e⟩ := key p hp
    rw [← e]
    exact h.ln q hq
theorem bt_ne {c : Int} {m k : Nat} {z : Str} {t : Tb} (hc : 2 ≤ c) (hz : isAl z) (e : Lk c t (BT z.cps.toList)) : t ≠ [] := fun y => by
  have h := e (W [120])
  rw [y, tot_nil, Int.zero_emod] at h
  have h2 : tot (BT z.cps.toList) (W [120]) = -1 := by rcases hz with rfl | rfl <;> decide +kernel
  rw [h2] at h
  have h3 : (-1 : Int) % c = c - 1 := by
    rw [← Int.add_mul_emod_self_left (-1) c 1, Int.mul_one, Int.emod_eq_of_lt (by omega) (by omega)]
    omega
  omega
section
variable {P : Program} {w : World} {K : PySem.W.Frag} {mg : Str → Option Value} {base : Heap}
def spBeg (K : PySem.W.Frag) : Sp := fun vs H Q _ => ∃ (a : Addr) (c : Int) (z : Str) (m k L : Nat) (l : Tb), vs = [.str z, .ref a] ∧ Bg K H a c m k l ∧ isCk c ∧ isAl z ∧ OverT z.cps.toList L l ∧ L ≤ 1000 ∧ m ≤ 100 ∧ k ≤ 1900 ∧
  ∀ H' x, Same H H' → OptB K H' c (max 0 m) ((1 + k) + (1 + k) * ((max 0 m + 1) * ((1 + 3) + 1))) x (fun q => Lk c (C1 l) (prs q (BT z.cps.toList))) → Q x H'
abbrev nBeg : List Str := ["alphabet", "bag", "one", "letters", "letter"]
theorem sc_beg : FnScope nBeg ["alphabet", "bag"] (defScope s_beginnings) := ⟨rfl, rfl, rfl, by decide +kernel, rfl, by decide +kernel, by decide +kernel⟩
theorem ok_beg (T : Top K mg) : Ok P w K mg base 10 "beginnings" ["alphabet", "bag"] (spBeg K) := by
  obtain ⟨fd, F⟩ := fn_beginnings T
  refine ⟨⟨fd, ?_, F.bindsN fun _ _ _ _ _ _ us hl => match us, hl with | [_, _], _ => rfl⟩, g_beginnings T, F.kp⟩
  refine F.ok sc_beg (fun vs H Q E h => ?_) (fun cdv A outer s H vs Q E hr h => ?_)
  · obtain ⟨a, c, z, m, k, L, l, rfl, _⟩ := h
    rfl
  · obtain ⟨a, c, z, m, k, L, l, rfl, hb, hck, hz, ho, hL, hm, hk, q⟩ := h
    have nd := sc_beg.nd
    have hs : sizeLine = 16777216 := sizeLine_eq
    have hr2 : Room 2 _ := hr.mono (by decide)
    have hr7 : Room 7 _ := hr.mono (by decide)
    have hr8 : Room 8 _ := hr.mono (by decide)
    have hr9 : Room 9 _ := hr.mono (by decide)
    obtain ⟨hc2, hc7⟩ := ck_range hck
    have hc0 : 0 < c := by omega
    have hzs : z.cps.toList.length = z.length := len_list z
    have vc := vt_canon hb.2
    have vU : VT c 0 1 oneM := vt_unit hc2 0
    have vA := vt_AT hc2 hz
    refine ⟨_, PSs.nox (pss_cons (ps_expr (pc (ok_ckov T) hr2 (pa_cons (pv 0) (pa_cons (pv 1) pa_nil))))
      (pss_cons (ps_set (i := 2) nd rfl (Or.inl rfl) (pc (ok_bag_of T) hr7 (pa_cons (pe_fld (pv 1) rfl) (pa_cons (pe_disp (pps_cons pe_str pe_int pps_nil) (by rfl) (by rfl) (fun z => by cases z) (by decide)) pa_nil))))
      (pss_cons (ps_set (i := 3) nd rfl (Or.inl rfl) (pc (ok_bag_of T) hr7 (pa_cons (pe_fld (pv 1) rfl) (pa_cons (pe_dc (own := [("letter", 4)]) (g := gName 4) (tt := tYes) (tk := tVar 4) (tv := tC (.int 1)) rfl nd (pi_str (pv 0)) (blkOk_by (N := nBeg) (sc := defScope s_beginnings) (by decide +kernel))
        (fun _ _ _ _ _ => pg_name (i := 4) nd rfl (Or.inl rfl)) (fun _ _ _ _ _ => by exact pts_nil) (fun _ _ _ _ _ => by exact (pv 4)) (fun _ _ _ _ _ => by exact pe_int)) pa_nil))))
      (pss_one (ps_ret (pc (ok_Ahead T) hr9 (pa_cons (pcL (ok_less T) hr8 (pa_cons (pv 2) (pa_cons (pv 1) pa_nil))) (pa_cons (pcL (ok_less T) hr8 (pa_cons (pv 2) (pa_cons (pv 3) pa_nil))) pa_nil)))))))), ?_⟩
    refine ⟨_, rfl, _, rfl, a, c, canon l, z, rfl, hb.1, hz, over_of (over_canon hb.2 ho) hL, Nat.le_trans vc.ln (by omega), fun H1 s1 => ?_⟩
    obtain ⟨dx, t, ea, wa⟩ := (hb.same s1).1
    refine ⟨_, rfl, a, _, dx, _, _, rfl, ea, cls_Bag T, na_Bag_clock T, flds_clock _ _, ?_⟩
    refine fun p np => ⟨upd_same, kv oneM, rfl, Nat.le_of_ble_eq_true rfl, ?_⟩
    rw [upd_upd, merge_kv vU.nd]
    have s2 := same_upd (o := .dK (kv oneM)) np
    refine ⟨c, p, oneM, rfl, hck, upd_same, vU.nd, fun y hy => Nat.le_trans (vU.wd y hy).2 (by decide), by decide, fun H3 b3 s3 n3 hb3 => ?_⟩
    have hb3 : Bg K H3 b3 c 0 1 oneM := by
      obtain ⟨w3, w4⟩ := vt_again hc0 vU
      exact ⟨lk_same hc0 w3 vU w4 ▸ hb3, vU⟩
    have s13 := (s1.trans s2).trans s3
    have ea3 := s3 _ _ (s2 _ _ ea)
    refine ⟨_, rfl, a, _, dx, _, _, rfl, ea3, cls_Bag T, na_Bag_clock T, flds_clock _ _, ?_⟩
    refine ⟨_, rfl, z, rfl, fun D hD => ?_⟩
    refine dc_it walk_str (fun i H' => H' D = some (.dK (kv (AT (z.cps.toList.take i)))) ∧ Same H3 H') ⟨upd_same, same_upd hD⟩ (fun _ _ _ _ => trivial) ?_ ?_
    · rintro i v H5 H6 hi ⟨q1, q2⟩ ⟨rfl, ch, ech, rfl⟩
      have ech' : z.cps.toList[i]? = some ch := by rw [Array.getElem?_toList]; exact ech
      refine ⟨rfl, ?_⟩
      have hi3 : i < 3 := by
        have := hz.len.2
        have e : z.cps.size = z.length := rfl
        omega
      have hh : has (AT (z.cps.toList.take i)) (W [ch]) = false := by
        rw [← Bool.not_eq_true, has_iff]
        intro hm'
        obtain ⟨q0, h3, h4⟩ := List.mem_map.mp hm'
        obtain ⟨a', h5, rfl⟩ := List.mem_map.mp (show q0 ∈ (z.cps.toList.take i).map fun a => (W [a], (1 : Int)) from h3)
        have e6 : a' = ch := by have := W_inj h4; simpa using this
        subst e6
        have hn := hz.nd
        rw [← List.take_append_drop (i + 1) z.cps.toList] at hn
        have hn1 := (List.nodup_append.mp hn).1
        rw [List.take_add_one, ech'] at hn1
        exact (List.nodup_append.mp hn1).2.2 a' h5 a' (by simp) rfl
      refine ⟨_, rfl, _, Sum.inr (W [ch]), rfl, q1, ?_, ?_, fun y u zz => ?_⟩
      · rw [kv_len]
        unfold AT
        rw [List.length_map, List.length_take]
        omega
      · rw [upd_same, putK_kv, AT_take ech']
        unfold putT
        rw [hh, if_neg Bool.false_ne_true]
      · rw [upd_ne (ne_of_none zz hD)]
        exact q2 y u zz
    rintro H5 ⟨q1, q2⟩
    rw [show z.cps.size = z.cps.toList.length from by rw [hzs]; rfl, List.take_length] at q1
    refine ⟨c, D, _, rfl, hck, q1, vA.nd, fun y hy => Nat.le_trans (vA.wd y hy).2 (by decide), Nat.le_trans vA.ln (by decide), fun H6 b6 s6 n6 hb6 => ?_⟩
    have hb6 : Bg K H6 b6 c 1 3 (AT z.cps.toList) := by
      obtain ⟨w3, w4⟩ := vt_again hc0 vA
      exact ⟨lk_same hc0 w3 vA w4 ▸ hb6, vA⟩
    have s36 := q2.trans s6
    have s16 := s13.trans s36
    refine ⟨_, rfl, _, rfl, b3, a, c, 0, 1, m, k, oneM, l, rfl, hb3.same s36, hb.same s16, hck, by decide, by omega, by omega, fun H7 r7 t7 s7 n7 g7 k7 => ?_⟩
    refine ⟨_, rfl, _, rfl, b3, b6, c, 0, 1, 1, 3, oneM, AT z.cps.toList, rfl, (hb3.same s36).same s7, hb6.same s7, hck, by decide, by decide, by decide, fun H8 r8 t8 s8 n8 g8 k8 => ?_⟩
    try dsimp only [tNil, List.append_nil]
    have hbig : (1 + k) + (1 + k) * ((max 0 m + 1) * ((1 + 3) + 1)) ≤ 1000000 := by
      have h1 : (max 0 m + 1) * ((1 + 3) + 1) ≤ 505 := by omega
      have h2 : (1 + k) * ((max 0 m + 1) * ((1 + 3) + 1)) ≤ 1901 * 505 := Nat.mul_le_mul (by omega) h1
      omega
    refine ahead_opt (g7.same s8) g8 hck (by omega) (by decide) (by decide) (by omega) hbig (bt_ne (m := 0) (k := 0) hc2 hz k8) (fun H9 x s9 ox => ?_)
    refine q H9 x ((s16.trans (s7.trans s8)).trans s9) (ox.imp fun q0 => ⟨fun e => k7.symm.trans (e.trans (Lk.prs_r q0 k8)), fun e => k7.trans (e.trans (Lk.prs_r q0 k8.symm))⟩)
def spFull (K : PySem.W.Frag) : Sp := fun vs H Q _ => ∃ (a : Addr) (c : Int) (z : Str) (m k L : Nat) (l : Tb), vs = [.str z, .ref a] ∧ Bg K H a c m k l ∧ isCk c ∧ isAl z ∧ OverT z.cps.toList L l ∧ L ≤ 1000 ∧ m ≤ 100 ∧ k ≤ 1900 ∧
  ∀ H' (b : Bool), Same H H' → (b = true ↔ Qt c z.cps.toList l) → Q (.bl b) H'
abbrev nFull : List Str := ["alphabet", "thing"]
theorem sc_full : FnScope nFull nFull (defScope s_is_full) := ⟨rfl, rfl, rfl, by decide +kernel, rfl, by decide +kernel, by decide +kernel⟩
theorem ok_full (T : Top K mg) : Ok P w K mg base 11 "is_full" nFull (spFull K) := by
  obtain ⟨fd, F⟩ := fn_is_full T
  refine ⟨⟨fd, ?_, F.bindsN fun _ _ _ _ _ _ us hl => match us, hl with | [_, _], _ => rfl⟩, g_is_full T, F.kp⟩
  refine F.ok sc_full (fun vs H Q E h => ?_) (fun cdv A outer s H vs Q E hr h => ?_)
  · obtain ⟨a, c, z, m, k, L, l, rfl, _⟩ := h
    rfl
  · obtain ⟨a, c, z, m, k, L, l, rfl, hb, hck, hz, ho, hL, hm, hk, q⟩ := h
    have hr1 : Room 1 _ := hr.mono (by decide)
    obtain ⟨dx, t, ea, wa⟩ := id hb.1
    have vc := vt_canon hb.2
    refine ⟨_, PSs.nox (pss_cons (ps_expr (pc (ok_ckal T) hr1 (pa_cons (pv 0) pa_nil)))
      (pss_cons (ps_if (PW.pt (pw_or (pt_not (pt_val (pe_callB call_isi (by rfl) (f_isinstance T) (by decide +kernel) (pa_cons (pv 1) (pa_cons (pe_glob (v := .ref (He.ga K "Bag")) rfl (g_Bag T) rfl) pa_nil)))))
          (pw_or1 (pt_not (pt_val (pc (ok_only T) hr1 (pa_cons (pv 1) (pa_cons (pv 0) pa_nil)))))))) (pss_one (ps_ret pe_bl)) pss_nil)
      (pss_one (ps_ret (pe_cmp (pc_notN (pc (ok_beg T) hr (pa_cons (pv 0) (pa_cons (pv 1) pa_nil))))))))), ?_⟩
    refine ⟨_, rfl, z, rfl, hz, ?_⟩
    refine ⟨_, rfl, _, _, _, _, true, rfl, .own _, .base (.ins ea (cls_Bag T) (x_class T) (x_get T) (x_takes T) (x_mro T)), x_is T, true, rfl, iteF ?_⟩
    refine ⟨_, rfl, _, rfl, a, c, canon l, z, rfl, hb.1, hz, over_of (over_canon hb.2 ho) hL, Nat.le_trans vc.ln (by omega), fun H1 s1 => ⟨true, rfl, iteF ?_⟩⟩
    refine ⟨_, rfl, _, rfl, a, c, z, m, k, L, l, rfl, hb.same s1, hck, hz, ho, hL, hm, hk, fun H2 x s2 ox => ?_⟩
    rcases ox with ⟨rfl, hno⟩ | ⟨r, q0, rfl, _, hq⟩
    · exact q H2 false (s1.trans s2) ⟨fun y => Bool.noConfusion y, fun ⟨q, e⟩ => absurd e (hno q)⟩
    · exact q H2 true (s1.trans s2) ⟨fun _ => ⟨q0, hq⟩, fun _ => rfl⟩
end
end Fp

set_option Elab.async false
set_option linter.all false
set_option maxRecDepth 100000
set_option maxHeartbeats 4000000
namespace Fp
open PySem PySem.Spec PyProof.Rows L2
theorem qt_lk {c : Int} {al : List Nat} {l t : Tb} (h : Lk c t l) : Qt c al t ↔ Qt c al l := by
  have e : Lk c (C1 t) (C1 l) := Lk.app (Lk.refl _ _) (Lk.scl (-1) h)
  exact ⟨fun ⟨q, z⟩ => ⟨q, e.symm.trans z⟩, fun ⟨q, z⟩ => ⟨q, e.trans z⟩⟩
theorem key_lk {c : Int} {m k : Nat} {t l : Tb} (hc : 0 < c) (v : VT c m k t) (h : Lk c t l) : ∀ p ∈ t, p.1 ∈ l.map (·.1) := fun p hp => by
  by_cases hm : p.1 ∈ l.map (·.1)
  · exact hm
  · exfalso
    have e := h p.1
    obtain ⟨j, ej⟩ := List.getElem?_of_mem hp
    rw [tot_num v.nd, num_of v.nd ej, tot_not hm, Int.zero_emod] at e
    have := v.nu p hp
    rw [Int.emod_eq_of_lt (by omega) this.2] at e
    omega
theorem over_lk {c : Int} {m k L : Nat} {al : List Nat} {t l : Tb} (hc : 0 < c) (v : VT c m k t) (h : Lk c t l) (ho : OverT al L l) : OverT al L t := by
  refine ⟨fun p hp => ?_, fun p hp => ?_⟩
  · obtain ⟨q, hq, e⟩ := List.mem_map.mp (key_lk hc v h p hp)
    rw [← e]
    exact ho.ov q hq
  · obtain ⟨q, hq, e⟩ := List.mem_map.mp (key_lk hc v h p hp)
    rw [← e]
    exact ho.ln q hq
theorem OverT.mono {al : List Nat} {L L' : Nat} {l : Tb} (h : OverT al L l) (hl : L ≤ L') : OverT al L' l := ⟨h.ov, fun p hp => Nat.le_trans (h.ln p hp) hl⟩
theorem OverT.app {al : List Nat} {L : Nat} {l m : Tb} (h : OverT al L l) (h' : OverT al L m) : OverT al L (l ++ m) :=
  ⟨fun p hp => by rcases List.mem_append.mp hp with z | z; exact h.ov p z; exact h'.ov p z, fun p hp => by rcases List.mem_append.mp hp with z | z; exact h.ln p z; exact h'.ln p z⟩
theorem OverT.scl {al : List Nat} {L : Nat} {l : Tb} (f : Int) (h : OverT al L l) : OverT al L (Fp.scl f l) :=
  ⟨fun p hp => by unfold Fp.scl at hp; obtain ⟨q, hq, rfl⟩ := List.mem_map.mp hp; exact h.ov q hq, fun p hp => by unfold Fp.scl at hp; obtain ⟨q, hq, rfl⟩ := List.mem_map.mp hp; exact h.ln q hq⟩
theorem over_AT (al : List Nat) : OverT al 1 (AT al) := by
  have key : ∀ p ∈ AT al, ∃ a ∈ al, p = (W [a], 1) := fun p hp => by
    obtain ⟨a, ha, e⟩ := List.mem_map.mp (show p ∈ al.map fun a => (W [a], (1 : Int)) from hp)
    exact ⟨a, ha, e.symm⟩
  refine ⟨fun p hp b hb => ?_, fun p hp => ?_⟩
  · obtain ⟨a, ha, rfl⟩ := key p hp
    rw [show (W [a], (1 : Int)).1.cps.toList = [a] from cps_W [a]] at hb
    have : b = a := by simpa using hb
    rw [this]
    exact ha
  · obtain ⟨a, ha, rfl⟩ := key p hp
    show (W [a]).length ≤ 1
    rw [W_len]
    exact Nat.le_refl _
theorem over_one (al : List Nat) (n : Int) : OverT al 0 [(("" : Str), n)] := by
  refine ⟨fun p hp b hb => ?_, fun p hp => ?_⟩
  · have : p = (("" : Str), n) := by simpa using hp
    rw [this] at hb
    exact absurd hb (by intro z; cases z)
  · have : p = (("" : Str), n) := by simpa using hp
    rw [this]
    exact Nat.le_refl 0
theorem OverT.prs {al : List Nat} {L M : Nat} {l m : Tb} (h : OverT al L l) (h' : OverT al M m) : OverT al (L + M) (Fp.prs l m) := by
  refine ⟨fun p hp b hb => ?_, fun p hp => ?_⟩
  · unfold Fp.prs at hp
    obtain ⟨u, hu, hp⟩ := List.mem_flatMap.mp hp
    obtain ⟨v, hv, rfl⟩ := List.mem_map.mp hp
    rw [show ((u.1 ++ v.1, u.2 * v.2) : Str × Int).1.cps.toList = u.1.cps.toList ++ v.1.cps.toList from app_list _ _] at hb
    rcases List.mem_append.mp hb with z | z
    · exact h.ov u hu b z
    · exact h'.ov v hv b z
  · unfold Fp.prs at hp
    obtain ⟨u, hu, hp⟩ := List.mem_flatMap.mp hp
    obtain ⟨v, hv, rfl⟩ := List.mem_map.mp hp
    show (u.1 ++ v.1).length ≤ _
    rw [app_len]
    have := h.ln u hu
    have := h'.ln v hv
    omega
/-- grown out of beginnings -/
theorem qt_grown {c : Int} {al : List Nat} {s t : Tb} (h : Lk c t ((oneM ++ scl (-1) s) ++ scl 1 (prs s (AT al)))) : Qt c al t := by
  refine ⟨s, fun x => ?_⟩
  have e := modc (h x) (tot oneM x)
  rw [tot_BT, tot_app, tot_scl, show tot oneM x + -1 * tot t x = tot oneM x - tot t x by omega, e, tot_app, tot_app, tot_scl, tot_scl]
  congr 1
  omega
theorem sum_mod {c : Int} (f g h : Nat → Int) : ∀ l : List Nat, (∀ i ∈ l, f i % c = (g i + h i) % c) → (l.map f).sum % c = ((l.map g).sum + (l.map h).sum) % c
  | [], _ => rfl
  | i :: r, e => by
    have ih := sum_mod f g h r fun j hj => e j (List.mem_cons_of_mem _ hj)
    rw [List.map_cons, List.map_cons, List.map_cons, List.sum_cons, List.sum_cons, List.sum_cons, Int.add_emod, e i List.mem_cons_self, ih, ← Int.add_emod]
    congr 1
    omega
theorem preL_add {c : Int} {t l m : Tb} (e : ∀ x, num t x % c = (num l x + num m x) % c) (cs : List Nat) : preL t cs % c = (preL l cs + preL m cs) % c := sum_mod _ _ _ _ fun _ _ => e _
theorem num_one (u : Str) (k : Int) (x : Str) : num [(u, k)] x = if u = x then k else 0 := by
  rw [num_cons]
  rfl
theorem preL_one0 (u : List Nat) (k : Int) (cs : List Nat) (h : cs.length < u.length) : preL [(W u, k)] cs = 0 := by
  unfold preL
  have : ∀ i ∈ List.range (cs.length + 1), num [(W u, k)] (W (cs.take i)) = 0 := fun i _ => by
    rw [num_one, if_neg fun e => ?_]
    have := congrArg List.length (W_inj e)
    rw [List.length_take] at this
    omega
  rw [List.map_congr_left this]
  generalize List.range (cs.length + 1) = l
  induction l with
  | nil => rfl
  | cons a r ih => rw [List.map_cons, List.sum_cons, ih]; rfl
theorem preL_one (u : List Nat) (k : Int) (ds : List Nat) : preL [(W u, k)] (u ++ ds) = k := by
  rw [preL_long (L := u.length) (fun p hp => by
    have : p = (W u, k) := by simpa using hp
    subst this
    show (W u).length ≤ _
    rw [W_len]
    exact Nat.le_refl _) u (Nat.le_refl _) ds]
  refine snoc_ind (P := fun u => preL [(W u, k)] u = k) ?_ (fun v b _ => ?_) u
  · rw [preL_nil, num_one]
    exact if_pos rfl
  · rw [preL_snoc, preL_one0 _ _ _ (by rw [List.length_append]; show v.length < v.length + 1; omega), num_one, if_pos rfl, Int.zero_add]
/-- one number changed: full no more -/
theorem qt_changed {c : Int} {al : List Nat} {l t : Tb} {L : Nat} {u : List Nat} {k : Int} (hc : 2 ≤ c) (ha : al.Nodup) (hal : al ≠ []) (hn : Nd l) (hnt : Nd t) (ho : OverT al L l) (hot : OverT al L t) (hu : ∀ b ∈ u, b ∈ al) (hul : u.length ≤ L)
    (h1 : 1 ≤ k) (h2 : k < c) (e : Lk c t (l ++ [(W u, k)])) (hq : Qt c al l) : ¬ Qt c al t := fun hz => by
  have f1 := (qt_iff hc hn ha hal ho).mp hq
  have f2 := (qt_iff hc hnt ha hal hot).mp hz
  obtain ⟨a0, r, rfl⟩ : ∃ a r, al = a :: r := by
    cases al with
    | nil => exact absurd rfl hal
    | cons a r => exact ⟨a, r, rfl⟩
  have hcs : ∀ b ∈ u ++ List.replicate (L - u.length) a0, b ∈ a0 :: r := fun b hb => by
    rcases List.mem_append.mp hb with hb | hb
    · exact hu b hb
    · rw [List.eq_of_mem_replicate hb]
      exact List.mem_cons_self
  have hl : (u ++ List.replicate (L - u.length) a0).length = L := by rw [List.length_append, List.length_replicate]; omega
  have e1 := f1 _ hcs hl
  have e2 := f2 _ hcs hl
  have e3 := preL_add (c := c) (t := t) (l := l) (m := [(W u, k)]) (fun x => by
    have := e x
    rw [tot_num hnt, tot_app, tot_num hn, tot_num (show Nd [(W u, k)] by show [W u].Nodup; simp)] at this
    exact this) (u ++ List.replicate (L - u.length) a0)
  rw [preL_one, e2, Int.add_emod, e1, Int.emod_eq_of_lt (show 0 ≤ k by omega) h2] at e3
  have h4 : (1 + k) % c = 1 := e3.symm
  by_cases hlt : 1 + k < c
  · rw [Int.emod_eq_of_lt (by omega) hlt] at h4
    omega
  · have : 1 + k = c := by omega
    rw [this, Int.emod_self] at h4
    omega
/-- a letter more: full only if nothing is longer than the empty word -/
theorem qt_more {c : Int} {l : Tb} {m : Int} (hc : 2 ≤ c) (hn : Nd l) (hr : ∀ p ∈ l, 1 ≤ p.2 ∧ p.2 < c) {L : Nat} (ho : OverT [120, 121] L l) (hm : LongOf l m) (hq : Qt c [120, 121] l) : Qt c [120, 121, 122] l ↔ m < 1 := by
  have n2 : ([120, 121] : List Nat).Nodup := by decide
  have n3 : ([120, 121, 122] : List Nat).Nodup := by decide
  have ov3 : ∀ {L : Nat}, OverT [120, 121] L l → OverT [120, 121, 122] L l := fun h => ⟨fun p hp b hb => by have := h.ov p hp b hb; simp at this ⊢; omega, h.ln⟩
  constructor
  · intro hz
    rcases hm.at_ with e | ⟨p, hp, e⟩
    · omega
    · by_cases h1 : m < 1
      · exact h1
      · exfalso
        have hL : ∀ q ∈ l, q.1.length ≤ m.toNat := fun q hq => by have := hm.le q hq; omega
        have f3 := (qt_iff hc hn n3 (by simp) (ov3 ⟨ho.ov, hL⟩)).mp hz
        have hpl : p.1.cps.toList.length = m.toNat := by rw [len_list]; omega
        obtain ⟨cs, b, ecs⟩ : ∃ cs b, p.1.cps.toList = cs ++ [b] := by
          have : p.1.cps.toList ≠ [] := fun z => by rw [z] at hpl; simp at hpl; omega
          revert this
          refine snoc_ind (P := fun x => x ≠ [] → ∃ cs b, x = cs ++ [b]) (fun z => absurd rfl z) (fun cs b _ _ => ⟨cs, b, rfl⟩) p.1.cps.toList
        have hcs : ∀ d ∈ cs, d ∈ [120, 121] := fun d hd => ho.ov p hp d (by rw [ecs]; exact List.mem_append_left _ hd)
        have hb : b ∈ [120, 121] := ho.ov p hp b (by rw [ecs]; simp)
        have up : ∀ d ∈ [120, 121], d ∈ ([120, 121, 122] : List Nat) := fun d hd => by simp at hd ⊢; omega
        have hcl : cs.length + 1 = m.toNat := by rw [ecs, List.length_append] at hpl; exact hpl
        have g1 := f3 (cs ++ [b]) (fun d hd => by
          rcases List.mem_append.mp hd with z | z
          · exact up d (hcs d z)
          · have : d = b := by simpa using z
            rw [this]
            exact up b hb) (by rw [List.length_append]; exact hcl)
        have g2 := f3 (cs ++ [122]) (fun d hd => by
          rcases List.mem_append.mp hd with z | z
          · exact up d (hcs d z)
          · have : d = 122 := by simpa using z
            rw [this]
            decide) (by rw [List.length_append]; exact hcl)
        rw [preL_snoc] at g1 g2
        have z0 : num l (W (cs ++ [122])) = 0 := num_not fun z => by
          obtain ⟨q, hq', e'⟩ := List.mem_map.mp z
          have := ho.ov q hq' 122 (by rw [e', cps_W]; simp)
          exact absurd this (by decide)
        have ep : W (cs ++ [b]) = p.1 := by rw [← ecs, W_cps]
        obtain ⟨j, ej⟩ := List.getElem?_of_mem hp
        rw [z0, Int.add_zero] at g2
        rw [ep, num_of hn ej, Int.add_emod, g2] at g1
        have hp2 := hr p hp
        rw [Int.emod_eq_of_lt (show 0 ≤ p.2 by omega) hp2.2] at g1
        by_cases hlt : 1 + p.2 < c
        · rw [Int.emod_eq_of_lt (by omega) hlt] at g1
          omega
        · have : 1 + p.2 = c := by omega
          rw [this, Int.emod_self] at g1
          omega
  · intro h1
    have hL : ∀ q ∈ l, q.1.length ≤ 0 := fun q hq => by have := hm.le q hq; omega
    have f2 := (qt_iff hc hn n2 (by simp) ⟨ho.ov, hL⟩).mp hq
    refine (qt_iff hc hn n3 (by simp) (ov3 ⟨ho.ov, hL⟩)).mpr fun cs hcs hl => ?_
    have : cs = [] := List.eq_nil_of_length_eq_zero hl
    subst this
    exact f2 [] (fun b hb => by cases hb) rfl
/-! ### leaves: words none of which begins with another one -/
def PF (lv : List (List Nat)) : Prop := lv.Pairwise fun a b => ¬ a <+: b ∧ ¬ b <+: a
theorem PF.nd {lv : List (List Nat)} (h : PF lv) : lv.Nodup := by
  refine List.Pairwise.imp ?_ h
  intro a b z e
  rw [e] at z
  exact z.1 (List.prefix_refl _)
theorem pf_grow {lv : List (List Nat)} {al : List Nat} (ha : al.Nodup) (h : PF lv) {j : Nat} {u : List Nat} (e : lv[j]? = some u) : PF (lv.eraseIdx j ++ al.map fun a => u ++ [a]) := by
  have hj : j < lv.length := (List.getElem?_eq_some_iff.mp e).1
  have rest : ∀ v ∈ lv.eraseIdx j, ¬ v <+: u ∧ ¬ u <+: v := fun v hv => by
    obtain ⟨i, hi⟩ := List.getElem?_of_mem hv
    rw [List.getElem?_eraseIdx] at hi
    have pr := List.pairwise_iff_getElem.mp h
    have eu := (List.getElem?_eq_some_iff.mp e).2
    split at hi
    · rename_i hlt
      obtain ⟨h1, h2⟩ := List.getElem?_eq_some_iff.mp hi
      have := pr i j h1 hj hlt
      rw [h2, eu] at this
      exact this
    · rename_i hlt
      obtain ⟨h1, h2⟩ := List.getElem?_eq_some_iff.mp hi
      have := pr j (i + 1) hj h1 (by omega)
      rw [h2, eu] at this
      exact ⟨this.2, this.1⟩
  refine List.pairwise_append.mpr ⟨List.Pairwise.sublist (List.eraseIdx_sublist ..) h, ?_, fun v hv y hy => ?_⟩
  · refine List.Pairwise.map _ (fun a b hne => ?_) ha
    have key : ∀ a b : Nat, a ≠ b → ¬ (u ++ [a]) <+: (u ++ [b]) := fun a b hne z => by
      have := List.IsPrefix.eq_of_length z (by simp)
      exact hne (by simpa using this)
    exact ⟨key a b hne, key b a hne.symm⟩
  · obtain ⟨a, _, rfl⟩ := List.mem_map.mp hy
    obtain ⟨r1, r2⟩ := rest v hv
    refine ⟨fun z => ?_, fun z => r2 ((List.prefix_append u [a]).trans z)⟩
    obtain ⟨t, ht⟩ := z
    revert ht
    refine snoc_ind (P := fun t => v ++ t = u ++ [a] → False) (fun ht => ?_) (fun t b _ ht => ?_) t
    · rw [List.append_nil] at ht
      exact r2 (ht ▸ List.prefix_append u [a])
    · rw [← List.append_assoc] at ht
      exact r1 ⟨t, (List.append_inj' ht rfl).1⟩
def LV (lv : List (List Nat)) : Tb := lv.map fun u => (W u, 1)
/-- the leaves are what beginnings leave -/
def Left (al : List Nat) (lv : List (List Nat)) : Prop := ∃ s : Tb, ∀ x, tot (LV lv) x = tot oneM x - tot s x + tot (prs s (AT al)) x
theorem left_start (al : List Nat) : Left al [[]] := ⟨[], fun x => by
  show tot [(W [], (1 : Int))] x = tot oneM x - tot [] x + tot [] x
  rw [tot_nil]
  show tot oneM x = _
  omega⟩
theorem tot_erase (x : Str) (u : List Nat) : ∀ (lv : List (List Nat)) (j : Nat), lv[j]? = some u → tot (LV lv) x = (if W u = x then 1 else 0) + tot (LV (lv.eraseIdx j)) x
  | [], j, e => by simp at e
  | v :: r, 0, e => by
    have : v = u := by simpa using e
    subst this
    rw [show LV (v :: r) = (W v, 1) :: LV r from rfl, tot_cons]
    rfl
  | v :: r, j + 1, e => by
    have ih := tot_erase x u r j (by simpa using e)
    rw [show LV (v :: r) = (W v, 1) :: LV r from rfl, show LV ((v :: r).eraseIdx (j + 1)) = (W v, 1) :: LV (r.eraseIdx j) from rfl, tot_cons, tot_cons, ih]
    omega
theorem left_grow {al : List Nat} {lv : List (List Nat)} {j : Nat} {u : List Nat} (h : Left al lv) (e : lv[j]? = some u) : Left al (lv.eraseIdx j ++ al.map fun a => u ++ [a]) := by
  obtain ⟨s, hs⟩ := h
  refine ⟨(W u, 1) :: s, fun x => ?_⟩
  have e1 := tot_erase x u lv j e
  rw [hs x] at e1
  have e2 : LV (lv.eraseIdx j ++ al.map fun a => u ++ [a]) = LV (lv.eraseIdx j) ++ (AT al).map fun q => (W u ++ q.1, 1 * q.2) := by
    unfold LV AT
    rw [List.map_append, List.map_map, List.map_map]
    congr 1
    refine List.map_congr_left fun a _ => ?_
    show ((W (u ++ [a]), 1) : Str × Int) = (W u ++ W [a], 1 * 1)
    rw [W_app]
    rfl
  rw [e2, tot_app, prs_cons, tot_app, tot_cons]
  show tot (LV (lv.eraseIdx j)) x + tot ((AT al).map fun q => (W u ++ q.1, 1 * q.2)) x = tot oneM x - ((if W u = x then 1 else 0) + tot s x) + (tot ((AT al).map fun q => (W u ++ q.1, 1 * q.2)) x + tot (prs s (AT al)) x)
  omega
theorem qt_left {c : Int} {al : List Nat} {lv : List (List Nat)} (h : Left al lv) : Qt c al (LV lv) := by
  obtain ⟨s, hs⟩ := h
  refine ⟨s, fun x => ?_⟩
  rw [tot_BT, tot_app, tot_scl, hs x]
  congr 1
  omega
end Fp

set_option Elab.async false
set_option linter.all false
set_option maxRecDepth 100000
set_option maxHeartbeats 4000000
namespace Fp
open PySem PySem.Spec PyProof.Rows L2
section
variable {P : Program} {w : World} {K : PySem.W.Frag} {mg : Str → Option Value} {base : Heap}
def spGrown : Sp := fun vs H Q _ => ∃ (c : Int) (z : Str) (d : Addr) (m k L : Nat) (s : Tb), vs = [.int c, .str z, .ref d] ∧ isCk c ∧ isAl z ∧ H d = some (.dK (kv s)) ∧ VT c m k s ∧ OverT z.cps.toList L s ∧ m ≤ 100 ∧ k ≤ 1000 ∧
  ∀ H' r t, Same H H' → H r = none → H' r = some (.dK (kv t)) → VT c (m + 1) (1 + k + k * 3) t → OverT z.cps.toList (L + 1) t → Qt c z.cps.toList t → Q (.ref r) H'
abbrev nGrown : List Str := ["_law_clock_here", "_law_alphabet", "_law_starts", "_law_found", "_law_letters", "_law_letter"]
theorem erase_map {α β : Type} (f : α → β) : ∀ (l : List α) (i : Nat), (l.map f).eraseIdx i = (l.eraseIdx i).map f
  | [], i => by simp
  | a :: r, 0 => rfl
  | a :: r, i + 1 => by
    show f a :: (r.map f).eraseIdx i = f a :: (r.eraseIdx i).map f
    rw [erase_map f r i]
/-- leaves -/
def spCode (K : PySem.W.Frag) : Sp := fun vs H Q _ => ∃ (h ca : Addr) (z : Str) (mo : Nat), vs = [.ref h, .str z, .int mo] ∧ mo ≤ 6 ∧ TapeAt ca H h ∧ isAl z ∧
  ∀ H' p r d' lv, TapeAt ca H' h → But h H H' → H' p = some (.tup [.ref r, .ref d']) → H' r = some (.dK (kv (LV lv))) → PF lv → Left z.cps.toList lv → (∀ u ∈ lv, (∀ b ∈ u, b ∈ z.cps.toList) ∧ u.length ≤ mo) → lv.length ≤ 1 + 2 * mo → Q (.ref p) H'
abbrev nCode : List Str := ["_law_tape_here", "_law_alphabet", "_law_most", "_law_leaves", "_law_starts", "_law_turn", "_law_word_here", "_law_letter"]
end
end Fp

set_option Elab.async false
set_option linter.all false
set_option maxRecDepth 100000
set_option maxHeartbeats 4000000
namespace Fp
open PySem PySem.Spec PyProof.Rows L2
/-! ### words in the alphabet's order -/
theorem allL_cons (al : List Nat) : ∀ n, allL al (n + 1) = al.flatMap fun a => (allL al n).map (a :: ·)
  | 0 => by
    show ([[]] : List (List Nat)).flatMap (fun cs => al.map fun a => cs ++ [a]) = al.flatMap fun a => [[a]]
    rw [List.flatMap_cons, List.flatMap_nil, List.append_nil]
    induction al with
    | nil => rfl
    | cons a r ih => rw [List.map_cons, List.flatMap_cons, ih]; rfl
  | n + 1 => by
    have ih := allL_cons al n
    show (allL al (n + 1)).flatMap (fun cs => al.map fun a => cs ++ [a]) = al.flatMap fun a => ((allL al n).flatMap fun cs => al.map fun b => cs ++ [b]).map (a :: ·)
    rw [ih, List.flatMap_assoc]
    congr 1
    funext a
    rw [List.flatMap_map, List.map_flatMap]
    congr 1
    funext cs
    rw [List.map_map]
    rfl
def ext (al w : List Nat) (k : Nat) : List (List Nat) := (allL al k).map (w ++ ·)
theorem ext_zero (al w : List Nat) : ext al w 0 = [w] := by
  show [w ++ []] = [w]
  rw [List.append_nil]
theorem ext_succ (al w : List Nat) (k : Nat) : ext al w (k + 1) = al.flatMap fun a => ext al (w ++ [a]) k := by
  unfold ext
  rw [allL_cons, List.map_flatMap]
  congr 1
  funext a
  rw [List.map_map]
  refine List.map_congr_left fun cs _ => ?_
  show w ++ a :: cs = w ++ [a] ++ cs
  rw [List.append_assoc]
  rfl
theorem allL_head (a0 : Nat) (r : List Nat) : ∀ k, ∃ tl, allL (a0 :: r) k = List.replicate k a0 :: tl
  | 0 => ⟨[], rfl⟩
  | k + 1 => by
    obtain ⟨tl, e⟩ := allL_head a0 r k
    rw [allL_cons, List.flatMap_cons, e]
    exact ⟨_, rfl⟩
theorem ext_head (a0 : Nat) (r w : List Nat) (k : Nat) : ∃ tl, ext (a0 :: r) w k = (w ++ List.replicate k a0) :: tl := by
  obtain ⟨tl, e⟩ := allL_head a0 r k
  unfold ext
  rw [e]
  exact ⟨_, rfl⟩
/-- what is still to be looked through: the words of length n that begin with a word of the pile, its last one first -/
def pile (al : List Nat) (n : Nat) (S : List (List Nat)) : List (List Nat) := S.reverse.flatMap fun w => ext al w (n - w.length)
theorem pile_snoc (al : List Nat) (n : Nat) (S : List (List Nat)) (w : List Nat) : pile al n (S ++ [w]) = ext al w (n - w.length) ++ pile al n S := by
  unfold pile
  rw [List.reverse_append]
  rfl
theorem pile_grow (al : List Nat) (n : Nat) (S : List (List Nat)) (w : List Nat) (h : w.length < n) : pile al n (S ++ al.reverse.map fun a => w ++ [a]) = ext al w (n - w.length) ++ pile al n S := by
  unfold pile
  rw [List.reverse_append, List.flatMap_append]
  congr 1
  rw [← List.map_reverse, List.reverse_reverse, List.flatMap_map, show n - w.length = (n - (w.length + 1)) + 1 by omega, ext_succ]
  congr 1
  funext a
  rw [List.length_append]
  rfl
def weigh (n : Nat) (S : List (List Nat)) : Nat := (S.map fun w => 4 ^ (n - w.length)).sum
theorem sum_app (a b : List Nat) : (a ++ b).sum = a.sum + b.sum := by
  induction a with
  | nil => simp
  | cons x r ih => rw [List.cons_append, List.sum_cons, List.sum_cons, ih]; omega
theorem weigh_app (n : Nat) (S R : List (List Nat)) : weigh n (S ++ R) = weigh n S + weigh n R := by
  unfold weigh
  rw [List.map_append, sum_app]
theorem weigh_one (n : Nat) (w : List Nat) : weigh n [w] = 4 ^ (n - w.length) := by
  show 4 ^ (n - w.length) + 0 = _
  rfl
theorem weigh_new (n : Nat) (w : List Nat) (h : w.length < n) : ∀ l : List Nat, weigh n (l.map fun a => w ++ [a]) = l.length * 4 ^ (n - w.length - 1)
  | [] => by simp [weigh]
  | a :: r => by
    have ih := weigh_new n w h r
    show 4 ^ (n - (w ++ [a]).length) + weigh n (r.map fun a => w ++ [a]) = _
    rw [ih, List.length_append, show n - (w.length + [a].length) = n - w.length - 1 by simp; omega, show (a :: r).length = r.length + 1 from rfl, Nat.add_mul]
    omega
theorem weigh_len (n : Nat) : ∀ S : List (List Nat), S.length ≤ weigh n S
  | [] => Nat.zero_le _
  | w :: r => by
    have ih := weigh_len n r
    have h1 : 1 ≤ 4 ^ (n - w.length) := Nat.pow_pos (by decide)
    show r.length + 1 ≤ 4 ^ (n - w.length) + weigh n r
    omega
theorem weigh_grow (n : Nat) (al w : List Nat) (h : w.length < n) (ha : al.length ≤ 3) (S : List (List Nat)) : weigh n (S ++ al.reverse.map fun a => w ++ [a]) < weigh n (S ++ [w]) := by
  rw [weigh_app, weigh_app, weigh_one, weigh_new n w h, List.length_reverse]
  have h1 : 4 ^ (n - w.length) = 4 ^ (n - w.length - 1) * 4 := by rw [← Nat.pow_succ]; congr 1; omega
  have h2 : 1 ≤ 4 ^ (n - w.length - 1) := Nat.pow_pos (by decide)
  have h3 : al.length * 4 ^ (n - w.length - 1) ≤ 3 * 4 ^ (n - w.length - 1) := Nat.mul_le_mul_right _ ha
  omega
theorem weigh_drop (n : Nat) (w : List Nat) (S : List (List Nat)) : weigh n S < weigh n (S ++ [w]) := by
  rw [weigh_app, weigh_one]
  have h2 : 1 ≤ 4 ^ (n - w.length) := Nat.pow_pos (by decide)
  omega
/-! ### the words of a table that are not longer -/
def upto (n : Nat) (l : Tb) : Tb := l.filter fun p => decide (p.1.length ≤ n)
theorem num_upto {n : Nat} {x : Str} (h : x.length ≤ n) : ∀ l : Tb, num (upto n l) x = num l x
  | [] => rfl
  | p :: r => by
    have ih := num_upto h r
    unfold upto at ih ⊢
    by_cases hp : p.1.length ≤ n
    · rw [List.filter_cons_of_pos (by simpa using hp), num_cons, num_cons, ih]
    · rw [List.filter_cons_of_neg (by simpa using hp), ih, num_cons, if_neg fun (e : p.1 = x) => hp (by rw [e]; exact h)]
theorem preL_upto {n : Nat} (l : Tb) : ∀ cs : List Nat, cs.length ≤ n → preL (upto n l) cs = preL l cs := fun cs => by
  refine snoc_ind (P := fun cs => cs.length ≤ n → preL (upto n l) cs = preL l cs) (fun _ => ?_) (fun cs b ih h => ?_) cs
  · rw [preL_nil, preL_nil, num_upto (Nat.zero_le n)]
  · rw [List.length_append] at h
    rw [preL_snoc, preL_snoc, ih (by omega), num_upto (by rw [W_len, List.length_append]; exact h)]
/-- some word of the table begins with w and is longer -/
def goesOn (T : Tb) (w : List Nat) : Prop := ∃ p ∈ T, w <+: p.1.cps.toList ∧ w.length < p.1.length
theorem preL_stop {T : Tb} {w : List Nat} (h : ¬ goesOn T w) (ds : List Nat) : preL T (w ++ ds) = preL T w := by
  refine snoc_ind (P := fun ds => preL T (w ++ ds) = preL T w) (by rw [List.append_nil]) (fun ds b ih => ?_) ds
  rw [← List.append_assoc, preL_snoc, ih, num_not, Int.add_zero]
  intro hm
  obtain ⟨p, hp, e⟩ := List.mem_map.mp hm
  refine h ⟨p, hp, ?_, ?_⟩
  · rw [e, cps_W, List.append_assoc]
    exact List.prefix_append _ _
  · rw [e, W_len]
    simp
/-! ### a dict whose numbers are all True -/
def gk (G : List Str) : List (Key × V) := G.map fun w => ((Sum.inr w : Key), V.bl true)
def addG (G : List Str) (x : Str) : List Str := if x ∈ G then G else G ++ [x]
theorem gk_len (G : List Str) : (gk G).length = G.length := List.length_map _
theorem gk_any (G : List Str) (x : Str) : ((gk G).any fun q => decide (q.1 = (Sum.inr x : Key))) = decide (x ∈ G) := by
  rw [Bool.eq_iff_iff, List.any_eq_true, decide_eq_true_iff]
  constructor
  · rintro ⟨q, hq, e⟩
    obtain ⟨y, hy, rfl⟩ := List.mem_map.mp hq
    have e' : (Sum.inr y : Key) = Sum.inr x := of_decide_eq_true e
    have : y = x := by injection e'
    exact this ▸ hy
  · intro h
    exact ⟨_, List.mem_map.mpr ⟨x, h, rfl⟩, decide_eq_true rfl⟩
theorem putK_gk (G : List Str) (x : Str) : putK (gk G) (Sum.inr x : Key) (.bl true) = gk (addG G x) := by
  unfold putK addG
  rw [gk_any]
  by_cases h : x ∈ G
  · rw [if_pos (decide_eq_true h), if_pos h]
    unfold gk
    rw [List.map_map]
    refine List.map_congr_left fun w _ => ?_
    show (if (Sum.inr w : Key) = Sum.inr x then _ else _) = _
    split
    · rename_i e
      have : w = x := by injection e
      rw [this]
    · rfl
  · rw [if_neg (by simpa using h), if_neg h]
    unfold gk
    rw [List.map_append]
    rfl
theorem addG_mem (G : List Str) (x y : Str) : y ∈ addG G x ↔ y ∈ G ∨ y = x := by
  unfold addG
  split
  · rename_i h
    exact ⟨.inl, fun z => z.elim id fun e => e ▸ h⟩
  · rw [List.mem_append, List.mem_singleton]
theorem addG_len (G : List Str) (x : Str) : (addG G x).length ≤ G.length + 1 := by
  unfold addG
  split
  · omega
  · rw [List.length_append]
    exact Nat.le_refl _
end Fp

set_option Elab.async false
set_option linter.all false
set_option maxRecDepth 100000
set_option maxHeartbeats 4000000
/-! {k: v for a in xs for b in ys} -/
namespace L2
open PySem PySem.Spec PyProof.Rows
theorem dTurn2_out (kx vx t0 i0 t1 i1 : Expr) (ifs0 ifs1 : List Expr) (scope : Scope) (pos : Pos) (it acc : Value) (env : Env) :
    compTurn (.DictComp kx vx [⟨t0, i0, ifs0, 0⟩, ⟨t1, i1, ifs1, 0⟩] scope pos) 0 it acc env = (do
      standAt i0.pos
      let __do_lift ← pyNext it
      match __do_lift with
      | none => pure (Fin.done Flow.next)
      | some v => do
        letOwnedTupleGo t0 it v
        assign t0 env v
        have ok : Bool := true
        let __s ← forIn ifs0 ok fun c __s =>
          have ok := __s
          if ok = true then do
            let ok ← PySem.isTrue c env (eval c env)
            pure (ForInStep.yield ok)
          else pure (ForInStep.yield ok)
        have ok : Bool := __s
        have __do_jp : Unit → Sem PySem.Fin := fun __r => again (Code.compLoop (.DictComp kx vx [⟨t0, i0, ifs0, 0⟩, ⟨t1, i1, ifs1, 0⟩] scope pos) 0 it acc env)
        if ok = true then do
          let x ← eval i1 env
          standAt i1.pos
          let x ← foldedSetIterable i1 env x
          let __do_lift ← holding [x] (pyIter x)
          let _ ← runOwn (Code.compStart (.DictComp kx vx [⟨t0, i0, ifs0, 0⟩, ⟨t1, i1, ifs1, 0⟩] scope pos) 1 __do_lift acc env) env
          __do_jp ()
        else __do_jp ()) := rfl
theorem dTurn2_in (kx vx t0 i0 t1 i1 : Expr) (ifs0 ifs1 : List Expr) (scope : Scope) (pos : Pos) (it : Value) (D : Addr) (env : Env) :
    compTurn (.DictComp kx vx [⟨t0, i0, ifs0, 0⟩, ⟨t1, i1, ifs1, 0⟩] scope pos) 1 it (.ref D) env = (do
      standAt i1.pos
      let __do_lift ← pyNext it
      match __do_lift with
      | none => pure (Fin.done Flow.next)
      | some v => do
        letOwnedTupleGo t1 it v
        assign t1 env v
        have ok : Bool := true
        let __s ← forIn ifs1 ok fun c __s =>
          have ok := __s
          if ok = true then do
            let ok ← PySem.isTrue c env (eval c env)
            pure (ForInStep.yield ok)
          else pure (ForInStep.yield ok)
        have ok : Bool := __s
        have __do_jp : Unit → Sem PySem.Fin := fun __r => again (Code.compLoop (.DictComp kx vx [⟨t0, i0, ifs0, 0⟩, ⟨t1, i1, ifs1, 0⟩] scope pos) 1 it (.ref D) env)
        if ok = true then do
          (do
            let kv ← eval kx env
            let vv ← holding [kv] (eval vx env)
            standAt { kx.pos with endLine := vx.pos.endLine, endCol := vx.pos.endCol }
            holding [kv, vv] (dictSet D kv vv)) >>= fun __r => __do_jp __r
        else __do_jp ()) := rfl
section
variable {prog : Program} {w : World} {A : Around} {R : Result → Shared → Prop} {s : Shared} {kx vx t0 i0 t1 i1 : Expr} {ifs0 ifs1 : List Expr} {scope : Scope} {pos : Pos} {it : Value} {env : Env}
theorem dLoop2_out {acc : Value} (hs : ∀ x : Value, foldedSetIterable i1 env x = pure x) (I : Nat → Shared → Prop)
    (turn : ∀ (n : Nat) (s : Shared), I n s → wpAny (model prog w) A (pyNext it)
      (fun r s1 => match r with
        | none => R (.ok .next) s1
        | some v => wpAny (model prog w) A (letOwnedTupleGo t0 it v)
          (fun x s1' => wpAny (model prog w) A (assign t0 env v)
            (fun x s2 => wpAny (model prog w) A
              (forIn ifs0 true fun c r => if r = true then do
                  let ok ← PySem.isTrue c env (eval c env)
                  pure (ForInStep.yield ok)
                else pure (ForInStep.yield r))
              (fun ok s3 => if ok = true then
                  wpAny (model prog w) A (eval i1 env)
                    (fun x s4 => wpAny (model prog w) A (pyIter x)
                      (fun it1 s5 => codeAny (model prog w) A (Code.compStart (.DictComp kx vx [⟨t0, i0, ifs0, 0⟩, ⟨t1, i1, ifs1, 0⟩] scope pos) 1 it1 acc env)
                        (fun r s' => match r with
                          | .ok a => ∃ m, m < n ∧ I m s'
                          | .error a => False) s5)
                      (notedBy (model prog w) A env fun e s' => R (.error e) s') s4)
                    (notedBy (model prog w) A env fun e s' => R (.error e) s') s3
                else ∃ m, m < n ∧ I m s3)
              (notedBy (model prog w) A env fun e s' => R (.error e) s') s2)
            (notedBy (model prog w) A env fun e s' => R (.error e) s') s1')
          (notedBy (model prog w) A env fun e s' => R (.error e) s') s1)
      (notedBy (model prog w) A env fun e s' => R (.error e) s') s) (n : Nat) (h : I n s) :
    codeAny (model prog w) A (Code.compLoop (.DictComp kx vx [⟨t0, i0, ifs0, 0⟩, ⟨t1, i1, ifs1, 0⟩] scope pos) 0 it acc env) R s := by
  refine codeAny_loop rfl I (fun n s hI => ?_) n h
  refine wpAny_noted ?_
  rw [dTurn2_out]
  refine wpAny_bind (wpAny_standAt (wpAny_bind (wpAny_mono (turn n s hI) (fun r s1 h1 => ?_) (fun _ _ h' => h'))))
  cases r with
  | none => exact wpAny_pure h1
  | some v =>
    refine wpAny_bind (wpAny_mono h1 (fun x s1' h1' => ?_) (fun _ _ h' => h'))
    refine wpAny_bind (wpAny_mono h1' (fun x s2 h2 => ?_) (fun _ _ h' => h'))
    refine wpAny_bind (wpAny_mono h2 (fun ok s3 h3 => ?_) (fun _ _ h' => h'))
    cases ok with
    | false => exact wpAny_pure ⟨rfl, h3⟩
    | true =>
      refine wpAny_bind (wpAny_mono h3 (fun x s4 h4 => ?_) (fun _ _ h' => h'))
      refine wpAny_bind (wpAny_standAt (wpAny_bind (wpAny_of_eq (hs x) (wpAny_bind (wpAny_holding (wpAny_mono h4 (fun it1 s5 h5 => ?_) (fun _ _ h' => h')))))))
      refine wpAny_bind (wpAny_runOwn ?_ (fun x => by cases x))
      rw [Around.mark_none]
      refine codeAny_mono h5 fun r s' hr => ?_
      cases r with
      | error e => exact False.elim hr
      | ok f => exact wpAny_pure ⟨rfl, hr⟩
theorem dLoop2_in {D : Addr} (I : Nat → Shared → Prop)
    (turn : ∀ (n : Nat) (s : Shared), I n s → wpAny (model prog w) A (pyNext it)
      (fun r s1 => match r with
        | none => R (.ok .next) s1
        | some v => wpAny (model prog w) A (letOwnedTupleGo t1 it v)
          (fun x s1' => wpAny (model prog w) A (assign t1 env v)
            (fun x s2 => wpAny (model prog w) A
              (forIn ifs1 true fun c r => if r = true then do
                  let ok ← PySem.isTrue c env (eval c env)
                  pure (ForInStep.yield ok)
                else pure (ForInStep.yield r))
              (fun ok s3 => if ok = true then
                  wpAny (model prog w) A (eval kx env)
                    (fun kv s4 => wpAny (model prog w) A (eval vx env)
                      (fun vv s5 => wpAny (model prog w) A (dictSet D kv vv) (fun x s6 => ∃ m, m < n ∧ I m s6) (notedBy (model prog w) A env fun e s' => R (.error e) s') s5)
                      (notedBy (model prog w) A env fun e s' => R (.error e) s') s4)
                    (notedBy (model prog w) A env fun e s' => R (.error e) s') s3
                else ∃ m, m < n ∧ I m s3)
              (notedBy (model prog w) A env fun e s' => R (.error e) s') s2)
            (notedBy (model prog w) A env fun e s' => R (.error e) s') s1')
          (notedBy (model prog w) A env fun e s' => R (.error e) s') s1)
      (notedBy (model prog w) A env fun e s' => R (.error e) s') s) (n : Nat) (h : I n s) :
    codeAny (model prog w) A (Code.compLoop (.DictComp kx vx [⟨t0, i0, ifs0, 0⟩, ⟨t1, i1, ifs1, 0⟩] scope pos) 1 it (.ref D) env) R s := by
  refine codeAny_loop rfl I (fun n s hI => ?_) n h
  refine wpAny_noted ?_
  rw [dTurn2_in]
  refine wpAny_bind (wpAny_standAt (wpAny_bind (wpAny_mono (turn n s hI) (fun r s1 h1 => ?_) (fun _ _ h' => h'))))
  cases r with
  | none => exact wpAny_pure h1
  | some v =>
    refine wpAny_bind (wpAny_mono h1 (fun x s1' h1' => ?_) (fun _ _ h' => h'))
    refine wpAny_bind (wpAny_mono h1' (fun x s2 h2 => ?_) (fun _ _ h' => h'))
    refine wpAny_bind (wpAny_mono h2 (fun ok s3 h3 => ?_) (fun _ _ h' => h'))
    cases ok with
    | false => exact wpAny_pure ⟨rfl, h3⟩
    | true =>
      refine wpAny_bind (wpAny_bind (wpAny_mono h3 (fun kv s4 h4 => ?_) (fun _ _ h' => h')))
      refine wpAny_bind (wpAny_holding (wpAny_mono h4 (fun vv s5 h5 => ?_) (fun _ _ h' => h')))
      exact wpAny_bind (wpAny_standAt (wpAny_holding (wpAny_mono h5 (fun x s6 h6 => wpAny_pure ⟨rfl, h6⟩) (fun _ _ h' => h'))))
theorem dStart1_ok {acc : Value} (h0 : codeAny (model prog w) A (Code.compLoop (.DictComp kx vx [⟨t0, i0, ifs0, 0⟩, ⟨t1, i1, ifs1, 0⟩] scope pos) 1 it acc env) R s)
    (h : wpAny (model prog w) A (pyIter it) (fun it' s' => codeAny (model prog w) A (Code.compLoop (.DictComp kx vx [⟨t0, i0, ifs0, 0⟩, ⟨t1, i1, ifs1, 0⟩] scope pos) 1 it' acc env) R s') (notedBy (model prog w) A env fun e s' => R (.error e) s') s) :
    codeAny (model prog w) A (Code.compStart (.DictComp kx vx [⟨t0, i0, ifs0, 0⟩, ⟨t1, i1, ifs1, 0⟩] scope pos) 1 it acc env) R s := by
  refine codeAny_of_tree (wpAny_notedAt ?_)
  refine wpAny_bind (wpAny_askSetting (wpAny_ite ?_))
  split
  · exact wpAny_bind (wpAny_pure (wpAny_pure ⟨rfl, h0⟩))
  · exact wpAny_bind (wpAny_rule (wpAny_bind (wpAny_standAt (wpAny_bind (wpAny_mono h (fun it' s' h' => wpAny_pure ⟨rfl, h'⟩) fun _ _ h' => h')))))
end
def tDc2 (wi : TI) (g : TG) (tt : TT) (wi1 : TI) (g1 : TG) (tt1 : TT) (tk tv : TE) (vs vs1 : List Nat) : TE := fun σ H Q =>
  wi σ H fun J H1 => ∀ D : Addr, H1 D = none → ∃ W : Nat → Nat → Hp → Prop, (∃ m, W 0 m (upd H1 D (.dK []))) ∧ ∀ (i m : Nat) (H : Hp), W i m H →
    J.stop i H ∧ Q (.ref D) H ∨ J.go i H ∧ ∃ Nx : Hp → Prop, (∀ H', Nx H' → ∃ m', m' < m ∧ W (i + 1) m' H') ∧ ∀ (x : V) (H' : Hp), J.yld i H x H' →
      g x (wipe σ vs) H' fun σ2 H2 => wipe σ2 vs = wipe σ vs ∧ tt σ2 H2 fun b H3 => if b = true then
        wi1 σ2 H3 fun J1 H4 => ∃ W1 : Nat → Nat → Hp → Prop, (∃ m, W1 0 m H4) ∧ ∀ (j k : Nat) (H : Hp), W1 j k H →
          J1.stop j H ∧ Nx H ∨ J1.go j H ∧ ∃ Nx1 : Hp → Prop, (∀ H', Nx1 H' → ∃ k', k' < k ∧ W1 (j + 1) k' H') ∧ ∀ (x : V) (H' : Hp), J1.yld j H x H' →
            g1 x (wipe σ2 vs1) H' fun σ3 H5 => wipe σ3 vs1 = wipe σ2 vs1 ∧ tt1 σ3 H5 fun b H6 => if b = true then
              tk σ3 H6 fun y H7 => tv σ3 H7 fun z H8 => ∃ (kvs : List (Key × V)) (k : Key), y = kV k ∧ H8 D = some (.dK kvs) ∧ kvs.length < sizeLine ∧ Nx1 (upd H8 D (.dK (putK kvs k z)))
            else Nx1 H6
      else Nx H3
theorem dc2_core {X : Cx} {pins : List (Addr × Obj)} {s : Shared} {σ : St} {H : Hp} {Q : VK} {kx vx tg iter tg1 iter1 : Expr} {ifs ifs1 : List Expr} {scope : Scope} {own : List (Str × Nat)} {vs1 : List Nat} {pos pos' : Pos} {wi wi1 : TI} {g g1 : TG} {tt tt1 : TT} {tk tv : TE} {use : Option (Value → Sem Unit)} {Qf : Value → Shared → Prop}
    (hc : X.calm = true) (hN : X.N.Nodup) (I : Inv X pins σ H s) (hi : PI X tg iter wi) (ok : BlkOk X.N X.env.scope scope own) (hv : ∀ i ∈ vs1, i ∈ own.map (·.2))
    (hg : ∀ (s : Shared) (H : Hp) (C : Addr) (cl : List (Str × Addr)) (fp : List Addr), PG (X.blk s H scope (compEnvC scope cl C X.env) fp) tg g)
    (ht : ∀ (s : Shared) (H : Hp) (C : Addr) (cl : List (Str × Addr)) (fp : List Addr), PTs (X.blk s H scope (compEnvC scope cl C X.env) fp) ifs tt)
    (hk : ∀ (s : Shared) (H : Hp) (C : Addr) (cl : List (Str × Addr)) (fp : List Addr), PE (X.blk s H scope (compEnvC scope cl C X.env) fp) kx tk)
    (he : ∀ (s : Shared) (H : Hp) (C : Addr) (cl : List (Str × Addr)) (fp : List Addr), PE (X.blk s H scope (compEnvC scope cl C X.env) fp) vx tv)
    (hs : ∀ x : Value, foldedSetIterable iter X.env x = pure x)
    (hi1 : ∀ (s : Shared) (H : Hp) (C : Addr) (cl : List (Str × Addr)) (fp : List Addr), PI (X.blk s H scope (compEnvC scope cl C X.env) fp) tg1 iter1 wi1)
    (hg1 : ∀ (s : Shared) (H : Hp) (C : Addr) (cl : List (Str × Addr)) (fp : List Addr), PG (X.blk s H scope (compEnvC scope cl C X.env) fp) tg1 g1)
    (ht1 : ∀ (s : Shared) (H : Hp) (C : Addr) (cl : List (Str × Addr)) (fp : List Addr), PTs (X.blk s H scope (compEnvC scope cl C X.env) fp) ifs1 tt1)
    (hs1 : ∀ (env : Env) (x : Value), foldedSetIterable iter1 env x = pure x)
    (h : tDc2 wi g tt wi1 g1 tt1 tk tv (own.map (·.2)) vs1 σ H Q)
    (hRR : ∀ (D C : Addr) (s' : Shared) (m : Str → Option Value) (H' : Hp), Inv X pins σ H' s' → Q (.ref D) H' → s'.heap.Ns C m → FpOk X pins H' C → compPost (model X.prog X.w) X.A X.xe use Qf (.ref D) C (.ok .next) s') :
    wpAny (model X.prog X.w) X.A (comprehension (.DictComp kx vx [⟨tg, iter, ifs, 0⟩, ⟨tg1, iter1, ifs1, 0⟩] scope pos) scope X.env pos' newDict false (eval iter X.env) use) Qf X.xe s := by
  have hs16 := sizeLine_eq
  refine wpAny_comprehension_free rfl hs (closure_ok fun y hy e => (ok.free y hy e).elim (fun k => I.ok.has y.1 (.inl k)) fun k => I.ok.has y.1 (.inr k)) ok.kind (fun y hy e => by rw [ok.uniq y hy, e]) ?_
  refine thn (hi.run pins s σ H _ I h) fun xv s1 hx => thn hx fun itv s2 h2 => ?_
  obtain ⟨it, fp, tn, J, H2, e, I2, T, st2, f2, q⟩ := h2
  subst e
  refine wpAny_newObj_type (newEnv_comp ?_) (by show _ ≤ _; rw [sizeLine_eq]; show 0 ≤ _; exact Nat.zero_le _)
  have hDn := HOk.fresh I2.hok (Nat.le_of_eq (Eq.refl s2.heap.objs.size))
  obtain ⟨W, ⟨m0, w0⟩, turn⟩ := q s2.heap.objs.size hDn
  have I3 : Inv X pins σ (upd H2 s2.heap.objs.size (.dK [])) { s2 with heap := s2.heap.push { cls := .type "dict", data := .dict #[] } } :=
    Inv.laid I2 (fun b o e => Heap.get?_push_of_some _ e) (Nat.le_of_eq rfl) (dk_empty s2.heap (Inv.big I2))
  have sz : ∀ b ∈ fp, b < s2.heap.objs.size := fun b hb => by
    obtain ⟨o, e, _⟩ := T.obj 0 s2.heap st2 b hb
    exact Heap.lt_size e
  have f3 : ∀ b ∈ fp, FpOk X pins (upd H2 s2.heap.objs.size (.dK [])) b ∧ b < ({ s2 with heap := s2.heap.push { cls := .type "dict", data := .dict #[] } } : Shared).heap.objs.size := fun b hb => by
    have hlt := sz b hb
    refine ⟨⟨by rw [upd_ne (Nat.ne_of_lt hlt)]; exact (f2 b hb).1, (f2 b hb).2⟩, ?_⟩
    show b < (s2.heap.push _).objs.size
    rw [Heap.size_push]
    exact Nat.lt_succ_of_lt hlt
  have st3 := T.keep 0 s2.heap (s2.heap.push { cls := .type "dict", data := .dict #[] }) st2 fun b x o e => Heap.get?_push_of_some _ e
  have I4 := block_start I3 ok hN f3
  have nfp : ∀ b ∈ fp, upd H2 s2.heap.objs.size (.dK []) b = none := fun b hb => (f3 b hb).1.1
  have st3' : tn 0 ({ s2 with heap := s2.heap.push { cls := .type "dict", data := .dict #[] } } : Shared).heap := st3
  generalize hS3 : ({ s2 with heap := s2.heap.push { cls := .type "dict", data := .dict #[] } } : Shared) = S3 at I3 f3 I4 st3' ⊢
  have pg := hg S3 (upd H2 s2.heap.objs.size (.dK [])) S3.heap.objs.size (cellsFrom (S3.heap.objs.size + 1) scope.names (cloFrom X.env.cells scope.names [])) fp
  have pt := ht S3 (upd H2 s2.heap.objs.size (.dK [])) S3.heap.objs.size (cellsFrom (S3.heap.objs.size + 1) scope.names (cloFrom X.env.cells scope.names [])) fp
  have pk := hk S3 (upd H2 s2.heap.objs.size (.dK [])) S3.heap.objs.size (cellsFrom (S3.heap.objs.size + 1) scope.names (cloFrom X.env.cells scope.names [])) fp
  have pe := he S3 (upd H2 s2.heap.objs.size (.dK [])) S3.heap.objs.size (cellsFrom (S3.heap.objs.size + 1) scope.names (cloFrom X.env.cells scope.names [])) fp
  have pi1 := hi1 S3 (upd H2 s2.heap.objs.size (.dK [])) S3.heap.objs.size (cellsFrom (S3.heap.objs.size + 1) scope.names (cloFrom X.env.cells scope.names [])) fp
  have pg1 := hg1 S3 (upd H2 s2.heap.objs.size (.dK [])) S3.heap.objs.size (cellsFrom (S3.heap.objs.size + 1) scope.names (cloFrom X.env.cells scope.names [])) fp
  have pt1 := ht1 S3 (upd H2 s2.heap.objs.size (.dK [])) S3.heap.objs.size (cellsFrom (S3.heap.objs.size + 1) scope.names (cloFrom X.env.cells scope.names [])) fp
  show codeAny (model X.prog X.w) X.A (Code.compStart (.DictComp kx vx [⟨tg, iter, ifs, 0⟩, ⟨tg1, iter1, ifs1, 0⟩] scope pos) 0 (.ref it) (.ref s2.heap.objs.size) (compEnvC scope (cellsFrom (S3.heap.objs.size + 1) scope.names (cloFrom X.env.cells scope.names [])) S3.heap.objs.size X.env)) (compPost (model X.prog X.w) X.A X.xe use Qf (.ref s2.heap.objs.size) S3.heap.objs.size) { S3 with heap := pushCells (S3.heap.push { cls := .type "dict", data := .dict #[] }) scope.names }
  have cL : (compEnvC scope (cellsFrom (S3.heap.objs.size + 1) scope.names (cloFrom X.env.cells scope.names [])) S3.heap.objs.size X.env).locals = S3.heap.objs.size := rfl
  generalize (compEnvC scope (cellsFrom (S3.heap.objs.size + 1) scope.names (cloFrom X.env.cells scope.names [])) S3.heap.objs.size X.env) = ce at I4 pg pt pk pe pi1 pg1 pt1 cL ⊢
  have st4 := T.keep 0 S3.heap (pushCells (S3.heap.push { cls := .type "dict", data := .dict #[] }) scope.names) st3' fun b x o e => pushCells_keeps scope.names _ b o (Heap.get?_push_of_some _ e)
  have stat : ∀ {σ' : St} {H' : Hp} {s' : Shared}, Inv (X.blk S3 (upd H2 s2.heap.objs.size (.dK [])) scope ce fp) [] σ' H' s' → (∀ b ∈ fp, H' b = none) → ∀ b ∈ fp, FpOk (X.blk S3 (upd H2 s2.heap.objs.size (.dK [])) scope ce fp) [] H' b := fun I' hn b hb =>
    ⟨hn b hb, (I'.ok.exf b hb).1, I'.ok.exfs b hb, Or.inl hb, fun x c e => (I'.ok.exf b hb).2 x c e, fun p hp => absurd (show p ∈ ([] : List (Addr × Obj)) from hp) (by simp)⟩
  have loop : codeAny (model X.prog X.w) X.A (Code.compLoop (.DictComp kx vx [⟨tg, iter, ifs, 0⟩, ⟨tg1, iter1, ifs1, 0⟩] scope pos) 0 (.ref it) (.ref s2.heap.objs.size) ce) (compPost (model X.prog X.w) X.A X.xe use Qf (.ref s2.heap.objs.size) S3.heap.objs.size) { S3 with heap := pushCells (S3.heap.push { cls := .type "dict", data := .dict #[] }) scope.names } := by
    refine dLoop2_out (hs1 ce) (fun n s' => ∃ i H', Inv (X.blk S3 (upd H2 s2.heap.objs.size (.dK [])) scope ce fp) [] (wipe σ (own.map (·.2))) H' s' ∧ tn i s'.heap ∧ (∀ b ∈ fp, H' b = none) ∧ W i n H') (fun n s5 a => ?_) m0 ⟨0, _, I4, st4, nfp, w0⟩
    obtain ⟨i, H5, I5, st5, n5, w5⟩ := a
    rcases turn i n H5 w5 with ⟨stop, qq⟩ | ⟨go, Nx, hNx, step⟩
    · have td := T.done (X.blk S3 (upd H2 s2.heap.objs.size (.dK [])) scope ce fp) rfl rfl rfl hc i [] s5 (wipe σ (own.map (·.2))) H5 (fun _ _ => False) I5 (stat I5 n5) st5 stop
      refine thnF td fun r s6 x => ?_
      obtain ⟨hr, I6⟩ := x
      subst hr
      have I7 := Inv.call' I3 I6.os I6.base I6.hok I6.bare fun b hb => ⟨(f3 b hb).1.2.2.2.1, (f3 b hb).1.2.1, (f3 b hb).1.2.2.2.2.1, (f3 b hb).1.2.2.2.2.2⟩
      have nC : H5 S3.heap.objs.size = none := by
        have z := I6.free
        rw [← cL]
        exact z
      obtain ⟨m, hn, _⟩ := I6.loc
      have hn' : s6.heap.Ns S3.heap.objs.size m := by rw [← cL]; exact hn
      exact hRR s2.heap.objs.size S3.heap.objs.size s6 m H5 I7 qq hn' (Inv.fpOk I3 (Nat.le_refl _) nC)
    · have ti := T.item (X.blk S3 (upd H2 s2.heap.objs.size (.dK [])) scope ce fp) rfl rfl rfl hc i [] s5 (wipe σ (own.map (·.2))) H5 (fun _ _ => False) I5 (stat I5 n5) st5 go
      refine thnF ti fun r s6 x => ?_
      obtain ⟨u, hr, h6⟩ := x
      subst hr
      refine thnF h6 fun x s7 x1 => ?_
      obtain ⟨x, H7, I7, r7, y7, st7, n7⟩ := x1
      have I7' := Inv.pinned I7 (stat I7 n7) (T.obj (i + 1) s7.heap st7)
      refine thnF (pg.run ([] ++ pinsAt fp s7.heap) s7 (wipe σ (own.map (·.2))) H7 x u _ I7' r7 (step x H7 y7)) fun x s8 x2 => ?_
      obtain ⟨σ8, H8, I8, hw8, q8⟩ := x2
      refine thnF (pt.run ([] ++ pinsAt fp s7.heap) s8 σ8 H8 _ I8 q8) fun b s9 x => ?_
      obtain ⟨H9, I9, q9⟩ := x
      have fin : ∀ {σ9 : St} {s' : Shared} {H' : Hp}, Inv (X.blk S3 (upd H2 s2.heap.objs.size (.dK [])) scope ce fp) ([] ++ pinsAt fp s7.heap) σ9 H' s' → (wipe σ (own.map (·.2))).length = σ9.length → (∀ (j : Nat) (v : V), (wipe σ (own.map (·.2)))[j]? = some (some v) → σ9[j]? = some (some v)) → Nx H' →
          ∃ m, m < n ∧ ∃ i H', Inv (X.blk S3 (upd H2 s2.heap.objs.size (.dK [])) scope ce fp) [] (wipe σ (own.map (·.2))) H' s' ∧ tn i s'.heap ∧ (∀ b ∈ fp, H' b = none) ∧ W i m H' := fun {σ9 s' H'} I' hl hk nx => by
        obtain ⟨m', hm, w'⟩ := hNx H' nx
        have pin' : ∀ b ∈ fp, ∀ o, s7.heap.get? b = some o → s'.heap.get? b = some o ∧ H' b = none := fun b hb o e => by
          have z := I'.pin (b, o) (List.mem_append_right _ (List.mem_append_right [] (mem_pinsAt hb e)))
          exact ⟨z.1, z.2.1⟩
        refine ⟨m', hm, i + 1, H', Inv.weak (Inv.unpinned I') hl hk, T.keep (i + 1) s7.heap s'.heap st7 fun b hb o e => (pin' b hb o e).1, fun b hb => ?_, w'⟩
        obtain ⟨o, e, _⟩ := T.obj (i + 1) s7.heap st7 b hb
        exact (pin' b hb o e).2
      have hl8 : (wipe σ (own.map (·.2))).length = σ8.length := by rw [← hw8, wipe_length]
      have hk8 : ∀ (j : Nat) (v : V), (wipe σ (own.map (·.2)))[j]? = some (some v) → σ8[j]? = some (some v) := fun j v e => by
        rw [← hw8] at e
        exact (wipe_some e).1
      have hk9 : ∀ (j : Nat) (v : V), (wipe σ (own.map (·.2)))[j]? = some (some v) → (wipe σ8 vs1)[j]? = some (some v) := fun j v e => by
        rw [← hw8] at e
        obtain ⟨e1, e2⟩ := wipe_some e
        rw [wipe_out fun z => e2 (hv j z)]
        exact e1
      cases b with
      | false =>
        rw [if_neg (by decide)] at q9 ⊢
        exact fin I9 hl8 hk8 q9
      | true =>
        rw [if_pos rfl] at q9 ⊢
        refine thnF (pi1.run ([] ++ pinsAt fp s7.heap) s9 σ8 H9 _ I9 q9) fun xv s10 hx => thnF hx fun itv s11 h11 => ?_
        obtain ⟨it1, fp1, tn1, J1, H11, e1, I11, T1, st11, f11, W1, ⟨m1, w1⟩, turn1⟩ := h11
        subst e1
        have stat1 : ∀ {H' : Hp}, (∀ b ∈ fp1, H' b = none) → ∀ b ∈ fp1, FpOk (X.blk S3 (upd H2 s2.heap.objs.size (.dK [])) scope ce fp) ([] ++ pinsAt fp s7.heap) H' b := fun hn b hb => ⟨hn b hb, (f11 b hb).2⟩
        have loop1 : codeAny (model X.prog X.w) X.A (Code.compLoop (.DictComp kx vx [⟨tg, iter, ifs, 0⟩, ⟨tg1, iter1, ifs1, 0⟩] scope pos) 1 (.ref it1) (.ref s2.heap.objs.size) ce)
            (fun r s' => match r with
              | .ok a => ∃ m, m < n ∧ ∃ i H', Inv (X.blk S3 (upd H2 s2.heap.objs.size (.dK [])) scope ce fp) [] (wipe σ (own.map (·.2))) H' s' ∧ tn i s'.heap ∧ (∀ b ∈ fp, H' b = none) ∧ W i m H'
              | .error a => False) s11 := by
          refine dLoop2_in (fun k s' => ∃ j H', Inv (X.blk S3 (upd H2 s2.heap.objs.size (.dK [])) scope ce fp) ([] ++ pinsAt fp s7.heap) (wipe σ8 vs1) H' s' ∧ tn1 j s'.heap ∧ (∀ b ∈ fp1, H' b = none) ∧ W1 j k H') (fun k s12 a => ?_) m1 ⟨0, H11, Inv.weak I11 (wipe_length σ8 vs1) (fun j v e => (wipe_some e).1), st11, fun b hb => (f11 b hb).1, w1⟩
          obtain ⟨j, H12, I12, st12, n12, w12⟩ := a
          rcases turn1 j k H12 w12 with ⟨stop1, nx1⟩ | ⟨go1, Nx1, hNx1, step1⟩
          · refine thnF (T1.done (X.blk S3 (upd H2 s2.heap.objs.size (.dK [])) scope ce fp) rfl rfl rfl hc j ([] ++ pinsAt fp s7.heap) s12 (wipe σ8 vs1) H12 (fun _ _ => False) I12 (stat1 n12) st12 stop1) fun r s13 x => ?_
            obtain ⟨hr, I13⟩ := x
            subst hr
            exact fin I13 (hl8.trans (wipe_length σ8 vs1).symm) hk9 nx1
          · refine thnF (T1.item (X.blk S3 (upd H2 s2.heap.objs.size (.dK [])) scope ce fp) rfl rfl rfl hc j ([] ++ pinsAt fp s7.heap) s12 (wipe σ8 vs1) H12 (fun _ _ => False) I12 (stat1 n12) st12 go1) fun r s13 x => ?_
            obtain ⟨u1, hr, h13⟩ := x
            subst hr
            refine thnF h13 fun x s14 x3 => ?_
            obtain ⟨x1, H14, I14, r14, y14, st14, n14⟩ := x3
            have I14' := Inv.pinned I14 (stat1 n14) (T1.obj (j + 1) s14.heap st14)
            refine thnF (pg1.run ([] ++ pinsAt fp s7.heap ++ pinsAt fp1 s14.heap) s14 (wipe σ8 vs1) H14 x1 u1 _ I14' r14 (step1 x1 H14 y14)) fun x s15 x4 => ?_
            obtain ⟨σ15, H15, I15, hw15, q15⟩ := x4
            refine thnF (pt1.run ([] ++ pinsAt fp s7.heap ++ pinsAt fp1 s14.heap) s15 σ15 H15 _ I15 q15) fun b1 s16 x => ?_
            obtain ⟨H16, I16, q16⟩ := x
            have fin1 : ∀ {s' : Shared} {H' : Hp}, Inv (X.blk S3 (upd H2 s2.heap.objs.size (.dK [])) scope ce fp) ([] ++ pinsAt fp s7.heap ++ pinsAt fp1 s14.heap) σ15 H' s' → Nx1 H' →
                ∃ m, m < k ∧ ∃ j H', Inv (X.blk S3 (upd H2 s2.heap.objs.size (.dK [])) scope ce fp) ([] ++ pinsAt fp s7.heap) (wipe σ8 vs1) H' s' ∧ tn1 j s'.heap ∧ (∀ b ∈ fp1, H' b = none) ∧ W1 j m H' := fun {s' H'} I' nx => by
              obtain ⟨m', hm, w'⟩ := hNx1 H' nx
              have pin' : ∀ b ∈ fp1, ∀ o, s14.heap.get? b = some o → s'.heap.get? b = some o ∧ H' b = none := fun b hb o e => by
                have z := I'.pin (b, o) (List.mem_append_right _ (List.mem_append_right _ (mem_pinsAt hb e)))
                exact ⟨z.1, z.2.1⟩
              refine ⟨m', hm, j + 1, H', Inv.weak (Inv.unpinned I') (by rw [← hw15, wipe_length]) (fun j v e => by rw [← hw15] at e; exact (wipe_some e).1), T1.keep (j + 1) s14.heap s'.heap st14 fun b hb o e => (pin' b hb o e).1, fun b hb => ?_, w'⟩
              obtain ⟨o, e, _⟩ := T1.obj (j + 1) s14.heap st14 b hb
              exact (pin' b hb o e).2
            cases b1 with
            | false =>
              rw [if_neg (by decide)] at q16 ⊢
              exact fin1 I16 q16
            | true =>
              rw [if_pos rfl] at q16 ⊢
              refine thnF (pk.run ([] ++ pinsAt fp s7.heap ++ pinsAt fp1 s14.heap) s16 σ15 H16 _ I16 q16) fun z s17 x => ?_
              obtain ⟨yk, H17, I17, r17, q17⟩ := x
              refine thnF (pe.run ([] ++ pinsAt fp s7.heap ++ pinsAt fp1 s14.heap) s17 σ15 H17 _ I17 q17) fun z2 s18 x => ?_
              obtain ⟨yv, H18, I18, r18, kvs, k', ek, hD18, hz18, nx⟩ := x
              subst ek
              exact d_dictSet (X := X.blk S3 (upd H2 s2.heap.objs.size (.dK [])) scope ce fp) I18 hD18 hz18 r17 r18 fun s19 I19 => fin1 I19 nx
        exact dStart1_ok loop1 (T1.self X.A 0 s11 _ _ st11 loop1)
  exact codeAny_compStart_dict loop (T.self X.A 0 _ _ _ st4 loop)
theorem pe_dc2 {X : Cx} {kx vx tg iter tg1 iter1 : Expr} {ifs ifs1 : List Expr} {scope : Scope} {own : List (Str × Nat)} {vs1 : List Nat} {pos : Pos} {wi wi1 : TI} {g g1 : TG} {tt tt1 : TT} {tk tv : TE}
    (hc : X.calm = true) (hN : X.N.Nodup) (hi : PI X tg iter wi) (ok : BlkOk X.N X.env.scope scope own) (hv : ∀ i ∈ vs1, i ∈ own.map (·.2))
    (hg : ∀ (s : Shared) (H : Hp) (C : Addr) (cl : List (Str × Addr)) (fp : List Addr), PG (X.blk s H scope (compEnvC scope cl C X.env) fp) tg g)
    (ht : ∀ (s : Shared) (H : Hp) (C : Addr) (cl : List (Str × Addr)) (fp : List Addr), PTs (X.blk s H scope (compEnvC scope cl C X.env) fp) ifs tt)
    (hi1 : ∀ (s : Shared) (H : Hp) (C : Addr) (cl : List (Str × Addr)) (fp : List Addr), PI (X.blk s H scope (compEnvC scope cl C X.env) fp) tg1 iter1 wi1)
    (hg1 : ∀ (s : Shared) (H : Hp) (C : Addr) (cl : List (Str × Addr)) (fp : List Addr), PG (X.blk s H scope (compEnvC scope cl C X.env) fp) tg1 g1)
    (ht1 : ∀ (s : Shared) (H : Hp) (C : Addr) (cl : List (Str × Addr)) (fp : List Addr), PTs (X.blk s H scope (compEnvC scope cl C X.env) fp) ifs1 tt1)
    (hk : ∀ (s : Shared) (H : Hp) (C : Addr) (cl : List (Str × Addr)) (fp : List Addr), PE (X.blk s H scope (compEnvC scope cl C X.env) fp) kx tk)
    (he : ∀ (s : Shared) (H : Hp) (C : Addr) (cl : List (Str × Addr)) (fp : List Addr), PE (X.blk s H scope (compEnvC scope cl C X.env) fp) vx tv)
    (hs : ∀ x : Value, foldedSetIterable iter X.env x = pure x := by intro _; rfl) (hs1 : ∀ (env : Env) (x : Value), foldedSetIterable iter1 env x = pure x := by intro _ _; rfl) :
    PE X (.DictComp kx vx [⟨tg, iter, ifs, 0⟩, ⟨tg1, iter1, ifs1, 0⟩] scope pos) (tDc2 wi g tt wi1 g1 tt1 tk tv (own.map (·.2)) vs1) := by
  refine ⟨fun pins s σ H Q I h => ?_⟩
  rw [arm_eval_DictComp]
  refine dc2_core hc hN I hi ok hv hg ht hk he hs hi1 hg1 ht1 hs1 h fun D C s' m H' I' q hn f => ?_
  obtain ⟨f0, f1, f2, f3, f4, f5⟩ := f
  exact ⟨m, hn, fun h'' sb => ⟨.ref D, H', Inv.turned I' (fun b o hb e => (sb.2 b hb).trans e) f0 f1 f3 f4 f5, rfl, q⟩⟩
theorem ps_setDc2 {X : Cx} {j : Nat} {nm : Str} {qy : Pos} {kx vx tg iter tg1 iter1 : Expr} {ifs ifs1 : List Expr} {scope : Scope} {own : List (Str × Nat)} {vs1 : List Nat} {pos sq : Pos} {wi wi1 : TI} {g g1 : TG} {tt tt1 : TT} {tk tv : TE}
    (hc : X.calm = true) (hN : X.N.Nodup) (at_ : X.N[j]? = some nm) (loc : X.env.scope.names.lookup nm = some .local) (sw : swapsWith (.DictComp kx vx [⟨tg, iter, ifs, 0⟩, ⟨tg1, iter1, ifs1, 0⟩] scope pos) (some (.Name nm qy)) sq.line X.env = pure true)
    (hi : PI X tg iter wi) (ok : BlkOk X.N X.env.scope scope own) (hv : ∀ i ∈ vs1, i ∈ own.map (·.2))
    (hg : ∀ (s : Shared) (H : Hp) (C : Addr) (cl : List (Str × Addr)) (fp : List Addr), PG (X.blk s H scope (compEnvC scope cl C X.env) fp) tg g)
    (ht : ∀ (s : Shared) (H : Hp) (C : Addr) (cl : List (Str × Addr)) (fp : List Addr), PTs (X.blk s H scope (compEnvC scope cl C X.env) fp) ifs tt)
    (hi1 : ∀ (s : Shared) (H : Hp) (C : Addr) (cl : List (Str × Addr)) (fp : List Addr), PI (X.blk s H scope (compEnvC scope cl C X.env) fp) tg1 iter1 wi1)
    (hg1 : ∀ (s : Shared) (H : Hp) (C : Addr) (cl : List (Str × Addr)) (fp : List Addr), PG (X.blk s H scope (compEnvC scope cl C X.env) fp) tg1 g1)
    (ht1 : ∀ (s : Shared) (H : Hp) (C : Addr) (cl : List (Str × Addr)) (fp : List Addr), PTs (X.blk s H scope (compEnvC scope cl C X.env) fp) ifs1 tt1)
    (hk : ∀ (s : Shared) (H : Hp) (C : Addr) (cl : List (Str × Addr)) (fp : List Addr), PE (X.blk s H scope (compEnvC scope cl C X.env) fp) kx tk)
    (he : ∀ (s : Shared) (H : Hp) (C : Addr) (cl : List (Str × Addr)) (fp : List Addr), PE (X.blk s H scope (compEnvC scope cl C X.env) fp) vx tv)
    (hs : ∀ x : Value, foldedSetIterable iter X.env x = pure x := by intro _; rfl) (hs1 : ∀ (env : Env) (x : Value), foldedSetIterable iter1 env x = pure x := by intro _ _; rfl) :
    PS X (.Assign [.Name nm qy] (.DictComp kx vx [⟨tg, iter, ifs, 0⟩, ⟨tg1, iter1, ifs1, 0⟩] scope pos) sq) (tAsg (tDc2 wi g tt wi1 g1 tt1 tk tv (own.map (·.2)) vs1) (gName j)) := by
  constructor
  intro pn st sl hp ends inv rd
  rw [exec_Assign_Name_used _ _ _ _ sw]
  refine wpAny_bind (wpAny_standAt ?_)
  refine wpAny_bind ?_
  show wpAny _ X.A (do let _ ← comprehension (.DictComp kx vx [⟨tg, iter, ifs, 0⟩, ⟨tg1, iter1, ifs1, 0⟩] scope pos) scope X.env (firstIterPos [⟨tg, iter, ifs, 0⟩, ⟨tg1, iter1, ifs1, 0⟩] pos) newDict false (eval iter X.env) (some (assign (.Name nm qy) X.env))) _ _ st
  have rd' : tDc2 wi g tt wi1 g1 tt1 tk tv (own.map (·.2)) vs1 sl hp (fun x H1 => gName j x sl H1 ends.nx) := rd
  refine wpAny_bind (thn (dc2_core (Qf := fun _ st' => SP X pn ends .next st') hc hN inv hi ok hv hg ht hk he hs hi1 hg1 ht1 hs1 rd' fun D C st1 mm hp1 inv1 q1 ns fr => ?_) fun _ st' hq => ?_)
  · show wpAny _ _ (assign (.Name nm qy) X.env (.ref D)) _ _ _
    refine wpAny_assign_Name (store_ok2 (v := V.ref D) inv1 hN at_ (.inl loc) rfl (fun st2 inv2 ⟨b, sb, hb⟩ => ?_) (.inr loc))
    obtain ⟨a0, a1, a2, a3, a4, a5⟩ := fr
    have cb : C ≠ b := by
      rcases hb with z | z
      · rw [z]
        exact a1
      · exact fun e => a4 nm b z e.symm
    refine ⟨mm, ns.sameBut sb cb, fun h3 sb3 => ⟨_, hp1, inv2.turned (t' := st2.toks) (fun b o nb e => (sb3.2 b nb).trans e) a0 a1 a3 a4 a5, q1⟩⟩
  · exact wpAny_pure (wpAny_pure hq)
/-- the inner walk of one turn -/
theorem in_it {J1 : It} {n1 : Nat} {G1 : Hp → Prop} {Y1 : Nat → Hp → V → Hp → Prop} (wk : Walk J1 n1 G1 Y1) {Nx : Hp → Prop} {tb : V → (Hp → Prop) → Hp → Prop} {H0 : Hp} (Pv : Nat → Hp → Prop) (h0 : Pv 0 H0) (hG : ∀ i H, i ≤ n1 → Pv i H → G1 H)
    (step : ∀ i x H H', i < n1 → Pv i H → Y1 i H x H' → tb x (Pv (i + 1)) H') (fin : ∀ H, Pv n1 H → Nx H) :
    ∃ W1 : Nat → Nat → Hp → Prop, (∃ m, W1 0 m H0) ∧ ∀ (j k : Nat) (H : Hp), W1 j k H → J1.stop j H ∧ Nx H ∨ J1.go j H ∧ ∃ Nx1 : Hp → Prop, (∀ H', Nx1 H' → ∃ k', k' < k ∧ W1 (j + 1) k' H') ∧ ∀ (x : V) (H' : Hp), J1.yld j H x H' → tb x Nx1 H' := by
  refine ⟨fun j k H => j + k = n1 ∧ Pv j H, ⟨n1, by omega, h0⟩, fun j k H ⟨e, hP⟩ => ?_⟩
  by_cases hj : j < n1
  · exact .inr ⟨wk.goes j H hj (hG j H (by omega) hP), Pv (j + 1), fun H' h' => ⟨k - 1, by omega, by omega, h'⟩, fun x H' y => step j x H H' hj hP (wk.yields j H x H' hj (hG j H (by omega) hP) y)⟩
  · obtain rfl : j = n1 := by omega
    exact .inl ⟨wk.stops H (hG j H (Nat.le_refl _) hP), fin H hP⟩
end L2

set_option Elab.async false
set_option linter.all false
set_option maxRecDepth 100000
set_option maxHeartbeats 2000000
/-! s.ljust(n, c) -/
namespace L2
open PySem PySem.Spec PyProof.Rows
def ljustC (x : Str) (i : Int) (c : Nat) : Str := if i ≤ (x.length : Int) then x else Builtin.Str.padded x 0 (i.toNat - x.length) c
theorem gives_ljust2 (x : Str) (i : Int) (c : Nat) (t u tf : Tok) (hr : (decide (i < -2 ^ 63) || decide (i ≥ 2 ^ 63)) = false) (hl : Builtin.Str.tooLong i.toNat = false) :
    Gives (Builtin.«str.ljust» { pos := [.str x t, .int i u, .str ⟨#[c]⟩ tf] }) (if i ≤ (x.length : Int) then Made.val (.str x t) else Made.str (Builtin.Str.padded x 0 (i.toNat - x.length) c)) := by
  show Gives (do
      let width ← Builtin.Str.asSsize (toString "str." ++ toString "ljust") (.int i u)
      if width ≤ (x.length : Int) then do
          rule (toString "str." ++ toString "ljust" ++ toString ".long-enough")
          ret (.str x t)
        else if Builtin.Str.tooLong width.toNat = true then unsupported (toString "str." ++ toString "ljust" ++ toString ":memory")
          else retStr (Builtin.Str.padded x 0 (width.toNat - x.length) c)) _
  rw [asSsize_int _ i u hr]
  show Gives (if i ≤ (x.length : Int) then do
          rule (toString "str." ++ toString "ljust" ++ toString ".long-enough")
          ret (.str x t)
        else if Builtin.Str.tooLong i.toNat = true then unsupported (toString "str." ++ toString "ljust" ++ toString ":memory")
          else retStr (Builtin.Str.padded x 0 (i.toNat - x.length) c)) _
  rw [hl]
  by_cases h : i ≤ (x.length : Int)
  · rw [if_pos h, if_pos h]
    exact Gives.rule (Gives.of_eq rfl)
  · rw [if_neg h, if_neg h]
    exact Gives.of_eq rfl
theorem args_lj3 (a b c : Value) : argsOk "str.ljust" { pos := [a, b, c] } := by
  show (match Manifest.signature? "str.ljust" with | some sig => Bind.checkArgs "str.ljust" sig { pos := [a, b, c] } | none => pure ()) = pure ()
  rw [signature?_of (by rfl) F.owner_str]
  rfl
theorem mt_ljust2 {X : Cx} : MtR X "str.ljust" fun x xs H Q => ∃ (a : Str) (i : Int) (c : Nat), x = .str a ∧ xs = [.int i, .str ⟨#[c]⟩] ∧ PadOk i = true ∧ Q (.str (ljustC a i c)) H := by
  intro pins s σ H x xs v us Q I rx rs h
  obtain ⟨a, i, c, rfl, rfl, hp, q⟩ := h
  obtain ⟨t, rfl⟩ := rx
  cases rs with
  | cons r1 rs1 => cases rs1 with
    | cons r2 rs2 => cases rs2 with
      | nil =>
        obtain ⟨u, rfl⟩ := r1
        obtain ⟨tf, rfl⟩ := r2
        refine call_gives F.slot_str_ljust (typeIs_str s a t) F.entry_str_ljust (args_lj3 _ _ _) (gives_ljust2 a i c t u tf (PadOk.parts hp).1 (PadOk.parts hp).2) ?_
        exact post_val_or_made (fits_padR c (PadOk.parts hp).2) fun t' k => ⟨.str (ljustC a i c), H, I.tok k, ⟨t', rfl⟩, q⟩
end L2

set_option Elab.async false
set_option linter.all false
set_option maxRecDepth 100000
set_option maxHeartbeats 2000000
/-! for x in reversed(a text) -/
namespace L2
open PySem PySem.Spec PyProof.Rows
theorem rs_norev : typeLookup (Value.type "str") (Str.ofString "__reversed__") = pure none := by
  rw [typeLookup_type, builtinLookup_eq_fast]
  rfl
def rsObj (z : Str) (t : Tok) (i : Int) : Obj := { cls := .type "reversed", data := .fields #[.str z t, rawInt i] }
def IsRs (h : Heap) (a : Addr) (z : Str) (t : Tok) (i : Int) : Prop := ∃ o, h.get? a = some o ∧ o.cls = .type "reversed" ∧ o.data = .fields #[.str z t, rawInt i]
theorem IsRs.typeIs {s : Shared} {a : Addr} {z : Str} {t : Tok} {i : Int} (h : IsRs s.heap a z t i) : s.TypeIs (.ref a) "reversed" := by
  obtain ⟨o, e, c, _⟩ := h
  exact ⟨o, e, c⟩
section
variable {prog : Program} {w : World} {A : Around} {E : Value → Shared → Prop} {s : Shared}
theorem rs_code {z : Str} {t : Tok} {Q1 : Value → Shared → Prop} (hz : z.length ≤ sizeLine)
    (h : Q1 (.ref s.heap.objs.size) { s with heap := s.heap.push (rsObj z t ((z.length : Int) - 1)), toks := s.toks + 1 + 1 }) :
    codeAny (model prog w) A (Code.call (.builtin "reversed.__new__") { pos := [.type "reversed", .str z t] }) (wants Q1 E) s := by
  have hT : s.TypeIs (.str z t) "str" := typeIs_str s z t
  have hs := sizeLine_eq
  refine codeAny_of_tree ?_
  refine wpAny_bind (wpAny_of_eq (F.newCall_reversed_1 (.str z t)) (wpAny_pure ⟨plainId_quiet F.plain_reversed_new _, codeAny_builtin F.entry_reversed_new ?_⟩))
  rw [Around.under_plainId F.plain_reversed_new]
  refine wpAny_bind (wpAny_of_eq (newClass_reversed (.str z t)) ?_)
  refine wpAny_bind (wpAny_of_eq rfl ?_)
  refine wpAny_bind (wpAny_of_eq rfl ?_)
  refine wpAny_bind (wpAny_specialOf hT rs_norev ?_)
  refine wpAny_bind ?_
  refine wpAny_bind (wpAny_isInstance hT F.sub_str_dict ?_)
  rw [if_neg (by decide)]
  refine wpAny_bind (wpAny_specialOf hT F.slot_str_getitem.lookup ?_)
  show wpAny (model prog w) A.in1 (if (["tuple.__getitem__", "str.__getitem__", "bytes.__getitem__", "bytearray.__getitem__", "memoryview.__getitem__", "numpy.ndarray.__getitem__", "sqlite3.Row.__getitem__"].contains "str.__getitem__") = true then pure true else _) _ _ s
  rw [if_pos (by decide)]
  refine wpAny_pure ?_
  rw [if_neg (by decide)]
  have hlt : ¬ ((z.length : Int) ≥ 2 ^ 63) := by omega
  refine wpAny_bind (PySem.P.len_str hlt ?_)
  refine wpAny_bind (wpAny_of_eq rfl ?_)
  refine wpAny_bind ?_
  unfold Builtin.SmallTypes.newRecord
  refine wpAny_newObj_type ?_ ?_
  · exact wpAny_pure h
  show sizeOk (.fields (#[Value.str z t, rawInt ((z.length : Int) - 1)]))
  unfold sizeOk
  rw [sizeLine_eq]
  show 2 ≤ 16777216 + 2
  decide
theorem rs_call {z : Str} {t : Tok} {Q : Value → Shared → Prop} (hz : z.length ≤ sizeLine)
    (h : Q (.ref s.heap.objs.size) { s with heap := s.heap.push (rsObj z t ((z.length : Int) - 1)), toks := s.toks + 1 + 1 }) :
    wpAny (model prog w) A (call (.type "reversed") [.str z t]) Q E s := by
  refine callType_codes RT.called_rt (F.typeCall_reversed_1 (.str z t)) F.entry_object_init (rs_code (Q1 := fun v s1 => s1.TypeIs v "reversed" ∧ Q v s1) hz ?a) ?b
  case a => exact ⟨⟨rsObj z t ((z.length : Int) - 1), Heap.get?_push_size s.heap rfl, rfl⟩, h⟩
  case b =>
    intro obj s1 h1
    exact ⟨h1.1, ⟨F.args_object_init_2 obj (.str z t),
      object_init_meets RT.called_rt.init.lookup RT.called_rt.made (by decide) prog w A.in1 (wants (fun r s2 => r = Value.none ∧ Q obj s2) E) s1 ⟨h1.1, ⟨rfl, h1.2⟩⟩⟩⟩
theorem rs_item {it : Addr} {z : Str} {t : Tok} {i c : Nat} {Q : Option Value → Shared → Prop} (hit : IsRs s.heap it z t (i : Int)) (hc : z.cps[i]? = some c) (hz : z.length ≤ sizeLine)
    (hQ : ∀ (h' : Heap), IsRs h' it z t ((i : Int) - 1) → Heap.SameBut it s.heap h' → Q (some (.str ⟨#[c]⟩ (s.toks + 1))) { s with heap := h', toks := s.toks + 1 + 1 }) :
    wpAny (model prog w) A (pyNext (.ref it)) Q E s := by
  obtain ⟨o, ho, hcl, hd⟩ := id hit
  have hi : i < z.length := (Array.getElem?_eq_some_iff.mp hc).1
  have hs := sizeLine_eq
  have hT : s.TypeIs (.str z t) "str" := typeIs_str s z t
  refine wpAny_bind (wpAny_attempt (wpAny_callSpecial?_slot (IsRs.typeIs hit) RT.slot_rt_next (wpAny_call_entry RT.slot_rt_next (IsRs.typeIs hit) RT.entry_rt_next ?_ (RT.args_rt_next (.ref it)))))
  refine wpAny_bind (wpAny_of_eq rfl ?_)
  refine wpAny_bind (wpAny_field ho hd rfl ?_)
  refine wpAny_bind (wpAny_field ho hd rfl ?_)
  show wpAny (model prog w) A.in1 (if (i : Int) < 0 then _ else _) _ _ _
  rw [if_neg (by omega)]
  refine wpAny_bind (wpAny_specialOf hT F.slot_str_getitem.lookup ?_)
  rw [if_neg (by decide)]
  refine wpAny_bind (wpAny_mkInt ?_)
  refine wpAny_bind (wpAny_attempt ?_)
  refine PySem.P.getItem_str (c := c) ?r1 ?r2 ?_
  case r1 => simp; omega
  case r2 =>
    rw [seqIndex_of (by omega) (by omega)]
    exact hc
  refine wpAny_bind (wpAny_field ho hd rfl ?_)
  refine wpAny_bind (wpAny_setField ho hd (by show 1 < 2; decide) ?_)
  refine wpAny_pure ⟨_, rfl, wpAny_pure (hQ _ ⟨_, Heap.get?_update_self _ ho (Obj.isFreed_of_fields (Obj.data_mapFields hd _)), (Obj.cls_mapFields o _).trans hcl, ?_⟩ (Heap.SameBut.update s.heap it _))⟩
  rw [Obj.data_mapFields hd]
  rfl
theorem rs_end {it : Addr} {z : Str} {t : Tok} {Q : Option Value → Shared → Prop} (hh : A.handled = none) (hit : IsRs s.heap it z t (-1))
    (hQ : ∀ (h' : Heap), Heap.ExtBut it s.heap h' → Q none { s with heap := h' }) : wpAny (model prog w) A (pyNext (.ref it)) Q E s := by
  obtain ⟨o, ho, hcl, hd⟩ := id hit
  refine wpAny_bind (wpAny_attempt (wpAny_callSpecial?_slot (IsRs.typeIs hit) RT.slot_rt_next (wpAny_call_entry RT.slot_rt_next (IsRs.typeIs hit) RT.entry_rt_next ?_ (RT.args_rt_next (.ref it)))))
  refine wpAny_bind (wpAny_of_eq rfl ?_)
  refine wpAny_bind (wpAny_field ho hd rfl ?_)
  refine wpAny_bind (wpAny_field ho hd rfl ?_)
  show wpAny (model prog w) A.in1 (if (-1 : Int) < 0 then _ else _) _ _ _
  rw [if_pos (by decide)]
  refine wpAny_bind (wpAny_rule ?_)
  refine wpAny_bind ?_
  refine wpAny_bind (wpAny_setField ho hd (by show 1 < 2; decide) ?_)
  have ho2 := Heap.get?_update_self (Obj.mapFields fun x => x.setIfInBounds 1 (rawInt (-1))) ho (Obj.isFreed_of_fields (Obj.data_mapFields hd fun x => x.setIfInBounds 1 (rawInt (-1))))
  refine wpAny_setField ho2 (Obj.data_mapFields hd fun x => x.setIfInBounds 1 (rawInt (-1))) (by show 0 < 2; decide) ?_
  refine wpAny_bind ?_
  refine wpAny_bind ?_
  refine wpAny_bind (wpAny_newObj_type ?_ ?_)
  · refine wpAny_bind (wpAny_of_eq rfl ?_)
    refine wpAny_newObj_type ?_ ?_
    · refine wpAny_bind (wpAny_handled ?_)
      rw [show A.in1.handled = none from hh]
      refine wpAny_bind (wpAny_pure (wpAny_throw ?_))
      dsimp only
      refine wpAny_bind (wpAny_isInstance (T := "StopIteration") ?ti isSubtype_stop ?_)
      case ti => exact ⟨_, Heap.get?_push_size _ rfl, rfl⟩
      rw [if_pos rfl]
      refine wpAny_pure (hQ _ ?_)
      intro b o hb e
      refine Heap.get?_push_of_some _ (Heap.get?_push_of_some _ ?_)
      exact ((Heap.SameBut.update _ it _).2 b hb).trans (((Heap.SameBut.update s.heap it _).2 b hb).trans e)
    · exact sizeOk_excFields _ _ _ _ _ _ _ _
  · show sizeOk _
    unfold sizeOk
    show 0 ≤ _
    exact Nat.zero_le _
def ItRS (z : Str) : It := { go := fun i _ => i < z.cps.size, yld := fun i H v H' => H' = H ∧ ∃ c, z.cps[z.cps.size - 1 - i]? = some c ∧ v = .str ⟨#[c]⟩, stop := fun i _ => z.cps.size ≤ i }
theorem turn_rs {P : Program} {w : World} {K : PySem.W.Frag} {tg : Expr} (it : Addr) (z : Str) (t : Tok) (hz : z.length ≤ sizeLine) : Turn P w K tg (ItRS z) [it] it fun i h => i ≤ z.cps.size ∧ IsRs h it z t ((z.cps.size : Int) - 1 - i) where
  mem := List.mem_singleton.mpr rfl
  obj := fun i h st b hb => by
    obtain rfl := List.mem_singleton.mp hb
    obtain ⟨o, e, c, d⟩ := st.2
    exact ⟨o, e, fun v y => by rw [d] at y; cases y⟩
  keep := fun i h h' st k => by
    obtain ⟨hi, o, e, c⟩ := st
    exact ⟨hi, o, k it (List.mem_singleton.mpr rfl) o e, c⟩
  item := fun X hP hw hK hc i pins s σ H E I hf st hg => by
    subst hP hw hK
    obtain ⟨f0, f1, f2, f3, f4, f5⟩ := hf it (List.mem_singleton.mpr rfl)
    obtain ⟨hi, hit⟩ := st
    have hg' : i < z.cps.size := hg
    obtain ⟨c, ec⟩ : ∃ c, z.cps[z.cps.size - 1 - i]? = some c := ⟨z.cps[z.cps.size - 1 - i]'(by omega), Array.getElem?_eq_getElem (by omega)⟩
    have e1 : (z.cps.size : Int) - 1 - i = ((z.cps.size - 1 - i : Nat) : Int) := by omega
    rw [e1] at hit
    refine rs_item hit ec hz fun h' st' sb => ?_
    have I1 := Inv.turned (h' := h') (t' := s.toks + 1 + 1) I (fun b o hb e => (sb.2 b hb).trans e) f0 f1 f3 f4 f5
    have e2 : ((z.cps.size - 1 - i : Nat) : Int) - 1 = (z.cps.size : Int) - 1 - ((i + 1 : Nat) : Int) := by omega
    rw [e2] at st'
    obtain ⟨o, e, cc, dd⟩ := id st'
    refine ⟨_, rfl, go_of e cc dd (by decide) ⟨.str ⟨#[c]⟩, H, I1, ⟨_, rfl⟩, ⟨rfl, c, ec, rfl⟩, ⟨by omega, st'⟩, fun b hb => ?_⟩⟩
    obtain rfl := List.mem_singleton.mp hb
    exact f0
  done := fun X hP hw hK hc i pins s σ H E I hf st hg => by
    subst hP hw hK
    obtain ⟨f0, f1, f2, f3, f4, f5⟩ := hf it (List.mem_singleton.mpr rfl)
    obtain ⟨hi, hit⟩ := st
    have hge : z.cps.size ≤ i := hg
    have e1 : (z.cps.size : Int) - 1 - i = -1 := by omega
    rw [e1] at hit
    exact rs_end (I.ok.hd hc) hit fun h' eb => ⟨rfl, Inv.turned I (fun b o hb e => eb b o hb e) f0 f1 f3 f4 f5⟩
  self := fun A i s Q E st h => by
    have hit := st.2
    exact wpAny_pyIter_slot (IsRs.typeIs hit) RT.slot_rt_iter (wpAny_call_entry RT.slot_rt_iter (IsRs.typeIs hit) RT.entry_rt_iter (wpAny_pure ⟨_, rfl, "reversed", _, IsRs.typeIs hit, RT.slot_rt_next.lookup, h⟩) (RT.args_rt_iter (.ref it)))
end
def iRevS (te : TE) : TI := fun σ H R => te σ H fun v H1 => ∃ z, v = .str z ∧ z.length ≤ sizeLine ∧ R (ItRS z) H1
theorem pi_revS {X : Cx} {tg e : Expr} {te : TE} {p pos : Pos} (hg : Gl X "reversed") (hm : X.mg "reversed" = none) (he : PE X e te) (hs : starEach [e] X.env = (false, eval e X.env) :: starEach [] X.env := by rfl) :
    PI X tg (.Call (.Name "reversed" p) [e] [] pos) (iRevS te) := by
  refine ⟨fun pins s σ H R I h => ?_⟩
  refine Call_ (ld_blt I hg hm boot_reversed (callWith_type1 (args_cons (thn (he.run pins s σ H _ I h) fun u s1 ⟨v, H1, I1, r1, q1⟩ => args_nil ?_) hs) hs rfl) (by decide) (by decide)) rfl
  obtain ⟨z, ev, hz, q⟩ := q1
  subst ev
  obtain ⟨t, rfl⟩ := r1
  refine rs_call hz ?_
  have hp : (s1.heap.push (rsObj z t ((z.length : Int) - 1))).get? s1.heap.objs.size = some (rsObj z t ((z.length : Int) - 1)) := Heap.get?_push_size s1.heap rfl
  have hit : IsRs (s1.heap.push (rsObj z t ((z.length : Int) - 1))) s1.heap.objs.size z t ((z.cps.size : Int) - 1 - ((0 : Nat) : Int)) := ⟨_, hp, rfl, by rw [show (z.cps.size : Int) - 1 - ((0 : Nat) : Int) = (z.length : Int) - 1 from by show _ = (z.cps.size : Int) - 1; omega]; rfl⟩
  refine wpAny_pyIter_slot (IsRs.typeIs hit) RT.slot_rt_iter (wpAny_call_entry RT.slot_rt_iter (IsRs.typeIs hit) RT.entry_rt_iter (wpAny_pure ⟨_, rfl, "reversed", _, IsRs.typeIs hit, RT.slot_rt_next.lookup, ?_⟩) (RT.args_rt_iter _))
  exact pi_one I1 (rsObj z t ((z.length : Int) - 1)) (turn_rs s1.heap.objs.size z t hz) ⟨Nat.zero_le _, hit⟩ q
theorem walk_revS {z : Str} : Walk (ItRS z) z.cps.size (fun _ => True) fun i H v H' => H' = H ∧ ∃ c, z.cps[z.cps.size - 1 - i]? = some c ∧ v = .str ⟨#[c]⟩ :=
  { goes := fun _ _ hi _ => hi, stops := fun _ _ => Nat.le_refl _, yields := fun _ _ _ _ _ _ y => y }
end L2

set_option Elab.async false
set_option linter.all false
set_option maxRecDepth 100000
set_option maxHeartbeats 8000000
namespace Fp
open PySem PySem.Spec PyProof.Rows L2
def optW : Option (List Nat) → V
  | none => .non
  | some cs => .str (W cs)
def bad (c : Int) (l : Tb) (cs : List Nat) : Bool := decide (preL l cs % c ≠ 1)
section
variable {P : Program} {w : World} {K : PySem.W.Frag} {mg : Str → Option Value} {base : Heap}
theorem upto_take {n : Nat} {l : Tb} {i : Nat} {p : Str × Int} (e : l[i]? = some p) : upto n (l.take (i + 1)) = if p.1.length ≤ n then upto n (l.take i) ++ [p] else upto n (l.take i) := by
  unfold upto
  rw [List.take_add_one, e, List.filter_append]
  split
  · rename_i h
    rw [show (some p).toList = [p] from rfl, List.filter_cons_of_pos (by simpa using h)]
    rfl
  · rename_i h
    rw [show (some p).toList = [p] from rfl, List.filter_cons_of_neg (by simpa using h), List.filter_nil, List.append_nil]
theorem paired_last {α β : Type} {R : α → β → Prop} {x : α} : ∀ {xs : List α} {ys : List β}, Paired R (xs ++ [x]) ys → ∃ ys' y, ys = ys' ++ [y] ∧ Paired R xs ys' ∧ R x y
  | [], ys, h => by
    cases h with
    | cons h1 h2 => cases h2 with
      | nil => exact ⟨[], _, rfl, .nil, h1⟩
  | a :: r, ys, h => by
    cases h with
    | cons h1 h2 =>
      obtain ⟨ys', y, e, p, q⟩ := paired_last h2
      exact ⟨_ :: ys', y, by rw [e]; rfl, .cons h1 p, q⟩
theorem paired_app {α β : Type} {R : α → β → Prop} : ∀ {a c : List α} {b d : List β}, Paired R a b → Paired R c d → Paired R (a ++ c) (b ++ d)
  | _, _, _, _, .nil, h => h
  | _, _, _, _, .cons h1 h2, h => .cons h1 (paired_app h2 h)
theorem paired_len {α β : Type} {R : α → β → Prop} : ∀ {a : List α} {b : List β}, Paired R a b → a.length = b.length
  | _, _, .nil => rfl
  | _, _, .cons _ h => congrArg (· + 1) (paired_len h)
theorem ljust_W (u : List Nat) (n c0 : Nat) : ljustC (W u) (n : Int) c0 = W (u ++ List.replicate (n - u.length) c0) := by
  unfold ljustC
  rw [W_len]
  split
  · rename_i h
    rw [show n - u.length = 0 by omega]
    show W u = W (u ++ [])
    rw [List.append_nil]
  · refine PySem.W.str_of_cps ?_
    show (#[] ++ (W u).cps ++ Array.replicate ((n : Int).toNat - u.length) c0).toList = _
    rw [cps_W, show (n : Int).toNat = n by omega]
    simp [cps_W]
theorem find_congr {α : Type} {f g : α → Bool} : ∀ {l : List α}, (∀ x ∈ l, f x = g x) → l.find? f = l.find? g
  | [], _ => rfl
  | a :: r, h => by
    rw [List.find?_cons, List.find?_cons, h a List.mem_cons_self, find_congr fun x hx => h x (List.mem_cons_of_mem _ hx)]
theorem find_none {α : Type} {f : α → Bool} {l : List α} (h : ∀ x ∈ l, f x = false) : l.find? f = none := List.find?_eq_none.mpr fun x hx => by rw [h x hx]; decide
structure Pile (H3 : Hp) (c : Int) (Wt : Addr) (Tt : Tb) (al : List Nat) (n : Nat) (S : List (List Nat)) (qs : List Addr) (H' : Hp) : Prop where
  w : H' Wt = some (.lst (qs.map V.ref))
  p : Paired (fun p (u : List Nat) => H' p = some (.tup [.str (W u), .int (preL Tt u)])) qs S
  s : Same H3 H'
  ok : ∀ u ∈ S, u.length ≤ n ∧ ∀ b ∈ u, b ∈ al
  wt : weigh n S ≤ 4 ^ 12
  f : (allL al n).find? (bad c Tt) = (pile al n S).find? (bad c Tt)
def spUnmet (K : PySem.W.Frag) : Sp := fun vs H Q _ => ∃ (a : Addr) (c : Int) (z : Str) (m k L n : Nat) (l : Tb), vs = [.str z, .ref a, .int n] ∧ Bg K H a c m k l ∧ isCk c ∧ isAl z ∧ OverT z.cps.toList L l ∧ L ≤ 1000 ∧ n ≤ 12 ∧ k ≤ 1000 ∧
  ∀ H', Same H H' → Q (optW ((allL z.cps.toList n).find? (bad c l))) H'
abbrev nUnmet : List Str := ["alphabet", "bag", "letters", "table", "goes_on", "waiting", "start", "told", "longer", "word", "number", "size", "letter", "later"]
theorem sc_unmet : FnScope nUnmet ["alphabet", "bag", "letters"] (defScope s_unmet) := ⟨rfl, rfl, rfl, by decide +kernel, rfl, by decide +kernel, by decide +kernel⟩
theorem ok_unmet (T : Top K mg) : Ok P w K mg base 3 "unmet" ["alphabet", "bag", "letters"] (spUnmet K) := by
  obtain ⟨fd, F⟩ := fn_unmet T
  obtain ⟨tk, hL⟩ := i_MOST_LETTERS_starts T
  refine ⟨⟨fd, ?_, F.bindsN fun _ _ _ _ _ _ us hl => match us, hl with | [_, _, _], _ => rfl⟩, g_unmet T, F.kp⟩
  refine F.ok sc_unmet (fun vs H Q E h => ?_) (fun cdv A outer s H vs Q E hr h => ?_)
  · obtain ⟨a, c, z, m, k, L, n, l, rfl, _⟩ := h
    rfl
  · obtain ⟨a, c, z, m, k, L, n, l, rfl, hb, hck, hz, ho, hL1, hn, hk, q⟩ := h
    have nd := sc_unmet.nd
    have hu := hu_of hr
    have hs : sizeLine = 16777216 := sizeLine_eq
    obtain ⟨hc2, hc7⟩ := ck_range hck
    have hc0 : 0 < c := by omega
    obtain ⟨hz1, hz3⟩ := hz.len
    refine ⟨_, PSs.nox (pss_cons (ps_expr (pc (ok_ckov T) hr (pa_cons (pv 0) (pa_cons (pv 1) pa_nil))))
      (pss_cons (ps_if (pt_not (pt_val (pc (ok_is_from_to T) hr (pa_cons (pv 2) (pa_cons pe_int (pa_cons (pe_glob (v := .int 12) rfl hL ⟨_, rfl⟩) pa_nil)))))) (pss_one ps_never) pss_nil)
      (pss_cons (ps_set (i := 3) nd rfl (Or.inr rfl) (pe_dc (own := [("word", 9), ("number", 10)]) (g := gPair K 9 10) (tk := tVar 9) (tv := tVar 10) rfl nd (pi_tup (pe_fld (pv 1) rfl)) (blkOk_by (N := nUnmet) (sc := defScope s_unmet) (by decide +kernel))
        (fun _ _ _ _ _ => pg_tup rfl (pgs_cons (pg_name (i := 9) nd rfl (Or.inl rfl)) (pgs_cons (pg_name (i := 10) nd rfl (Or.inl rfl)) pgs_nil)))
        (fun _ _ _ _ _ => by exact pts_one (pt_cmpR op_le (pe_callB call_len_str (by rfl) (f_len T) PySem.boot_len (pa_cons (pv 9) pa_nil)) (pv 2) (nomark _))) (fun _ _ _ _ _ => pv 9) (fun _ _ _ _ _ => pv 10)))
      (pss_cons (ps_lock (ps_setDc2 (j := 4) (own := [("word", 9), ("size", 11)]) (vs1 := [11]) (g := gName 9) (g1 := gName 11) (tt := tYes) (tt1 := tYes) (tv := tC (.bl true)) rfl nd rfl rfl (sw_dict rfl rfl rfl (by decide +kernel)) (pi_keys (pv 3)) (blkOk_by (N := nUnmet) (sc := defScope s_unmet) (by decide +kernel)) (by decide)
        (fun _ _ _ _ _ => pg_name (i := 9) nd rfl (Or.inl rfl)) (fun _ _ _ _ _ => pts_nil)
        (fun _ _ _ _ _ => by exact pi_range1 (by rfl) (f_range T) (pa_cons (pe_callB call_len_str (by rfl) (f_len T) PySem.boot_len (pa_cons (pv 9) pa_nil)) pa_nil)) (fun _ _ _ _ _ => pg_name (i := 11) nd rfl (Or.inl rfl)) (fun _ _ _ _ _ => pts_nil)
        (fun _ _ _ _ _ => by exact pe_slice sl_str (pv 9) po_none (po_some (pv 11))) (fun _ _ _ _ _ => by exact pe_bl)))
      (pss_cons (ps_set (i := 5) nd rfl (Or.inl rfl) (pe_lst (pa_cons (pe_tup (pa_cons pe_str (pa_cons (pe_dget2 hu (pv 3) pe_str pe_int ⟨rfl, rfl, rfl, rfl⟩) pa_nil))) pa_nil)))
      (pss_cons (ps_while PassesOwn.never (pt_truth (pv 5) (fun _ => rfl))
        (pss_cons (ps_asg (pe_bm0 PySem.F.plainAttrs_list PySem.F.slot_list_pop PySem.F.type_list_pop mt_pop (pv 5)) (pg_tup rfl (pgs_cons (pg_name (i := 6) nd rfl (Or.inr rfl)) (pgs_cons (pg_name (i := 7) nd rfl (Or.inr rfl)) pgs_nil))))
        (pss_one (ps_if (pt_cmp (pc_din hu (pv 6) (pv 4)) rfl)
          (pss_cons (ps_setLc (i := 8) (own := [("letter", 12)]) (g := gName 12) (tt := tYes) (te := tOp (fun x y H Q => ∃ i j, x = .str i ∧ y = .str j ∧ i.length + j.length ≤ sizeLine ∧ Q (.str (i ++ j)) H) (tVar 6) (tVar 12)) (by rfl) nd rfl rfl (sw_true rfl rfl rfl (by decide +kernel)) (pi_revS (by rfl) (f_reversed T) (pv 0)) (blkOk_by (N := nUnmet) (sc := defScope s_unmet) (by decide +kernel))
            (fun _ _ _ _ _ => pg_name (i := 12) nd rfl (Or.inl rfl)) (fun _ _ _ _ _ => pts_nil) (fun _ _ _ _ _ => by exact pe_op op_add_str (pv 6) (pv 12)))
          (pss_one (ps_expr (pe_bm PySem.F.plainAttrs_list PySem.F.slot_list_extend PySem.F.type_list_extend mt_extend (pv 5) (pa_cons (pe_lc (own := [("later", 13)]) (g := gName 13) (tt := tYes) rfl nd (pi_list (pv 8)) (blkOk_by (N := nUnmet) (sc := defScope s_unmet) (by decide +kernel)) (fun _ _ _ _ _ => pg_name (i := 13) nd rfl (Or.inl rfl)) (fun _ _ _ _ _ => pts_nil)
            (fun _ _ _ _ _ => by exact pe_tup (pa_cons (pv 13) (pa_cons (pe_op op_add (pv 7) (pe_dget2 hu (pv 3) (pv 13) pe_int ⟨rfl, rfl, rfl, rfl⟩)) pa_nil)))) pa_nil)))))
          (pss_one (ps_if (pt_cmpR op_ne (pe_op op_mod (pv 7) (pe_fld (pv 1) rfl)) pe_int (nomark _)) (pss_one (ps_ret (pe_bm PySem.F.plainAttrs_str PySem.F.slot_str_ljust PySem.F.type_str_ljust mt_ljust2 (pv 6) (pa_cons (pv 2) (pa_cons (pe_item_str (pv 0) pe_int (fun _ _ => rfl)) pa_nil))))) pss_nil))))))
      (pss_one (ps_ret pe_non)))))))), ?_⟩
    refine ⟨_, rfl, _, rfl, a, c, canon l, z, rfl, hb.1, hz, over_of (over_canon hb.2 ho) hL1, Nat.le_trans (vt_canon hb.2).ln (by omega), fun H1 s1 => ?_⟩
    replace hb := hb.same s1
    obtain ⟨dx, t, ea, wt⟩ := id hb.1
    have vc := vt_canon hb.2
    have oc := over_canon hb.2 ho
    obtain ⟨ps, o, e1, e2, e3⟩ := WordsAt.get wt
    have hpl : ∀ cs, preL (canon l) cs = preL l cs := fun cs => by
      unfold preL
      congr 1
      exact List.map_congr_left fun i _ => canon_num hb.2.nd _
    generalize canon l = cl at e2 e3 vc oc hpl
    refine ⟨_, rfl, (n : Int), 0, 12, rfl, ?_⟩
    rw [show (decide ((0 : Int) ≤ (n : Int)) && decide ((n : Int) ≤ 12)) = true by simp; omega]
    refine ⟨true, rfl, iteF ?_⟩
    refine ⟨_, rfl, a, _, dx, _, _, rfl, ea, cls_Bag T, na_Bag_words T, flds_words _ _, ?_⟩
    refine ⟨t, rfl, ⟨_, .inl (.inr ⟨o, e1⟩)⟩, fun D hD => ?_⟩
    refine dc_it (walk_tup (xs := ps.map V.ref)) (fun i H' => H' D = some (.dK (kv (upto n (cl.take i)))) ∧ Same H1 H') ⟨upd_same, same_upd hD⟩ (fun i H' _ hP => .inl (.inr ⟨o, hP.2 _ _ e1⟩)) ?_ ?_
    · rintro i x H2 H3 hi ⟨p1, p2⟩ ⟨rfl, e⟩
      rw [List.length_map, e2] at hi
      have ep : cl[i]? = some cl[i] := List.getElem?_eq_getElem hi
      generalize cl[i] = p at ep
      obtain ⟨b, h1, h2⟩ := e3 i p ep
      rw [List.getElem?_map, h1] at e
      have e5 : V.ref b = x := Option.some.inj e
      subst e5
      have hp : p ∈ cl := List.mem_of_getElem? ep
      have hw := oc.ln p hp
      have hil : i < 1000000 := Nat.lt_of_lt_of_le hi (Nat.le_trans vc.ln (by omega))
      refine ⟨b, _, rfl, .inl (.inl (p2 _ _ h2)), rfl, ?_⟩
      refine ⟨_, _, rfl, _, _, rfl, rfl, rfl, ?_⟩
      refine ⟨_, rfl, p.1, rfl, by omega, _, rfl, _, _, rfl, rfl, _, rfl, ite2 (fun hh => ?_) (fun hh => ?_)⟩
      · have hh' : p.1.length ≤ n := by have := of_decide_eq_true hh; omega
        have hno : has (upto n (cl.take i)) p.1 = false := by
          rw [← Bool.not_eq_true, has_iff]
          intro hm'
          obtain ⟨q0, h3, h4⟩ := List.mem_map.mp hm'
          have h6 : has (cl.take i) p.1 = true := has_iff.mpr (List.mem_map.mpr ⟨q0, (List.mem_filter.mp h3).1, h4⟩)
          rw [nd_prefix_has vc.nd ep] at h6
          cases h6
        refine ⟨_, rfl, _, rfl, kv (upto n (cl.take i)), Sum.inr p.1, rfl, p1, ?_, ?_, fun y u zz => ?_⟩
        · rw [kv_len]
          have := List.length_filter_le (fun p : Str × Int => decide (p.1.length ≤ n)) (cl.take i)
          rw [List.length_take] at this
          unfold upto
          omega
        · rw [upd_same, putK_kv, upto_take ep, if_pos hh']
          unfold putT
          rw [hno]
          rfl
        · rw [upd_ne (ne_of_none zz hD)]
          exact p2 _ _ zz
      · have hh' : ¬ p.1.length ≤ n := fun z => hh (decide_eq_true (by omega))
        refine ⟨?_, p2⟩
        rw [upto_take ep, if_neg hh']
        exact p1
    rintro H2 ⟨p1, s2⟩
    rw [List.length_map, e2, List.take_length] at p1
    have hTm : ∀ p ∈ upto n cl, p ∈ cl ∧ p.1.length ≤ n := fun p hp => ⟨(List.mem_filter.mp hp).1, of_decide_eq_true (List.mem_filter.mp hp).2⟩
    have hTlen : (upto n cl).length ≤ 1000 := Nat.le_trans (List.length_filter_le _ _) (Nat.le_trans vc.ln hk)
    have hTo : ∀ p ∈ upto n cl, ∀ b ∈ p.1.cps.toList, b ∈ z.cps.toList := fun p hp => oc.ov p (hTm p hp).1
    have hTn : ∀ p ∈ upto n cl, p.1.length ≤ n := fun p hp => (hTm p hp).2
    have hpT : ∀ cs : List Nat, cs.length ≤ n → preL (upto n cl) cs = preL l cs := fun cs h => (preL_upto cl cs h).trans (hpl cs)
    clear hTm
    generalize upto n cl = Tt at p1 hTlen hTo hTn hpT
    clear hpl e1 e2 e3 wt vc oc
    refine ⟨D, .dK (kv Tt), p1, trivial, fun od => ?_⟩
    refine ⟨_, rfl, D, od, rfl, .inl ⟨kv Tt, upd_same, fun G hG => ?_⟩⟩
    have nGD : G ≠ D := fun e => by
      rw [e, upd_same] at hG
      cases hG
    have hG0 : H2 G = none := by
      rw [upd_ne nGD] at hG
      exact hG
    refine in_it walk_keys (fun i H' => ∃ Gs : List Str, H' G = some (.dK (gk Gs)) ∧ (∀ y, y ∈ Gs ↔ ∃ p ∈ Tt.take i, ∃ j : Nat, j < p.1.length ∧ y = W (p.1.cps.toList.take j)) ∧ Gs.length ≤ 12 * i ∧ But D H2 H' ∧ H' D = some (.frz od (.dK (kv Tt))))
      ⟨[], upd_same, fun y => ⟨fun h => (by cases h), fun ⟨p, hp, _⟩ => (by simp at hp)⟩, Nat.zero_le _, (fun b' o y n' => by
        rw [upd_ne (ne_of_none y hG0), upd_ne n']
        exact y), (by
        rw [upd_ne nGD.symm]
        exact upd_same)⟩ (fun i H' _ hP => hP.choose_spec.2.2.2.2) ?_ ?_
    · rintro i x Ha Hb hi ⟨Gs, r1, r2, r3, r4, r5⟩ ⟨rfl, kk, vv, ee, rfl⟩
      obtain ⟨p, ep, rfl, rfl⟩ := kv_at ee
      have hp := List.mem_of_getElem? ep
      have hpn := hTn p hp
      rw [kv_len] at hi
      refine ⟨rfl, ?_⟩
      refine ⟨_, rfl, p.1, rfl, by omega, _, rfl, by omega, by omega, ?_⟩
      refine in_it walk_range (fun j H' => ∃ Gs : List Str, H' G = some (.dK (gk Gs)) ∧ (∀ y, y ∈ Gs ↔ (∃ p ∈ Tt.take i, ∃ j : Nat, j < p.1.length ∧ y = W (p.1.cps.toList.take j)) ∨ ∃ j' : Nat, j' < j ∧ y = W (p.1.cps.toList.take j')) ∧ Gs.length ≤ 12 * i + j ∧ But D H2 H' ∧ H' D = some (.frz od (.dK (kv Tt))))
        ⟨Gs, r1, fun y => ⟨fun h => .inl ((r2 y).mp h), fun h => h.elim (r2 y).mpr fun ⟨j', h', _⟩ => absurd h' (Nat.not_lt_zero _)⟩, by omega, r4, r5⟩ (fun _ _ _ _ => trivial) ?_ ?_
      · rintro j y Hc Hd hj ⟨Gs', q1, q2, q3, q4, q5⟩ ⟨rfl, rfl⟩
        have hj' : j < p.1.length := by simpa using hj
        refine ⟨rfl, ?_⟩
        refine ⟨_, rfl, _, rfl, _, rfl, p.1, rfl, by omega, ?_⟩
        rw [Int.zero_add, cut_W (by omega)]
        refine ⟨gk Gs', Sum.inr (W (p.1.cps.toList.take j)), rfl, q1, by rw [gk_len]; omega, addG Gs' (W (p.1.cps.toList.take j)), by rw [upd_same, putK_gk], fun y => ?_, by have := addG_len Gs' (W (p.1.cps.toList.take j)); omega, fun b' o y n' => ?_, ?_⟩
        · rw [addG_mem, q2]
          constructor
          · rintro ((h | ⟨j', h1, h2⟩) | h)
            · exact .inl h
            · exact .inr ⟨j', by omega, h2⟩
            · exact .inr ⟨j, by omega, h⟩
          · rintro (h | ⟨j', h1, h2⟩)
            · exact .inl (.inl h)
            · by_cases e : j' = j
              · exact .inr (e ▸ h2)
              · exact .inl (.inr ⟨j', by omega, h2⟩)
        · rw [upd_ne (ne_of_none y hG0)]
          exact q4 b' o y n'
        · rw [upd_ne nGD.symm]
          exact q5
      · rintro Hc ⟨Gs', q1, q2, q3, q4, q5⟩
        have ej : ((p.1.length : Int)).toNat = p.1.length := by omega
        rw [ej] at q2 q3
        refine ⟨Gs', q1, fun y => ?_, by omega, q4, q5⟩
        rw [q2, List.take_add_one, ep]
        constructor
        · rintro (⟨p', h1, h2⟩ | ⟨j', h1, h2⟩)
          · exact ⟨p', List.mem_append_left _ h1, h2⟩
          · exact ⟨p, List.mem_append_right _ (List.mem_singleton.mpr rfl), j', h1, h2⟩
        · rintro ⟨p', h1, j', h2, h3⟩
          rcases List.mem_append.mp h1 with h | h
          · exact .inl ⟨p', h, j', h2, h3⟩
          · obtain rfl : p' = p := List.mem_singleton.mp h
            exact .inr ⟨j', h2, h3⟩
    rintro Gc ⟨Gs, r1, r2, _, r4, r5⟩
    rw [kv_len, List.take_length] at r2
    have s3 := unlockT p1 r4
    have hG3 : (upd Gc D (.dK (kv Tt))) G = some (.dK (gk Gs)) := by rw [upd_ne nGD]; exact r1
    have hD3 : (upd Gc D (.dK (kv Tt))) D = some (.dK (kv Tt)) := upd_same
    refine ⟨r5, ?_⟩
    generalize upd Gc D (.dK (kv Tt)) = H3 at s3 hG3 hD3 ⊢
    have s13 : Same H1 H3 := s2.trans s3
    have hgo : ∀ w : List Nat, W w ∈ Gs ↔ goesOn Tt w := fun w => by
      rw [r2]
      constructor
      · rintro ⟨p, hp, j, hj, e⟩
        have e' : w = p.1.cps.toList.take j := W_inj e
        have hl : p.1.cps.toList.length = p.1.length := len_list _
        refine ⟨p, hp, e' ▸ List.take_prefix _ _, ?_⟩
        rw [e', List.length_take]
        omega
      · rintro ⟨p, hp, h1, h2⟩
        refine ⟨p, hp, w.length, h2, ?_⟩
        rw [← List.prefix_iff_eq_take.mp h1]
    clear r1 r2 r4 r5 p1 hG hG0 nGD hD s2 s3
    -- the pile
    refine ⟨_, rfl, D, rfl, .inl ⟨_, .inl hD3⟩, ?_⟩
    refine ⟨_, DGet.k (k := Sum.inr "") hD3, ?_⟩
    rw [num_eq]
    refine ⟨by show 2 ≤ sizeLine; omega, fun p0 hp0 => ?_⟩
    have e0 : (upd H3 p0 (.tup [.str "", .int (num Tt "")])) p0 = some (.tup [.str "", .int (num Tt "")]) := upd_same
    refine ⟨by show 1 ≤ sizeLine; omega, fun Wt hW => ?_⟩
    have hW3 : H3 Wt = none := by
      have np : Wt ≠ p0 := ne_of_none e0 hW |>.symm
      rw [upd_ne np] at hW
      exact hW
    have P0 : Pile H3 c Wt Tt z.cps.toList n [[]] [p0] (upd (upd H3 p0 (.tup [.str "", .int (num Tt "")])) Wt (.lst [.ref p0])) := {
      w := upd_same
      p := .cons (by rw [upd_ne (ne_of_none e0 hW), preL_nil]; exact e0) .nil
      s := (same_upd hp0).trans (same_upd hW)
      ok := fun u hu => by
        obtain rfl := List.mem_singleton.mp hu
        exact ⟨Nat.zero_le _, fun b hb => (by cases hb)⟩
      wt := by
        rw [weigh_one]
        exact Nat.pow_le_pow_right (by decide) (by show n - 0 ≤ 12; omega)
      f := by
        have : pile z.cps.toList n [[]] = allL z.cps.toList n := by
          show ext z.cps.toList [] (n - 0) ++ [] = _
          rw [List.append_nil]
          unfold ext
          show (allL z.cps.toList n).map (fun x => [] ++ x) = _
          simp
        rw [this] }
    generalize upd (upd H3 p0 (.tup [.str "", .int (num Tt "")])) Wt (.lst [.ref p0]) = H4 at P0
    clear hp0 e0 hW
    refine ⟨fun m σ H' => ∃ (x6 x7 x8 x9 x10 x11 x12 x13 : Option V) (S : List (List Nat)) (qs : List Addr), σ = [some (.str z), some (.ref a), some (.int (n : Int)), some (.ref D), some (.ref G), some (.ref Wt), x6, x7, x8, x9, x10, x11, x12, x13] ∧ Pile H3 c Wt Tt z.cps.toList n S qs H' ∧ weigh n S = m, ⟨_, _, _, _, _, _, _, _, _, _, _, rfl, P0, rfl⟩, ?_⟩
    rintro m σ H5 ⟨x6, x7, x8, x9, x10, x11, x12, x13, S, qs, rfl, I, rfl⟩
    have sAll : Same H1 H5 := s13.trans I.s
    refine ⟨_, rfl, !(qs.map V.ref).isEmpty, .inl ⟨_, SqL.of I.w, rfl⟩, ?_⟩
    rcases List.eq_nil_or_concat qs with rfl | ⟨qs', p, hq⟩
    · have eS : S = [] := by
        have := I.p
        cases this
        rfl
      subst eS
      refine iteF ?_
      have e : (allL z.cps.toList n).find? (bad c l) = none := by
        rw [find_congr (g := bad c Tt) fun cs hcs => ?_, I.f]
        · rfl
        · unfold bad
          rw [hpT cs (Nat.le_of_eq ((allL_mem _ _ _).mp hcs).2)]
      rw [e] at q
      exact q H5 (s1.trans sAll)
    · rw [List.concat_eq_append] at hq
      subst hq
      rw [show (!((qs' ++ [p]).map V.ref).isEmpty) = true by simp]
      refine iteT ?_
      refine ⟨fun σ' H' => ∃ (x6 x7 x8 x9 x10 x11 x12 x13 : Option V) (S' : List (List Nat)) (qs : List Addr), σ' = [some (.str z), some (.ref a), some (.int (n : Int)), some (.ref D), some (.ref G), some (.ref Wt), x6, x7, x8, x9, x10, x11, x12, x13] ∧ Pile H3 c Wt Tt z.cps.toList n S' qs H' ∧ weigh n S' < weigh n S, fun σ' H' ⟨y6, y7, y8, y9, y10, y11, y12, y13, S', qs, e1, e2, e3⟩ => ⟨_, e3, y6, y7, y8, y9, y10, y11, y12, y13, S', qs, e1, e2, rfl⟩, ?_⟩
      obtain ⟨S', u, rfl, hP, hpu⟩ := paired_last I.p
      have hu := I.ok u (List.mem_append_right _ (List.mem_singleton.mpr rfl))
      refine ⟨_, rfl, .inl ⟨rfl, _, SqL.of I.w⟩, Wt, _, .ref p, rfl, rfl, I.w, by simp, ?_⟩
      rw [show ((qs' ++ [p]).map V.ref).dropLast = qs'.map V.ref by simp]
      have nWp : ∀ {y : Addr} {x : List V}, H5 y = some (.tup x) → y ≠ Wt := fun e n => by
        rw [n, I.w] at e
        cases e
      have s6 : Same H3 (upd H5 Wt (.lst (qs'.map V.ref))) := fun b o e => by
        rw [upd_ne (ne_of_none e hW3)]
        exact I.s b o e
      have hp6 : (upd H5 Wt (.lst (qs'.map V.ref))) p = some (.tup [.str (W u), .int (preL Tt u)]) := by
        rw [upd_ne (nWp hpu)]
        exact hpu
      have hP6 : Paired (fun p (u : List Nat) => (upd H5 Wt (.lst (qs'.map V.ref))) p = some (.tup [.str (W u), .int (preL Tt u)])) qs' S' := Paired.mapP hP fun y q e => by
        rw [upd_ne (nWp e)]
        exact e
      have w6 : (upd H5 Wt (.lst (qs'.map V.ref))) Wt = some (.lst (qs'.map V.ref)) := upd_same
      have hok : ∀ v ∈ S', v.length ≤ n ∧ ∀ b ∈ v, b ∈ z.cps.toList := fun v hv => I.ok v (List.mem_append_left _ hv)
      have hwt := I.wt
      have hf := I.f
      rw [pile_snoc] at hf
      generalize upd H5 Wt (.lst (qs'.map V.ref)) = H6 at s6 hp6 hP6 w6 ⊢
      clear I hP hpu nWp sAll
      refine ⟨p, _, rfl, .inl (.inl hp6), rfl, ?_⟩
      refine ⟨_, _, rfl, _, _, rfl, rfl, ?_⟩
      refine ⟨_, rfl, _, rfl, G, _, rfl, .inl ⟨gk Gs, Sum.inr (W u), .inl (s6 _ _ hG3), rfl, rfl⟩, ?_⟩
      refine ⟨_, rfl, ?_⟩
      rw [val_some (show (gk Gs).map (·.1) = Gs.map Sum.inr by unfold gk; rw [List.map_map]; rfl)]
      by_cases hm : W u ∈ Gs
      · rw [decide_eq_true hm]
        refine iteT ?_
        have hun : u.length < n := by
          obtain ⟨q0, h1, h2, h3⟩ := (hgo u).mp hm
          have := hTn q0 h1
          omega
        refine ⟨_, rfl, z, rfl, by omega, fun Lg hLg => ?_⟩
        refine lc_it walk_revS (fun i H' => H' Lg = some (.lst (((z.cps.toList.reverse.take i).map fun b => u ++ [b]).map fun cs => V.str (W cs))) ∧ Same H6 H') ⟨upd_same, same_upd hLg⟩ (fun _ _ _ _ => trivial) ?_ ?_
        · rintro i y Ha Hb hi ⟨p1, p2⟩ ⟨rfl, ch, ech, rfl⟩
          have hi3 : i < z.length := hi
          have ech' : z.cps.toList.reverse[i]? = some ch := by
            rw [List.getElem?_reverse (by rw [Array.length_toList]; exact hi), Array.length_toList, Array.getElem?_toList]
            exact ech
          refine ⟨rfl, ?_⟩
          refine ⟨_, rfl, _, rfl, W u, ⟨#[ch]⟩, rfl, rfl, by rw [W_len]; show u.length + 1 ≤ sizeLine; omega, ?_⟩
          refine ⟨_, p1, by rw [List.length_map, List.length_map, List.length_take]; omega, ?_, fun b o e => ?_⟩
          · rw [upd_same, List.take_add_one, ech', List.map_append, List.map_append, sign_W, cps_W]
            rfl
          · rw [upd_ne (ne_of_none e hLg)]
            exact p2 b o e
        rintro H7 ⟨p1, s7⟩
        rw [show z.cps.size = z.cps.toList.reverse.length by rw [List.length_reverse, Array.length_toList], List.take_length] at p1
        have hal3 : z.cps.toList.reverse.length ≤ 3 := by rw [List.length_reverse, len_list]; exact hz3
        refine ⟨_, rfl, .inl ⟨rfl, _, SqL.of (s7 _ _ w6)⟩, ?_⟩
        refine ⟨_, rfl, Lg, rfl, ⟨_, SqL.of p1⟩, fun R hR => ?_⟩
        refine lc_it (walk_list (xs := ((z.cps.toList.reverse.map fun b => u ++ [b]).map fun cs => V.str (W cs)))) (fun i H' => ∃ rs : List Addr, H' R = some (.lst (rs.map V.ref)) ∧ Paired (fun p (v : List Nat) => H' p = some (.tup [.str (W v), .int (preL Tt v)])) rs ((z.cps.toList.reverse.map fun b => u ++ [b]).take i) ∧ Same H7 H')
          ⟨[], upd_same, .nil, same_upd hR⟩ (fun i H' _ hP => SqL.of (hP.choose_spec.2.2 _ _ p1)) ?_ ?_
        · rintro i y Ha Hb hi ⟨rs, q1, q2, q3⟩ ⟨rfl, ey⟩
          rw [List.getElem?_map] at ey
          obtain ⟨v, ev, rfl⟩ := Option.map_eq_some_iff.mp ey
          have ev0 := ev
          rw [List.getElem?_map] at ev
          obtain ⟨b, eb, rfl⟩ := Option.map_eq_some_iff.mp ev
          rw [List.length_map, List.length_map] at hi
          refine ⟨rfl, ?_⟩
          refine ⟨_, rfl, _, rfl, _, rfl, D, rfl, .inl ⟨_, .inl (q3 _ _ (s7 _ _ (s6 _ _ hD3)))⟩, ?_⟩
          refine ⟨_, rfl, ?_⟩
          refine ⟨_, DGet.k (k := Sum.inr (W (u ++ [b]))) (q3 _ _ (s7 _ _ (s6 _ _ hD3))), ?_⟩
          rw [num_eq]
          refine ⟨_, _, rfl, rfl, by show 2 ≤ sizeLine; omega, fun tp htp => ?_⟩
          suffices hx : ∀ x : Int, x = preL Tt (u ++ [b]) → ∃ acc, (upd Hb tp (.tup [.str (W (u ++ [b])), .int x])) R = some (.lst acc) ∧ acc.length < sizeLine ∧ ∃ rs : List Addr, (upd (upd Hb tp (.tup [.str (W (u ++ [b])), .int x])) R (.lst (acc ++ [V.ref tp]))) R = some (.lst (rs.map V.ref)) ∧
              Paired (fun p (v : List Nat) => (upd (upd Hb tp (.tup [.str (W (u ++ [b])), .int x])) R (.lst (acc ++ [V.ref tp]))) p = some (.tup [.str (W v), .int (preL Tt v)])) rs ((z.cps.toList.reverse.map fun b => u ++ [b]).take (i + 1)) ∧ Same H7 (upd (upd Hb tp (.tup [.str (W (u ++ [b])), .int x])) R (.lst (acc ++ [V.ref tp]))) from hx _ (preL_snoc _ _ _).symm
          rintro x rfl
          have st := same_upd (o := .tup [.str (W (u ++ [b])), .int (preL Tt (u ++ [b]))]) htp
          have eR := st _ _ q1
          have hlen := paired_len q2
          rw [List.length_take] at hlen
          refine ⟨_, eR, by rw [List.length_map]; omega, rs ++ [tp], by rw [upd_same, List.map_append]; rfl, ?_, fun y o zz => ?_⟩
          · rw [List.take_add_one, ev0]
            refine Paired.snoc (Paired.mapP q2 fun y q e => ?_) ?_
            · rw [upd_ne (ne_of (st _ _ e) eR (by intro y; cases y))]
              exact st _ _ e
            · rw [upd_ne (ne_of_none q1 htp).symm]
              exact upd_same
          · rw [upd_ne (ne_of_none zz hR)]
            exact st _ _ (q3 _ _ zz)
        · rintro H8 ⟨rs, q1, q2, q3⟩
          rw [List.length_map, List.take_length] at q2
          have hwg := weigh_grow n z.cps.toList u hun (by rw [len_list]; exact hz3) S'
          have hq8 : Paired (fun p (v : List Nat) => H8 p = some (.tup [.str (W v), .int (preL Tt v)])) (qs' ++ rs) (S' ++ z.cps.toList.reverse.map fun b => u ++ [b]) := paired_app (Paired.mapP hP6 fun y q e => q3 _ _ (s7 _ _ e)) q2
          have hln : (qs' ++ rs).length ≤ 16777216 := by
            rw [paired_len hq8]
            refine Nat.le_trans (weigh_len n _) (Nat.le_trans (Nat.le_of_lt (Nat.lt_of_lt_of_le hwg hwt)) (by decide))
          have w8 := q3 _ _ (s7 _ _ w6)
          refine ⟨Wt, R, _, _, rfl, rfl, w8, q1, by rw [List.length_map, List.length_map]; rw [List.length_append] at hln; omega, ?_⟩
          refine ⟨_, _, _, _, _, _, _, _, S' ++ z.cps.toList.reverse.map (fun b => u ++ [b]), qs' ++ rs, rfl, {
            w := by rw [upd_same, List.map_append]
            p := Paired.mapP hq8 fun y q e => by
              rw [upd_ne (fun z => by rw [z, w8] at e; cases e)]
              exact e
            s := fun b o e => by
              rw [upd_ne (ne_of_none e hW3)]
              exact q3 _ _ (s7 _ _ (s6 _ _ e))
            ok := fun v hv => by
              rcases List.mem_append.mp hv with hv | hv
              · exact hok v hv
              · obtain ⟨b, hb, rfl⟩ := List.mem_map.mp hv
                refine ⟨by rw [List.length_append]; show u.length + 1 ≤ n; omega, fun b' hb' => ?_⟩
                rcases List.mem_append.mp hb' with hb' | hb'
                · exact hu.2 b' hb'
                · rw [List.mem_singleton.mp hb']
                  exact List.mem_reverse.mp hb
            wt := Nat.le_trans (Nat.le_of_lt hwg) hwt
            f := by rw [hf, pile_grow _ _ _ _ hun] }, hwg⟩
      · rw [decide_eq_false hm]
        refine iteF ?_
        have hng : ¬ goesOn Tt u := fun h => hm ((hgo u).mpr h)
        have hstop : ∀ ds : List Nat, bad c Tt (u ++ ds) = decide (preL Tt u % c ≠ 1) := fun ds => by
          unfold bad
          rw [preL_stop hng]
        have ea6 := s6 _ _ (s13 _ _ ea)
        obtain ⟨a0, ra, eal⟩ : ∃ a r, z.cps.toList = a :: r := by
          cases e : z.cps.toList with
          | nil => exact absurd e hz.ne
          | cons a r => exact ⟨a, r, rfl⟩
        refine ⟨_, rfl, _, rfl, a, _, dx, _, _, rfl, ea6, cls_Bag T, na_Bag_clock T, flds_clock _ _, _, _, rfl, rfl, hc0, ?_⟩
        refine ⟨rfl, _, rfl, ite2 (fun hh => ?_) (fun hh => ?_)⟩
        · have hb : preL Tt u % c ≠ 1 := fun e => by
            have hh' : (!decide (V.int (preL Tt u % c) = V.int 1)) = true := hh
            rw [e] at hh'
            exact absurd hh' (by decide)
          obtain ⟨tl, eh⟩ := ext_head a0 ra u (n - u.length)
          refine ⟨_, rfl, rfl, ?_⟩
          refine ⟨_, rfl, _, rfl, z, 0, a0, rfl, rfl, by decide, by decide, by omega, ?_, ?_⟩
          · rw [← Array.getElem?_toList, eal]
            rfl
          refine ⟨W u, (n : Int), a0, rfl, rfl, ?_, ?_⟩
          · have : n ∈ List.range 13 := List.mem_range.mpr (by omega)
            revert this
            generalize n = n'
            revert n'
            decide
          rw [ljust_W]
          have e : (allL z.cps.toList n).find? (bad c l) = some (u ++ List.replicate (n - u.length) a0) := by
            rw [find_congr (g := bad c Tt) fun cs hcs => ?_, hf, eal, eh, List.cons_append, List.find?_cons, hstop, decide_eq_true hb]
            unfold bad
            rw [hpT cs (Nat.le_of_eq ((allL_mem _ _ _).mp hcs).2)]
          rw [e] at q
          exact q H6 (s1.trans (s13.trans s6))
        · have hb : preL Tt u % c = 1 := by
            by_cases e : preL Tt u % c = 1
            · exact e
            · exfalso
              apply hh
              show (!decide (V.int (preL Tt u % c) = V.int 1)) = true
              rw [decide_eq_false (fun y => e (by injection y))]
              rfl
          refine ⟨_, _, _, _, _, _, _, _, S', qs', rfl, {
            w := w6
            p := hP6
            s := s6
            ok := hok
            wt := Nat.le_trans (Nat.le_of_lt (weigh_drop n u S')) hwt
            f := by
              rw [hf, List.find?_append, find_none (l := ext z.cps.toList u (n - u.length)) fun x hx => ?_]
              · rfl
              · obtain ⟨ds, _, rfl⟩ := List.mem_map.mp hx
                rw [hstop, hb]
                decide }, weigh_drop n u S'⟩
end
end Fp

set_option Elab.async false
set_option linter.all false
set_option maxRecDepth 100000
set_option maxHeartbeats 4000000
/-! odd things asked whether they stand in a tuple of texts -/
namespace Fp
open PySem PySem.Spec PyProof.Rows PySem.SeqAt
open AutoSeq1 (wpAny_loadPart')
section
theorem str_odd (b : Str) (u : Tok) (l : Addr) (o : Obj) (hd : ∀ v, o.data ≠ .prim v) :
    Meets (Builtin.«str.__eq__» ⟨[.str b u, .ref l], []⟩) (fun _ R s => s.heap.get? l = some o ∧ R (.ok (.ret .notImplemented)) s) :=
  .of_wp fun prog w A R s h => by
    obtain ⟨hp, g, d, tk, os⟩ := s; obtain ⟨hl, h⟩ := h
    obtain ⟨cls, dd, data, sl⟩ := o
    cases data with
    | prim v => exact absurd rfl (hd v)
    | _ => wp_walk using wpAny_loadPart' hl, wpAny_load hl; exact ⟨_, rfl, h⟩
theorem dict_odd (l : Addr) (o : Obj) (ho : o.ExactDict) (b : Str) (u : Tok) :
    Meets (Builtin.«dict.__eq__» ⟨[.ref l, .str b u], []⟩) (fun _ R s => s.heap.get? l = some o ∧ R (.ok (.ret .notImplemented)) s) :=
  .of_wp fun prog w A R s h => by
    obtain ⟨hp, g, d, tk, os⟩ := s; obtain ⟨hl, h⟩ := h
    obtain ⟨cls, dd, data, sl⟩ := o
    have f1 := F.sub_str_dict
    wp_walk using wpAny_loadPart' hl, wpAny_load hl
    exact ⟨_, rfl, h⟩
end
section
variable {prog : Program} {w : World} {A : Around} {E : Value → Shared → Prop} {s : Shared} {K : PySem.W.Frag} {x l C f : Addr} {ox o : Obj} {od : Option Obj} {b : Str} {u : Tok} {tb : Value}
/-- a text == something at an address -/
theorem eqB_odd {Q : Bool → Shared → Prop} (hu : A.units < cLine) (ho : s.heap.get? l = some o) (hd : ∀ v, o.data ≠ .prim v) (hb : PySem.W.Looks (model prog w) s.heap (typeOf (.ref l)) tb) (hn : (Value.type "str" != tb) = true)
    (hs : PySem.W.Looks (model prog w) s.heap (isSubtype tb (.type "str")) false)
    (h : wpAny (model prog w) A (tryCompare (.ref l) "__eq__" (.str b u)) (fun r s' => (r = none ∧ Q false s') ∨ ∃ k, r = some (.bool k) ∧ Q k s') E s) : wpAny (model prog w) A (eqBool (.str b u) (.ref l)) Q E s := by
  have one : wpAny (model prog w) A (tryCompare (.str b u) "__eq__" (.ref l)) (fun r s' => r = none ∧ s' = s) E s :=
    wpAny_tryCompare_declines (typeIs_str s b u) F.slot_str_eq (call_meets F.slot_str_eq (typeIs_str s b u) F.entry_str_eq (F.args_str_eq_2 _ _) (str_odd b u l o hd) ⟨ho, rfl, rfl, rfl⟩)
  unfold eqBool
  refine wpAny_holding ?_
  refine wpAny_ite_split (fun hab => absurd (eq_of_beq hab) nofun) (fun _ => ?_)
  refine wpAny_bind (m := richCompare .Eq (.str b u) (.ref l)) (wpAny_mono (Q := fun v s' => ∃ k, v = .bool k ∧ Q k s') ?_ (fun v s' hv => ?_) fun _ _ e => e)
  · simp only [richCompare, cmpInfo_Eq, (typeIs_str s b u).oneThing_none]
    refine wpAny_holding (wpAny_bind (wpAny_cRoomFor hu ?_))
    refine wpAny_bind (wpAny_typeOf (typeIs_str s b u) ?_)
    refine wpAny_bind (hb.here ?_)
    simp only [hn, if_true]
    refine wpAny_bind (hs.here ?_)
    simp only [Bool.false_eq_true, if_false, Bool.not_false, if_true]
    refine wpAny_bind (m := tryCompare (.str b u) _ (.ref l)) (wpAny_mono one (fun r s1 z => ?_) fun _ _ e => e)
    obtain ⟨z1, z2⟩ := z
    subst z1
    subst z2
    refine wpAny_bind (m := tryCompare (.ref l) _ (.str b u)) (wpAny_mono h (fun r s2 z => ?_) fun _ _ e => e)
    rcases z with ⟨z1, z2⟩ | ⟨k, z1, z2⟩
    · subst z1
      exact wpAny_bind (wpAny_rule (wpAny_bind (wpAny_of_eq (rfl : isSame (.str b u) (.ref l) = pure false) (wpAny_pure ⟨_, rfl, z2⟩))))
    · subst z1
      exact wpAny_pure ⟨_, rfl, z2⟩
  · obtain ⟨k, rfl, q⟩ := hv
    exact wpAny_truthy_bool q
theorem entry_objStr {Q : Fin → Shared → Prop} (hq : Q (.done (.ret .notImplemented)) s) : wpAny (model prog w) A (Builtin.«object.__eq__» ⟨[.ref x, .str b u], []⟩) Q E s := by
  have hS : ∀ {R : Bool → Shared → Prop} {A : Around} {E : Value → Shared → Prop} {s : Shared}, R false s → wpAny (model prog w) A (isSame (.ref x) (.str b u)) R E s := fun h => wpAny_of_eq (rfl : isSame (.ref x) (.str b u) = pure false) h
  unfold Builtin.«object.__eq__»
  repeat (first | with_reducible refine hS ?_ | wp_step)
  exact hq
theorem try_objStr {Q : Option Value → Shared → Prop} (X : K.In s.heap) (I : PySem.W.InstAt s.heap x ox C od) (hm : PySem.W.mroIn K C (.type "object") = some true) (hs : PySem.W.findIn K (.ref C) "__eq__" = some (some (.builtin "object.__eq__"))) (h : Q none s) :
    wpAny (model prog w) A (tryCompare (.ref x) "__eq__" (.str b u)) Q E s := by
  unfold tryCompare
  refine wpAny_bind (HN.ifBound_objEq X I hs (wpAny_call (codeAny_call_builtin F.cmp_object.eq.plain F.cmpEntry_eq (PySem.W.check_slot F.cmpKind_eq F.cmpSplit_eq (I.type.andThen (PySem.W.looks_mroIn X hm)) (F.cmpArgs_eq _ _) (entry_objStr ?_)))))
  exact wpAny_pure h
/-- x not in a tuple of which no item equals it -/
theorem notIn_tupG {items : Array Value} {v : Value} {Q : Value → Shared → Prop} (hl : s.heap.IsTuple l items) (I : Shared → Prop) (hI : I s)
    (turn : ∀ y ∈ items, ∀ s, I s → wpAny (model prog w) A.in1 (eqBool y v) (fun r s' => r = false ∧ I s') E s) (fin : ∀ s, I s → Q (.bool true) s) : wpAny (model prog w) A (compareOp .NotIn v (.ref l)) Q E s := by
  obtain ⟨⟨cls, dd, data, sl⟩, ho, hc, n, hd⟩ := id hl
  simp only at hc hd
  subst hc hd
  show wpAny _ A (do return .bool (!(← contains (.ref l) v))) Q E s
  refine wpAny_bind (wpAny_contains_slot ⟨_, ho, rfl⟩ F.slot_tuple_contains (GQ.call_here F.slot_tuple_contains ⟨_, ho, rfl⟩ F.entry_tuple_contains (F.args_tuple_contains_2 _ _) ?_))
  obtain ⟨hp, g, d, tk, os⟩ := s
  wp_walk using wpAny_loadPart' ho, MeetsSeq2.wpAny_forIn_array _ (fun rest b s' => b.1 = none ∧ I s' ∧ ∀ y, y ∈ rest → y ∈ items) _
  case turn =>
    rintro y rest b s' ⟨hb, hI', hmem⟩
    refine wpAny_bind (wpAny_mono (turn y (hmem y (List.mem_cons_self ..)) s' hI') (fun r s2 q => ?_) fun _ _ e => e)
    obtain ⟨rfl, hI2⟩ := q
    wp_walk
    exact ⟨rfl, hI2, fun z hz => hmem z (List.mem_cons_of_mem _ hz)⟩
  case fin =>
    rintro ⟨b1, b2⟩ s' ⟨hb, hI', -⟩
    simp only at hb
    subst hb
    wp_walk
    exact wpAny_truthy_bool (wpAny_pure (fin _ hI'))
  case h =>
    exact ⟨rfl, hI, fun y hy => by simpa using hy⟩
end
end Fp
namespace L2
open PySem PySem.Spec PyProof.Rows
def rIsU (K : PySem.W.Frag) : List V → Hp → VK → Prop := fun xs H Q => rIsi K xs H Q ∨ rIsV K xs H Q
theorem call_isU {X : Cx} : CallR X (.builtin "isinstance") (rIsU X.K) := fun pins s σ H xs us Q I r h => h.elim (call_isi pins s σ H xs us Q I r) (call_isV pins s σ H xs us Q I r)
/-- something at an address that equals no text -/
inductive OddR (K : PySem.W.Frag) (C : Addr) (sp : Sp) (H : Hp) (zs : List Str) (a : Addr) : Prop where
  | tup {xs : List V} (e : H a = some (.tup xs)) : OddR K C sp H zs a
  | lst {xs : List V} (e : H a = some (.lst xs)) : OddR K C sp H zs a
  | dct {kvs : List (Key × V)} (e : H a = some (.dK kvs)) : OddR K C sp H zs a
  | own {dx : Addr} {fs : List (Str × V)} (e : H a = some (.ins C dx fs)) (h : ∀ z ∈ zs, sp [.ref a, .str z] H (fun v H' => v = .bl false ∧ H' = H) (fun _ _ _ => False)) : OddR K C sp H zs a
  | exc {D : Addr} {d : Option Addr} (e : HE H a D d) (c : ExcC K D) (q : PySem.W.findIn K (.ref D) "__eq__" = some (some (.builtin "object.__eq__"))) (u : PySem.W.subIn K (.ref D) (.type "str") = some false) : OddR K C sp H zs a
def rNotInO (K : PySem.W.Frag) (C : Addr) (sp : Sp) : R2 := fun x y H Q => ∃ p zs, y = .ref p ∧ SqT K H p (zs.map V.str) ∧ ((flatV x = true ∧ Q (.bl (!inV x (zs.map V.str))) H) ∨ ∃ a, x = .ref a ∧ OddR K C sp H zs a ∧ Q (.bl true) H)
theorem sub_dict {K : PySem.W.Frag} : PySem.W.subIn K (.type "dict") (.type "str") = some false := by
  have e : fastBuiltinMro "dict" = some [.type "dict", .type "object"] := by decide +kernel
  show (fastBuiltinMro "dict").map (·.contains (.type "str")) = some false
  rw [e]
  decide +kernel
theorem odd_flats : ∀ zs : List Str, (zs.map V.str).all flatV = true
  | [] => rfl
  | z :: zs => by
    rw [List.map_cons, List.all_cons, odd_flats zs]
    rfl
theorem strs_mem : ∀ {zs : List Str} {us : List Value}, Vals (zs.map V.str) us → ∀ y ∈ us, ∃ z ∈ zs, ∃ t, y = .str z t
  | [], _, h, y, hy => by
    cases h
    cases hy
  | z :: zs, _, h, y, hy => by
    cases h with
    | cons a b =>
      rcases List.mem_cons.mp hy with rfl | hy
      · obtain ⟨t, rfl⟩ := a
        exact ⟨z, List.mem_cons_self, t, rfl⟩
      · obtain ⟨z', h1, h2⟩ := strs_mem b y hy
        exact ⟨z', List.mem_cons_of_mem _ h1, h2⟩
section
variable {X : Cx} {C f : Addr} {fd : FuncData} {ps : List Str} {sp : Sp} {n : Nat}
theorem op_notInOdd (F : FnOk X.prog X.w X.K X.mg X.base CX0 n f fd ps sp) (hs : PySem.W.findIn X.K (.ref C) "__eq__" = some (some (.ref f))) (hf : PySem.W.isFn X.K (.ref f) = true) (hu : PySem.W.subIn X.K (.ref C) (.type "str") = some false)
    (hb : Binds X.K fd ps []) (hr : Room (n + 1) X.A) : OpR X (compareOp .NotIn) (rNotInO X.K C sp) := by
  intro pins s σ H x y v u Q I rx ry h
  obtain ⟨p, zs, rfl, hq, h⟩ := h
  rcases h with ⟨fx, q⟩ | ⟨a, rfl, ho, q⟩
  · exact op_notIn_seq pins s σ H x _ v u Q I rx ry ⟨p, _, rfl, .inr hq, fx, odd_flats zs, q⟩
  · cases ry
    cases rx
    obtain ⟨its, r, pl, hz⟩ := I.tuple hq
    have hu0 : X.A.in1.units < cLine := hr.in1.units0
    refine Fp.notIn_tupG pl (fun s' => Inv X pins σ H s') I (fun y hy s1 I1 => ?_) (fun s' I' => ⟨.bl true, H, I', rfl, q⟩)
    obtain ⟨z, hz, t, rfl⟩ := strs_mem r y (by simpa using hy)
    cases ho with
    | tup e =>
      obtain ⟨its2, r2, pl2, hz2⟩ := I1.tuple (.inl (.inl e))
      exact SeqAt.EqAt.str_tuple z t pl2 hu0 _ _ _ _ ⟨rfl, I1⟩
    | lst e =>
      obtain ⟨its2, r2, pl2, hz2⟩ := I1.list (.inl (.inl e))
      exact SeqAt.EqAt.str_list z t pl2.isList hu0 _ _ _ _ ⟨rfl, I1⟩
    | dct e =>
      obtain ⟨P, Z, pp, _⟩ := kit_of I1 (x := .ref a) rfl (.base (.dK e))
      obtain ⟨_, hsy, vs, _, o, es, ep, ho, hx, _⟩ := I1.hok a _ e
      have hd : ∀ v, o.data ≠ .prim v := fun v z => by simp_all
      refine Fp.eqB_odd hu0 ho hd (Z.ty _ _ I1.kIn pp) (by decide) (PySem.W.looks_subIn I1.kIn sub_dict) ?_
      exact wpAny_tryCompare_declines ⟨o, ho, hx.1⟩ PySem.F.slot_dict_eq (call_meets PySem.F.slot_dict_eq ⟨o, ho, hx.1⟩ PySem.F.entry_dict_eq (PySem.F.args_dict_eq_2 _ _) (Fp.dict_odd a o hx z t) ⟨ho, rfl, .inl ⟨rfl, rfl, I1⟩⟩)
    | @own dx fs e h =>
      obtain ⟨mA, J, _⟩ := ins_get I1.hok e
      obtain ⟨od, J, _⟩ := J.look
      obtain ⟨h1, h2, h3, h4⟩ := id J
      refine Fp.eqB_odd hu0 h1 (fun v z => by cases z) J.type rfl (PySem.W.looks_subIn I1.kIn hu) ?_
      have hsp := h z hz
      have hl := F.len _ _ _ _ hsp
      have r2 : Vals [V.ref a, .str z] [Value.ref a, .str z t] := .cons rfl (.cons ⟨t, rfl⟩ .nil)
      unfold tryCompare
      refine wpAny_bind (PySem.W.ifBound_K I1.kIn J hs hf (wpAny_call (codeAny_mono (F.run X.A.in1 X.stack s1 H ⟨[.ref a, .str z t], []⟩ [.ref a, .str z t] [.ref a, .str z] _ (fun _ _ _ => False) hr.in1 I1.env0.in1 (by
        have := hb s1 [.ref a, .str z t] I1.kIn (by simpa using hl)
        simpa using this) r2 hsp) fun r s' hq => ?_)))
      cases r with
      | error e => exact pass0 pins σ H s1 e s' I1 hq
      | ok fl =>
        cases fl with
        | ret w =>
          obtain ⟨z, H', I', rz, ez, eh⟩ := I1.after hq
          subst ez
          subst eh
          cases rz
          exact wpAny_pure (.inr ⟨false, rfl, rfl, I'⟩)
        | next => exact False.elim hq
        | brk => exact False.elim hq
        | cont => exact False.elim hq
    | @exc D d e c q u =>
      obtain ⟨ox, od, J, _⟩ := e.inst I1
      obtain ⟨h1, h2, h3, h4⟩ := id J
      obtain ⟨t1, ho⟩ := exo_at I1.hok e.1
      exact Fp.eqB_odd hu0 ho (fun v z => by cases z) J.type rfl (PySem.W.looks_subIn I1.kIn u) (Fp.try_objStr I1.kIn J c.hm q (.inl ⟨rfl, rfl, I1⟩))
end
end L2

set_option Elab.async false
set_option linter.all false
set_option maxRecDepth 100000
set_option maxHeartbeats 4000000
namespace Fp
open PySem PySem.Spec PyProof.Rows L2
/-! ### words with other letters -/
theorem tw_lt {g : Nat → Bool} : ∀ {l : List Nat}, (∃ c ∈ l, g c = false) → (l.takeWhile g).length < l.length
  | [], ⟨_, h, _⟩ => by cases h
  | a :: r, ⟨c, h, e⟩ => by
    rw [List.takeWhile_cons]
    cases ha : g a with
    | false => exact Nat.succ_pos _
    | true =>
      have : ∃ c ∈ r, g c = false := by
        rcases List.mem_cons.mp h with rfl | h
        · rw [ha] at e
          cases e
        · exact ⟨c, h, e⟩
      have := tw_lt this
      show (r.takeWhile g).length + 1 < r.length + 1
      omega
theorem drop_bad {g : Nat → Bool} : ∀ {l : List Nat}, (∃ c ∈ l, g c = false) → ∃ c ∈ l.drop (l.takeWhile g).length, g c = false
  | [], ⟨_, h, _⟩ => by cases h
  | a :: r, ⟨c, h, e⟩ => by
    rw [List.takeWhile_cons]
    cases ha : g a with
    | false => exact ⟨c, h, e⟩
    | true =>
      have : ∃ c ∈ r, g c = false := by
        rcases List.mem_cons.mp h with rfl | h
        · rw [ha] at e
          cases e
        · exact ⟨c, h, e⟩
      exact drop_bad this
theorem strip_not {w z : Str} (h : ¬ over z w) : PySem.Txt.stripChars w z ≠ (Str.ofString "") := by
  have hex : ∃ c ∈ w.cps.toList, z.cps.contains c = false := by
    by_cases h2 : ∃ c ∈ w.cps.toList, z.cps.contains c = false
    · exact h2
    · refine absurd (fun c hc => ?_) h
      cases e : z.cps.contains c with
      | false => exact absurd ⟨c, hc, e⟩ h2
      | true => exact Array.mem_toList_iff.mpr (Array.contains_iff_mem.mp e)
  have h1 := tw_lt hex
  have h2 := tw_lt (g := z.cps.contains) (l := (w.cps.toList.drop (w.cps.toList.takeWhile z.cps.contains).length).reverse) (by
    obtain ⟨c, hc, e⟩ := drop_bad hex
    exact ⟨c, List.mem_reverse.mpr hc, e⟩)
  rw [List.length_reverse, List.length_drop] at h2
  have hsz : w.length = w.cps.toList.length := by simp [Str.length]
  have hlo : stripLo z.cps.contains true w = (w.cps.toList.takeWhile z.cps.contains).length := by
    unfold stripLo
    rw [if_pos rfl]
  unfold PySem.Txt.stripChars PySem.Txt.stripBy
  cases e : stripSame z.cps.contains true true w with
  | true =>
    rw [if_pos rfl]
    intro e2
    rw [e2] at hex
    obtain ⟨c, hc, _⟩ := hex
    cases hc
  | false =>
    rw [if_neg Bool.false_ne_true]
    intro e2
    have e3 := congrArg (fun s : Str => s.cps.size) e2
    unfold stripped at e3
    rw [hlo] at e3
    unfold stripHi at e3
    rw [if_pos rfl] at e3
    unfold Builtin.Str.strSub at e3
    simp at e3
    have h3 : w.cps.size = w.cps.toList.length := by simp
    have h4 : w.length = w.cps.size := rfl
    have h5 : (Str.ofString "").cps.size = 0 := rfl
    simp at h1 h2
    omega
/-! ### odd things -/
theorem heS {H H' : Hp} {a C : Addr} {d : Option Addr} (h : HE H a C d) (k : Same H H') : HE H' a C d := ⟨k _ _ h.1, fun dd e => by
  obtain ⟨fs, z⟩ := h.2 dd e
  exact ⟨fs, k _ _ z⟩⟩
inductive OddA (K : PySem.W.Frag) (H : Hp) (a : Addr) : Prop where
  | tup {xs : List V} (e : H a = some (.tup xs)) : OddA K H a
  | lst {xs : List V} (e : H a = some (.lst xs)) : OddA K H a
  | dct {kvs : List (Key × V)} (e : H a = some (.dK kvs)) : OddA K H a
  | exc {d : Option Addr} (e : HE H a (He.ga K "BadBag") d) : OddA K H a
theorem OddA.same {K : PySem.W.Frag} {H H' : Hp} {a : Addr} (h : OddA K H a) (k : Same H H') : OddA K H' a := by
  cases h with
  | tup e => exact .tup (k _ _ e)
  | lst e => exact .lst (k _ _ e)
  | dct e => exact .dct (k _ _ e)
  | exc e => exact .exc (heS e k)
/-- no bag -/
def NoBg (K : PySem.W.Frag) (H : Hp) (x : V) : Prop := flatV x = true ∨ ∃ a, x = .ref a ∧ OddA K H a
def OddV (K : PySem.W.Frag) (H : Hp) (x : V) : Prop := NoBg K H x ∨ ∃ a c L, x = .ref a ∧ BagAt K H a c L
theorem NoBg.same {K : PySem.W.Frag} {H H' : Hp} {x : V} (h : NoBg K H x) (k : Same H H') : NoBg K H' x := by
  rcases h with h | ⟨a, rfl, h⟩
  · exact .inl h
  · exact .inr ⟨a, rfl, h.same k⟩
theorem OddV.same {K : PySem.W.Frag} {H H' : Hp} {x : V} (h : OddV K H x) (k : Same H H') : OddV K H' x := by
  rcases h with h | ⟨a, c, L, rfl, h⟩
  · exact .inl (h.same k)
  · exact .inr ⟨a, c, L, rfl, h.same k⟩
def isS : V → Bool
  | .str _ => true
  | _ => false
section
variable {P : Program} {w : World} {K : PySem.W.Frag} {mg : Str → Option Value} {base : Heap}
theorem flat_ty {H : Hp} {x : V} (h : flatV x = true) : ∃ t, TyX K H x t ∧ PySem.W.kitOne K t (.type "str") = some (isS x) ∧ (t = .type "NoneType" ∨ t = .type "bool" ∨ t = .type "int" ∨ t = .type "str") := by
  cases x with
  | non => exact ⟨_, .base .non, kit_ty (r := false) (by decide +kernel), .inl rfl⟩
  | bl b => exact ⟨_, .base (.bl b), kit_ty (r := false) (by decide +kernel), .inr (.inl rfl)⟩
  | int i => exact ⟨_, .base (.int i), kit_ty (r := false) (by decide +kernel), .inr (.inr (.inl rfl))⟩
  | str s => exact ⟨_, .base (.str s), kit_ty (r := true) (by decide +kernel), .inr (.inr (.inr rfl))⟩
  | _ => cases h
/-- isinstance(x, str) -/
theorem odd_str (T : Top K mg) {H : Hp} {x : V} {Q : VK} (h : OddV K H x) (q : Q (.bl (isS x)) H) : rIsU K [x, .ty "str"] H Q := by
  rcases h with (h | ⟨a, rfl, h⟩) | ⟨a, c, L, rfl, dx, t, ea, _⟩
  · obtain ⟨t, h1, h2, _⟩ := flat_ty (K := K) (H := H) h
    exact .inl ⟨x, _, t, _, _, rfl, .ty "str", h1, h2, q⟩
  · cases h with
    | tup e => exact .inl ⟨_, _, _, _, false, rfl, .ty "str", .base (.tup e), kit_ty (by decide +kernel), q⟩
    | lst e => exact .inl ⟨_, _, _, _, false, rfl, .ty "str", .base (.lst e), kit_ty (by decide +kernel), q⟩
    | dct e => exact .inl ⟨_, _, _, _, false, rfl, .ty "str", .base (.dK e), kit_ty (by decide +kernel), q⟩
    | exc e => exact .inr ⟨a, _, _, _, _, false, rfl, e, xc_BadBag T, fun _ z => z, xs_BadBag T, q⟩
  · exact .inl ⟨_, _, _, _, false, rfl, .ty "str", .base (.ins ea (cls_Bag T) (x_class T) (x_get T) (x_takes T) (x_mro T)), xs_Bag T, q⟩
/-- isinstance(x, Bag) -/
theorem odd_bag (T : Top K mg) {H : Hp} {x : V} {Q : VK} (h : NoBg K H x) (q : Q (.bl false) H) : rIsU K [x, .ref (He.ga K "Bag")] H Q := by
  rcases h with h | ⟨a, rfl, h⟩
  · obtain ⟨t, h1, _, h3⟩ := flat_ty (K := K) (H := H) h
    refine .inl ⟨x, _, t, _, false, rfl, .own _, h1, ?_, q⟩
    rcases h3 with rfl | rfl | rfl | rfl
    · exact x_no_NoneType T
    · exact x_no_bool T
    · exact x_no_int T
    · exact x_no_str T
  · cases h with
    | tup e => exact .inl ⟨_, _, _, _, false, rfl, .own _, .base (.tup e), x_no_tuple T, q⟩
    | lst e => exact .inl ⟨_, _, _, _, false, rfl, .own _, .base (.lst e), x_no_list T, q⟩
    | dct e => exact .inl ⟨_, _, _, _, false, rfl, .own _, .base (.dK e), x_no_dict T, q⟩
    | exc e => exact .inr ⟨a, _, _, _, _, false, rfl, e, xc_BadBag T, fun _ z => z, xb_BadBag T, q⟩
theorem is_bag (T : Top K mg) {H : Hp} {a : Addr} {c : Int} {L : Tb} {Q : VK} (h : BagAt K H a c L) (q : Q (.bl true) H) : rIsU K [.ref a, .ref (He.ga K "Bag")] H Q := by
  obtain ⟨dx, t, ea, _⟩ := h
  exact .inl ⟨_, _, _, _, true, rfl, .own _, .base (.ins ea (cls_Bag T) (x_class T) (x_get T) (x_takes T) (x_mro T)), x_is T, q⟩
/-! ### what is refused -/
theorem inV_al {x : V} (h : flatV x = true) : inV x [.str "xy", .str "xyz"] = decide (x = .str "xy" ∨ x = .str "xyz") := by
  cases x with
  | str s =>
    show ((("xy" : Str) == s) || ((("xyz" : Str) == s) || false)) = _
    rw [Bool.or_false]
    by_cases h1 : s = "xy"
    · subst h1
      simp
    · by_cases h2 : s = "xyz"
      · subst h2
        simp
      · have e1 : (("xy" : Str) == s) = false := beq_eq_false_iff_ne.mpr (Ne.symm h1)
        have e2 : (("xyz" : Str) == s) = false := beq_eq_false_iff_ne.mpr (Ne.symm h2)
        rw [e1, e2]
        simp [h1, h2]
  | non => exact (decide_eq_false (by simp)).symm
  | bl b => exact (decide_eq_false (by simp)).symm
  | int i => exact (decide_eq_false (by simp)).symm
  | _ => cases h
def isAlV (x : V) : Prop := x = .str "xy" ∨ x = .str "xyz"
def spCkAlX (K : PySem.W.Frag) : Sp := fun vs H Q E => ∃ x : V, vs = [x] ∧ OddV K H x ∧ ¬ isAlV x ∧ E (.ref (He.ga K "NoAlphabet")) none H
theorem okX_ckal (T : Top K mg) : OkX P w K mg base 3 "check_alphabet" ["thing"] (spCkAlX K) := by
  obtain ⟨fd, F⟩ := fn_check_alphabet T
  obtain ⟨x1, x2, x3, x4⟩ := e_NoAlphabet T
  obtain ⟨fd2, F2, b2⟩ := ok_eq (P := P) (w := w) (base := base) T
  refine ⟨⟨fd, ?_, F.bindsN fun _ _ _ _ _ _ us hl => match us, hl with | [_], _ => rfl⟩, g_check_alphabet T, F.kp⟩
  refine F.ok sc_ckal (fun vs H Q E h => ?_) (fun cdv A outer s H vs Q E hr h => ?_)
  · obtain ⟨z, rfl, _⟩ := h
    rfl
  · obtain ⟨x, rfl, hx, hn, q⟩ := h
    have hr2 : Room 2 _ := hr.mono (by decide)
    refine ⟨_, pss_one (ps_if (pt_cmpR (op_notInOdd F2 (m_Bag___eq__ T).at_ (m_Bag___eq__ T).fn (xu_Bag T) b2 hr2) (pv 0) (pe_glob (v := .ref (He.ga K "ALPHABETS")) rfl (g_ALPHABETS T) rfl) (by rfl))
      (pss_one (ps_raise rfl (takes_of rfl rfl rfl rfl) (pmk_own0 PySem.F.excBase_ValueError x1 (g_NoAlphabet T) x2 (raises_own x3 x4) rfl))) pss_nil), ?_⟩
    refine ⟨_, rfl, _, ["xy", "xyz"], rfl, x_ALPHABETS T _, ?_⟩
    rcases hx with (h | ⟨a, rfl, h⟩) | ⟨a, c, L, rfl, hb⟩
    · refine .inl ⟨h, _, rfl, ?_⟩
      rw [show (["xy", "xyz"] : List Str).map V.str = [V.str "xy", V.str "xyz"] from rfl, inV_al h, decide_eq_false (show ¬ (x = .str "xy" ∨ x = .str "xyz") from hn)]
      exact iteT q
    · refine .inr ⟨a, rfl, ?_, _, rfl, iteT q⟩
      cases h with
      | tup e => exact .tup e
      | lst e => exact .lst e
      | dct e => exact .dct e
      | exc e => exact .exc e (xc_BadBag T) (xq_BadBag T) (xu_BadBag T)
    · obtain ⟨dx, t, ea, wa⟩ := id hb
      exact .inr ⟨a, rfl, .own ea fun z _ => ⟨a, .str z, c, L, rfl, hb, .inr ⟨_, .base (.str z), x_no_str T, rfl, rfl⟩⟩, _, rfl, iteT q⟩
end
end Fp

set_option Elab.async false
set_option linter.all false
set_option maxRecDepth 100000
set_option maxHeartbeats 4000000
namespace L2
open PySem PySem.Spec PyProof.Rows
theorem pe_alt {X : Cx} {e : Expr} {t1 t2 : TE} (h1 : PE X e t1) (h2 : PE X e t2) : PE X e (fun σ H Q => t1 σ H Q ∨ t2 σ H Q) := ⟨fun pins s σ H Q I h => h.elim (h1.run pins s σ H Q I) (h2.run pins s σ H Q I)⟩
end L2
namespace Fp
open PySem PySem.Spec PyProof.Rows L2
def overB (z r : Str) : Bool := r.cps.toList.all fun b => z.cps.toList.contains b
theorem overB_iff {z r : Str} : overB z r = true ↔ over z r := by
  unfold overB over
  rw [List.all_eq_true]
  simp only [List.contains_iff_mem]
theorem strip_overB {z r : Str} (hz : isAl z) : decide (V.str (PySem.Txt.stripChars r z) = V.str "") = overB z r := by
  cases e : overB z r with
  | true =>
    rw [strip_over hz (overB_iff.mp e)]
    exact decide_eq_true rfl
  | false =>
    refine decide_eq_false fun y => ?_
    injection y with y
    refine strip_not (fun h => ?_) y
    rw [overB_iff.mpr h] at e
    cases e
section
variable {P : Program} {w : World} {K : PySem.W.Frag} {mg : Str → Option Value} {base : Heap}
def spOnlyB (K : PySem.W.Frag) : Sp := fun vs H Q _ => ∃ (a : Addr) (c : Int) (L : Tb) (z : Str), vs = [.ref a, .str z] ∧ BagAt K H a c L ∧ isAl z ∧ (∀ p ∈ L, p.1.length ≤ 1000) ∧ L.length ≤ 1000000 ∧ ∀ H', Same H H' → Q (.bl (L.all fun p => overB z p.1)) H'
theorem ok_onlyB (T : Top K mg) : Ok P w K mg base 1 "has_only" ["bag", "letters"] (spOnlyB K) := by
  obtain ⟨fd, F⟩ := fn_has_only T
  refine ⟨⟨fd, ?_, F.bindsN fun _ _ _ _ _ _ us hl => match us, hl with | [_, _], _ => rfl⟩, g_has_only T, F.kp⟩
  refine F.ok sc_only (fun vs H Q E h => ?_) (fun cdv A outer s H vs Q E hr h => ?_)
  · obtain ⟨a, c, L, z, rfl, _⟩ := h
    rfl
  · obtain ⟨a, c, L, z, rfl, ⟨dx, t, ea, wt⟩, hz, hw, hl, q⟩ := h
    have nd := sc_only.nd
    have hs : sizeLine = 16777216 := sizeLine_eq
    obtain ⟨ps, o, e1, e2, e3⟩ := WordsAt.get wt
    refine ⟨_, PSs.nox (pss_one (ps_ret (pe_callB (cr_all rfl) (by rfl) (f_all T) (by decide +kernel) (pa_cons (pe_lc (own := [("word", 2), ("_", 3)]) (g := gPair K 2 3) (tt := tYes) rfl nd (pi_tup (pe_fld (pv 0) rfl)) (blkOk_by (N := nOnly) (sc := defScope s_has_only) (by decide +kernel))
        (fun _ _ _ _ _ => pg_tup rfl (pgs_cons (pg_name (i := 2) nd rfl (Or.inl rfl)) (pgs_cons (pg_name (i := 3) nd rfl (Or.inl rfl)) pgs_nil)))
        (fun _ _ _ _ _ => by exact pts_nil) (fun _ _ _ _ _ => by exact (pe_cmpR op_eq (pe_m1 PySem.F.slot_str_strip PySem.F.type_str_strip mt_stripChars (pv 2) (pv 1)) pe_str (nomark _)))) pa_nil)))), ?_⟩
    refine ⟨_, rfl, a, _, dx, _, _, rfl, ea, cls_Bag T, na_Bag_words T, flds_words _ _, ?_⟩
    refine ⟨t, rfl, ⟨_, .inl (.inr ⟨o, e1⟩)⟩, fun D hD => ?_⟩
    refine lc_it (walk_tup (xs := ps.map V.ref)) (fun i H' => H' D = some (.lst (((L.take i).map fun p => overB z p.1).map V.bl)) ∧ Same H H') ⟨upd_same, same_upd hD⟩ (fun i H' _ hP => .inl (.inr ⟨o, hP.2 _ _ e1⟩)) ?_ ?_
    · rintro i x H1 H2 hi ⟨p1, p2⟩ ⟨rfl, e⟩
      rw [List.length_map, e2] at hi
      have ep : L[i]? = some L[i] := List.getElem?_eq_getElem hi
      generalize L[i] = p at ep
      obtain ⟨b, h1, h2⟩ := e3 i p ep
      rw [List.getElem?_map, h1] at e
      have e5 : V.ref b = x := Option.some.inj e
      subst e5
      have hln := hw p (List.mem_of_getElem? ep)
      refine ⟨b, _, rfl, .inl (.inl (p2 _ _ h2)), rfl, ?_⟩
      refine ⟨_, _, rfl, _, _, rfl, rfl, rfl, ?_⟩
      refine ⟨_, rfl, ⟨p.1, rfl⟩, _, rfl, p.1, z, rfl, rfl, by omega, rfl, ?_⟩
      rw [strip_overB hz]
      refine ⟨_, p1, ?_, ?_, fun b' o' y => ?_⟩
      · rw [List.length_map, List.length_map, List.length_take]
        omega
      · rw [upd_same, List.take_add_one, ep, List.map_append, List.map_append]
        rfl
      · rw [upd_ne (ne_of_none y hD)]
        exact p2 _ _ y
    · rintro H' ⟨p1, p2⟩
      rw [show (ps.map V.ref).length = L.length by rw [List.length_map, e2], List.take_length] at p1
      refine ⟨D, _, rfl, .inl (.inl p1), ?_⟩
      rw [List.all_map]
      exact q H' p2
/-- what check_over refuses -/
def NoOver (K : PySem.W.Frag) (H : Hp) (x : V) (a : Addr) (E : XK) : Prop := (OddV K H x ∧ ¬ isAlV x ∧ E (.ref (He.ga K "NoAlphabet")) none H) ∨
  ∃ z c L, x = .str z ∧ isAl z ∧ BagAt K H a c L ∧ (∀ p ∈ L, p.1.length ≤ 1000) ∧ L.length ≤ 1000000 ∧ (L.all fun p => overB z p.1) = false ∧ ∀ H', Same H H' → E (.ref (He.ga K "NoLetters")) none H'
def spCkOvX (K : PySem.W.Frag) : Sp := fun vs H Q E => ∃ (x : V) (a : Addr), vs = [x, .ref a] ∧ NoOver K H x a E
theorem okX_ckov (T : Top K mg) : OkX P w K mg base 4 "check_over" ["alphabet", "bag"] (spCkOvX K) := by
  obtain ⟨fd, F⟩ := fn_check_over T
  obtain ⟨x1, x2, x3, x4⟩ := e_NoLetters T
  refine ⟨⟨fd, ?_, F.bindsN fun _ _ _ _ _ _ us hl => match us, hl with | [_, _], _ => rfl⟩, g_check_over T, F.kp⟩
  refine F.ok sc_ckov (fun vs H Q E h => ?_) (fun cdv A outer s H vs Q E hr h => ?_)
  · obtain ⟨z, a, rfl, _⟩ := h
    rfl
  · obtain ⟨x, a, rfl, h⟩ := h
    have hr1 : Room 1 _ := hr.mono (by decide)
    refine ⟨_, pss_cons (ps_expr (pe_alt (pc (ok_ckal T) hr1 (pa_cons (pv 0) pa_nil)) (pcX (takes_of rfl rfl rfl rfl) (okX_ckal T) hr (pa_cons (pv 0) pa_nil))))
      (pss_one (ps_if (pt_not (pt_val (pc (ok_onlyB T) hr1 (pa_cons (pv 1) (pa_cons (pv 0) pa_nil))))) (pss_one (ps_raise rfl (takes_of rfl rfl rfl rfl) (pmk_own0 PySem.F.excBase_ValueError x1 (g_NoLetters T) x2 (raises_own x3 x4) rfl))) pss_nil)), ?_⟩
    rcases h with ⟨ho, hn, q⟩ | ⟨z, c, L, rfl, hz, hb, hw, hl, hno, q⟩
    · exact .inr ⟨_, rfl, x, rfl, ho, hn, q⟩
    · refine .inl ⟨_, rfl, z, rfl, hz, ?_⟩
      refine ⟨_, rfl, _, rfl, a, c, L, z, rfl, hb, hz, hw, hl, fun H' s' => ?_⟩
      rw [hno]
      exact ⟨false, rfl, iteT (q H' s')⟩
/-- is_full, where it does not look further -/
def spFullX (K : PySem.W.Frag) : Sp := fun vs H Q E => ∃ (x y : V), vs = [x, y] ∧ ((OddV K H x ∧ ¬ isAlV x ∧ E (.ref (He.ga K "NoAlphabet")) none H) ∨ ∃ z, x = .str z ∧ isAl z ∧
  ((NoBg K H y ∧ Q (.bl false) H) ∨ ∃ a c L, y = .ref a ∧ BagAt K H a c L ∧ (∀ p ∈ L, p.1.length ≤ 1000) ∧ L.length ≤ 1000000 ∧ (L.all fun p => overB z p.1) = false ∧ ∀ H', Same H H' → Q (.bl false) H'))
theorem okX_full (T : Top K mg) : OkX P w K mg base 4 "is_full" nFull (spFullX K) := by
  obtain ⟨fd, F⟩ := fn_is_full T
  refine ⟨⟨fd, ?_, F.bindsN fun _ _ _ _ _ _ us hl => match us, hl with | [_, _], _ => rfl⟩, g_is_full T, F.kp⟩
  refine F.ok sc_full (fun vs H Q E h => ?_) (fun cdv A outer s H vs Q E hr h => ?_)
  · obtain ⟨x, y, rfl, _⟩ := h
    rfl
  · obtain ⟨x, y, rfl, h⟩ := h
    have hr1 : Room 1 _ := hr.mono (by decide)
    refine ⟨_, pss_cons (ps_expr (pe_alt (pc (ok_ckal T) hr1 (pa_cons (pv 0) pa_nil)) (pcX (takes_of rfl rfl rfl rfl) (okX_ckal T) hr (pa_cons (pv 0) pa_nil))))
      (pss_cons (ps_if (PW.pt (pw_or (pt_not (pt_val (pe_callB call_isU (by rfl) (f_isinstance T) (by decide +kernel) (pa_cons (pv 1) (pa_cons (pe_glob (v := .ref (He.ga K "Bag")) rfl (g_Bag T) rfl) pa_nil)))))
          (pw_or1 (pt_not (pt_val (pc (ok_onlyB T) hr1 (pa_cons (pv 1) (pa_cons (pv 0) pa_nil)))))))) (pss_one (ps_ret pe_bl)) pss_nil)
      pss_never), ?_⟩
    rcases h with ⟨ho, hn, q⟩ | ⟨z, rfl, hz, h⟩
    · exact .inr ⟨_, rfl, x, rfl, ho, hn, q⟩
    · refine .inl ⟨_, rfl, z, rfl, hz, ?_⟩
      rcases h with ⟨hy, q⟩ | ⟨a, c, L, rfl, hb, hw, hl, hno, q⟩
      · refine ⟨_, rfl, odd_bag T hy ⟨false, rfl, ?_⟩⟩
        exact iteT (iteT q)
      · refine ⟨_, rfl, is_bag T hb ⟨true, rfl, ?_⟩⟩
        refine iteF ⟨_, rfl, _, rfl, a, c, L, z, rfl, hb, hz, hw, hl, fun H' s' => ?_⟩
        rw [hno]
        exact ⟨false, rfl, iteT (q H' s')⟩
theorem okX_beg (T : Top K mg) : OkX P w K mg base 5 "beginnings" ["alphabet", "bag"] (spCkOvX K) := by
  obtain ⟨fd, F⟩ := fn_beginnings T
  refine ⟨⟨fd, ?_, F.bindsN fun _ _ _ _ _ _ us hl => match us, hl with | [_, _], _ => rfl⟩, g_beginnings T, F.kp⟩
  refine F.ok sc_beg (fun vs H Q E h => ?_) (fun cdv A outer s H vs Q E hr h => ?_)
  · obtain ⟨x, a, rfl, _⟩ := h
    rfl
  · obtain ⟨x, a, rfl, h⟩ := h
    refine ⟨_, pss_cons (ps_expr (pcX (takes_of rfl rfl rfl rfl) (okX_ckov T) hr (pa_cons (pv 0) (pa_cons (pv 1) pa_nil)))) pss_never, ?_⟩
    exact ⟨_, rfl, _, rfl, x, a, rfl, h⟩
/-- a number of letters that is none -/
def BadN (K : PySem.W.Frag) (H : Hp) (x : V) : Prop := (x = .non ∨ (∃ b, x = .bl b) ∨ (∃ s, x = .str s) ∨ (∃ i, x = .int i ∧ (i < 0 ∨ 12 < i)) ∨ ∃ a xs, x = .ref a ∧ (H a = some (.tup xs) ∨ H a = some (.lst xs)))
theorem BadN.same {H H' : Hp} {x : V} (h : BadN K H x) (k : Same H H') : BadN K H' x := by
  rcases h with h | h | h | h | ⟨a, xs, rfl, h | h⟩
  · exact .inl h
  · exact .inr (.inl h)
  · exact .inr (.inr (.inl h))
  · exact .inr (.inr (.inr (.inl h)))
  · exact .inr (.inr (.inr (.inr ⟨a, xs, rfl, .inl (k _ _ h)⟩)))
  · exact .inr (.inr (.inr (.inr ⟨a, xs, rfl, .inr (k _ _ h)⟩)))
/-- no int at all, or a flag -/
def NoInt (K : PySem.W.Frag) (H : Hp) (x : V) : Prop := (∃ b, x = .bl b) ∨ ∃ t, TyX K H x t ∧ PySem.W.kitOne K t (.type "int") = some false
def spIntX (K : PySem.W.Frag) : Sp := fun vs H Q _ => ∃ x : V, vs = [x] ∧ NoInt K H x ∧ Q (.bl false) H
theorem ok_isIntX (T : Top K mg) : Ok P w K mg base 1 "is_integer" ["thing"] (spIntX K) := by
  obtain ⟨fd, F⟩ := fn_is_integer T
  refine ⟨⟨fd, ?_, F.bindsN fun _ _ _ _ _ _ us hl => match us, hl with | [_], _ => rfl⟩, g_is_integer T, F.kp⟩
  refine F.ok sc_is_integer (fun vs H Q E h => ?_) (fun cdv A outer s H vs Q E hr h => ?_)
  · obtain ⟨i, rfl, _⟩ := h
    rfl
  · obtain ⟨x, rfl, hx, q⟩ := h
    refine ⟨_, PSs.nox (pss_one (ps_ret (pe_and (pe_callB call_isi (by rfl) (f_isinstance T) (by decide +kernel) (pa_cons (pv 0) (pa_cons (pe_bltn (v := .ty "int") (by rfl) (f_int T) boot_int rfl) pa_nil)))
      (pe_one (pe_not (pe_callB call_isi (by rfl) (f_isinstance T) (by decide +kernel) (pa_cons (pv 0) (pa_cons (pe_bltn (v := .ty "bool") (by rfl) (f_bool T) (by decide +kernel) rfl) pa_nil)))))))), ?_⟩
    rcases hx with ⟨b, rfl⟩ | ⟨t, h1, h2⟩
    · refine ⟨_, rfl, .bl b, _, _, _, true, rfl, .ty "int", .base (.bl b), kit_ty (by decide +kernel), true, rfl, iteT ?_⟩
      exact ⟨_, rfl, .bl b, _, _, _, true, rfl, .ty "bool", .base (.bl b), kit_ty (by decide +kernel), true, rfl, q⟩
    · exact ⟨_, rfl, x, _, _, _, false, rfl, .ty "int", h1, h2, false, rfl, iteF q⟩
def spFromToX (K : PySem.W.Frag) : Sp := fun vs H Q _ => ∃ (x y z : V), vs = [x, y, z] ∧ NoInt K H x ∧ Q (.bl false) H
theorem ok_fromToX (T : Top K mg) : Ok P w K mg base 2 "is_from_to" ["thing", "low", "high"] (spFromToX K) := by
  obtain ⟨fd, F⟩ := fn_is_from_to T
  refine ⟨⟨fd, ?_, F.bindsN fun _ _ _ _ _ _ us hl => match us, hl with | [_, _, _], _ => rfl⟩, g_is_from_to T, F.kp⟩
  refine F.ok sc_is_from_to (fun vs H Q E h => ?_) (fun cdv A outer s H vs Q E hr h => ?_)
  · obtain ⟨i, lo, hi, rfl, _⟩ := h
    rfl
  · obtain ⟨i, lo, hi, rfl, hx, q⟩ := h
    refine ⟨_, PSs.nox (pss_one (ps_ret (pe_and (pc (ok_isIntX T) hr (pa_cons (pv 0) pa_nil)) (pe_one (pe_chain op_le op_le (pv 1) (pv 0) (pv 2)))))), ?_⟩
    exact ⟨_, rfl, i, rfl, hx, false, rfl, iteF q⟩
theorem BadN.int {H : Hp} {x : V} (h : BadN K H x) : NoInt K H x ∨ ∃ i, x = .int i ∧ (i < 0 ∨ 12 < i) := by
  rcases h with rfl | ⟨b, rfl⟩ | ⟨s, rfl⟩ | h | ⟨a, xs, rfl, h | h⟩
  · exact .inl (.inr ⟨_, .base .non, kit_ty (by decide +kernel)⟩)
  · exact .inl (.inl ⟨b, rfl⟩)
  · exact .inl (.inr ⟨_, .base (.str s), kit_ty (by decide +kernel)⟩)
  · exact .inr h
  · exact .inl (.inr ⟨_, .base (.tup h), kit_ty (by decide +kernel)⟩)
  · exact .inl (.inr ⟨_, .base (.lst h), kit_ty (by decide +kernel)⟩)
def spUnmetX (K : PySem.W.Frag) : Sp := fun vs H Q E => ∃ (x : V) (a : Addr) (n : V), vs = [x, .ref a, n] ∧ (NoOver K H x a E ∨ ∃ z c L, x = .str z ∧ isAl z ∧ BagAt K H a c L ∧ (∀ p ∈ L, over z p.1 ∧ p.1.length ≤ 1000) ∧ L.length ≤ 1000000 ∧ BadN K H n ∧ ∀ H', Same H H' → E (.ref (He.ga K "NoNumber")) none H')
theorem okX_unmet (T : Top K mg) : OkX P w K mg base 5 "unmet" ["alphabet", "bag", "letters"] (spUnmetX K) := by
  obtain ⟨fd, F⟩ := fn_unmet T
  obtain ⟨tk, hL⟩ := i_MOST_LETTERS_starts T
  obtain ⟨x1, x2, x3, x4⟩ := e_NoNumber T
  refine ⟨⟨fd, ?_, F.bindsN fun _ _ _ _ _ _ us hl => match us, hl with | [_, _, _], _ => rfl⟩, g_unmet T, F.kp⟩
  refine F.ok sc_unmet (fun vs H Q E h => ?_) (fun cdv A outer s H vs Q E hr h => ?_)
  · obtain ⟨x, a, n, rfl, _⟩ := h
    rfl
  · obtain ⟨x, a, n, rfl, h⟩ := h
    have hr2 : Room 2 _ := hr.mono (by decide)
    refine ⟨_, pss_cons (ps_expr (pe_alt (pcX (takes_of rfl rfl rfl rfl) (okX_ckov T) hr (pa_cons (pv 0) (pa_cons (pv 1) pa_nil))) (pc (ok_ckov T) hr2 (pa_cons (pv 0) (pa_cons (pv 1) pa_nil)))))
      (pss_cons (ps_if (pt_not (pt_val (pe_alt (pc (ok_fromToX T) hr2 (pa_cons (pv 2) (pa_cons pe_int (pa_cons (pe_glob (v := .int 12) rfl hL ⟨_, rfl⟩) pa_nil)))) (pc (ok_is_from_to T) hr2 (pa_cons (pv 2) (pa_cons pe_int (pa_cons (pe_glob (v := .int 12) rfl hL ⟨_, rfl⟩) pa_nil)))))))
        (pss_one (ps_raise rfl (takes_of rfl rfl rfl rfl) (pmk_own0 PySem.F.excBase_ValueError x1 (g_NoNumber T) x2 (raises_own x3 x4) rfl))) pss_nil)
      pss_never), ?_⟩
    rcases h with h | ⟨z, c, L, rfl, hz, hb, hw, hl, hn, q⟩
    · exact .inl ⟨_, rfl, _, rfl, x, a, rfl, h⟩
    · refine .inr ⟨_, rfl, _, rfl, a, c, L, z, rfl, hb, hz, hw, hl, fun H' s' => ?_⟩
      rcases (hn.same s').int with h | ⟨i, rfl, h⟩
      · exact .inl ⟨_, rfl, _, _, _, rfl, h, false, rfl, iteT (q H' s')⟩
      · refine .inr ⟨_, rfl, i, 0, 12, rfl, ?_⟩
        rw [show (decide ((0 : Int) ≤ i) && decide (i ≤ 12)) = false by
          rcases h with h | h
          · rw [decide_eq_false (show ¬ (0 : Int) ≤ i by omega)]; rfl
          · rw [decide_eq_false (show ¬ i ≤ (12 : Int) by omega), Bool.and_false]]
        exact ⟨false, rfl, iteT (q H' s')⟩
end
end Fp

set_option Elab.async false
set_option linter.all false
set_option maxRecDepth 100000
set_option maxHeartbeats 4000000
/-! set(xs) of a list of texts, sorted(..) of such a set -/
namespace L2
open PySem PySem.Spec PyProof.Rows
def txtOf (e : Int × Value) : Str := match e.2 with
  | .str k _ => k
  | _ => Str.empty
def TxtE (w : World) (e : Int × Value) : Prop := ∃ k tk, e.2 = Value.str k tk ∧ e.1 = hashStr w k
/-- a set's payload: the texts of S, n of them; it can be walked -/
structure Pay (w : World) (es : Array (Int × Value)) (t : SetTable) (S : Str → Bool) (n : Nat) : Prop where
  good : ∀ e ∈ es.toList, TxtE w e
  nd : (es.toList.map txtOf).Nodup
  mem : ∀ k, S k = true ↔ k ∈ es.toList.map txtOf
  few : es.size < scanBound
  fit : t.fits es.size = true
  num : es.size = n
  ris : Ris t.place.toList
  led : w.params.followText "set-order" = true ∨ t.led = true
def TxtSet (w : World) (h : Heap) (a : Addr) (S : Str → Bool) (n : Nat) : Prop :=
  ∃ o es ep t, h.get? a = some o ∧ o.ExactSet ∧ o.data = .set es ep t ∧ Pay w es t S n
theorem TxtSet.at {w : World} {h h' : Heap} {a : Addr} {S : Str → Bool} {n : Nat} (R : TxtSet w h a S n) (k : ∀ o, h.get? a = some o → h'.get? a = some o) : TxtSet w h' a S n := by
  obtain ⟨o, es, ep, t, e, r⟩ := R
  exact ⟨o, es, ep, t, k o e, r⟩
theorem TxtSet.congr {w : World} {h : Heap} {a : Addr} {S S' : Str → Bool} {n : Nat} (R : TxtSet w h a S n) (e : ∀ k, S' k = S k) : TxtSet w h a S' n := by
  rw [show S' = S from funext e]
  exact R
section
variable {P : Program} {w : World}
theorem txt_is {e : Int × Value} (g : TxtE w e) (k : Str) : (strKind P w).is k e.2 = true ↔ txtOf e = k := by
  obtain ⟨k0, tk, h1, _⟩ := g
  unfold txtOf
  rw [h1]
  constructor
  · intro z
    exact ((strKind P w).inj (.str k0 tk) k k0 z (strKind_is P w k0 tk)).symm
  · intro z
    have z : k0 = k := z
    rw [← z]
    exact strKind_is P w k0 tk
theorem txt_elems {l : List (Int × Value)} (g : ∀ e ∈ l, TxtE w e) : ElemsOf (strKind P w) l := fun e he => by
  obtain ⟨k, tk, h1, h2⟩ := g e he
  exact ⟨⟨k, by rw [h1]; exact strKind_is P w k tk, h2⟩, by rw [h1] <;> rfl⟩
theorem txt_mem {l : List (Int × Value)} (g : ∀ e ∈ l, TxtE w e) (k : Str) : k ∈ l.map txtOf ↔ ∃ e ∈ l, (strKind P w).is k e.2 = true := by
  rw [List.mem_map]
  exact ⟨fun ⟨e, he, q⟩ => ⟨e, he, (txt_is (g e he) k).2 q⟩, fun ⟨e, he, q⟩ => ⟨e, he, (txt_is (g e he) k).1 q⟩⟩
end
section
variable {P : Program} {w : World} {A : Around} {E : Value → Shared → Prop} {s : Shared} {a : Addr} {S : Str → Bool} {n : Nat}
theorem txt_store {h : Heap} {o : Obj} {es es' : Array (Int × Value)} {ep : Nat} {t t' : SetTable} (ho : h.get? a = some o) (hd : o.data = .set es ep t) : (h.update a (Obj.putSet es' t')).get? a = some { o with data := .set es' (ep + 1) t' } := store_at ho hd
theorem txt_add_end {g : Bool → Sem Unit} (hg : ∀ (b : Bool) (s₁ : Shared) (Q' : Unit → Shared → Prop), Q' () s₁ → wpAny (model P w) A (g b) Q' E s₁)
    {o : Obj} {es : Array (Int × Value)} {ep : Nat} {t : SetTable} (ho : s.heap.get? a = some o) (hex : o.ExactSet) (hd : o.data = .set es ep t)
    {es1 : Array (Int × Value)} {t2 : SetTable} {S' : Str → Bool} {m : Nat} (pay : Pay w es1 t2 S' m) {wasDummy : Bool} {R : Option Bool → Shared → Prop}
    (hR : ∀ h', Heap.SameBut a s.heap h' → TxtSet w h' a S' m → R (some true) { s with heap := h' }) :
    wpAny (model P w) A (do
        storeSet a es1 t2
        if (!wasDummy && t2.tooFull) = true then do
            g (relayAll t2 es1 (SetTable.grown es1.size)).2.2
            storeSet a (relayAll t2 es1 (SetTable.grown es1.size)).1 (relayAll t2 es1 (SetTable.grown es1.size)).2.1
            pure (some true)
          else pure (some true)) R E s := by
  refine wpAny_bind (wpAny_storeSet_of ho hd ?_ (fits_of_scanBound pay.few))
  have o1 := txt_store (es' := es1) (t' := t2) ho hd
  have b1 := Heap.SameBut.update s.heap a (Obj.putSet es1 t2)
  split
  · have pm := relayAll_perm t2 es1 (SetTable.grown es1.size)
    have f3 := relayAll_fits t2 es1 (SetTable.grown es1.size)
    have r3 := relayAll_ris t2 es1 (SetTable.grown es1.size)
    have l3 := relayAll_led t2 es1 (SetTable.grown es1.size)
    generalize relayAll t2 es1 (SetTable.grown es1.size) = Z at pm f3 r3 l3 ⊢
    obtain ⟨es2, t3, gave⟩ := Z
    dsimp only at pm f3 r3 l3 ⊢
    have sz : es2.size = es1.size := by rw [← Array.length_toList, pm.length_eq, Array.length_toList]
    refine wpAny_bind (hg _ _ _ ?_)
    refine wpAny_bind (wpAny_storeSet_of o1 rfl ?_ (fits_of_scanBound (by rw [sz]; exact pay.few)))
    have o2 := txt_store (es' := es2) (t' := t3) o1 rfl
    refine wpAny_pure (hR _ (b1.trans (Heap.SameBut.update _ a _)) ⟨_, es2, _, t3, o2, hex, rfl, ?_⟩)
    exact ⟨fun e he => pay.good e (pm.mem_iff.mp he), (pm.map txtOf).nodup_iff.mpr pay.nd, fun k => (pay.mem k).trans (pm.map txtOf).mem_iff.symm, by rw [sz]; exact pay.few, f3, by rw [sz]; exact pay.num, r3, pay.led.imp id fun z => by rw [l3]; exact z⟩
  · exact wpAny_pure (hR _ b1 ⟨_, es1, _, t2, o1, hex, rfl, pay⟩)
theorem txt_add {k : Str} {tk : Tok} {Q : Bool → Shared → Prop} (R : TxtSet w s.heap a S n) (room : n + 1 < scanBound)
    (hQ : ∀ h', Heap.SameBut a s.heap h' → TxtSet w h' a (fun j => S j || decide (j = k)) (if S k = true then n else n + 1) → Q (!S k) { s with heap := h' }) :
    wpAny (model P w) A (setAddHashed a (.str k tk) ((strKind P w).hash k)) Q E s := by
  obtain ⟨o, es, ep, t, ho, hex, hd, pay⟩ := R
  have hkey : (strKind P w).is k (.str k tk) = true := strKind_is P w k tk
  have hsc : (Value.str k tk).scannable = true := rfl
  have hel : ElemsOf (strKind P w) es.toList := txt_elems pay.good
  unfold setAddHashed setAddHashedIn
  refine wpAny_holding (wpAny_bind (wpAny_setState_of ho hd pay.fit ?_))
  dsimp only
  rw [byScan_of hsc pay.few hel]
  simp only [↓reduceIte]
  unfold setAddByScan
  refine wpAny_bind ?_
  refine wpAny_bind (wpAny_rule ?_)
  refine wpAny_bind (wpAny_setScan_of hkey ho hd pay.fit hel ?_)
  cases hfi : List.findIdx? (fun e => (strKind P w).is k e.2) es.toList with
  | some j =>
    dsimp only
    obtain ⟨hj, pj, _⟩ := List.findIdx?_eq_some_iff_getElem.mp hfi
    have hSk : S k = true := (pay.mem k).2 ((txt_mem (P := P) (w := w) pay.good k).2 ⟨es.toList[j], List.getElem_mem hj, pj⟩)
    refine wpAny_pure (wpAny_pure ?_)
    have q := hQ s.heap (Heap.SameBut.refl a s.heap) ⟨o, es, ep, t, ho, hex, hd, ⟨pay.good, pay.nd, fun i => by
      rw [Bool.or_eq_true, decide_eq_true_eq, ← pay.mem i]
      exact ⟨fun z => z.elim id (fun e => e ▸ hSk), .inl⟩, pay.few, pay.fit, by rw [if_pos hSk]; exact pay.num, pay.ris, pay.led⟩⟩
    rw [hSk] at q
    exact q
  | none =>
    dsimp only
    have hnk : k ∉ es.toList.map txtOf := fun z => by
      obtain ⟨e, he, q⟩ := (txt_mem (P := P) (w := w) pay.good k).1 z
      have c := List.findIdx?_eq_none_iff.mp hfi e he
      rw [q] at c
      cases c
    have hSk : S k = false := by
      cases q : S k with
      | false => rfl
      | true => exact absurd ((pay.mem k).1 q) hnk
    have hgw : ∀ (b : Bool) {s₁ : Shared} {Q' : Unit → Shared → Prop}, Q' () s₁ → wpAny (model P w) A (match b with | true => rule "set.scan.the-table-gave-way" | false => pure ()) Q' E s₁ :=
      fun b s₁ Q' q => by cases b <;> first | exact wpAny_pure q | exact wpAny_rule q
    have pm := layNew_perm t es ((strKind P w).hash k) (.str k tk)
    have f1 := layNew_fits t es ((strKind P w).hash k) (.str k tk)
    have r1 := layNew_ris t es ((strKind P w).hash k) (.str k tk) pay.ris
    have l1 := layNew_led t es ((strKind P w).hash k) (.str k tk)
    generalize layNew t es ((strKind P w).hash k) (.str k tk) = Z at pm f1 r1 l1 ⊢
    obtain ⟨es1, t1, wasDummy, gave⟩ := Z
    dsimp only at pm f1 r1 l1 ⊢
    rw [Array.toList_push] at pm
    have pc : es1.toList.Perm (((strKind P w).hash k, Value.str k tk) :: es.toList) := pm.trans (List.perm_append_singleton _ _)
    have pk : (es1.toList.map txtOf).Perm (k :: es.toList.map txtOf) := pc.map txtOf
    have sz : es1.size = n + 1 := by rw [← Array.length_toList, pc.length_eq, List.length_cons, Array.length_toList, pay.num]
    have np : ∀ t2 : SetTable, t2.fits es1.size = true → Ris t2.place.toList → (w.params.followText "set-order" = true ∨ t2.led = true) → Pay w es1 t2 (fun j => S j || decide (j = k)) (n + 1) := fun t2 c1 c2 c3 =>
      ⟨fun e he => by
        rcases List.mem_cons.mp (pc.mem_iff.mp he) with z | z
        · rw [z]
          exact ⟨k, tk, rfl, rfl⟩
        · exact pay.good e z, pk.nodup_iff.mpr (List.nodup_cons.mpr ⟨hnk, pay.nd⟩), fun i => by
        rw [Bool.or_eq_true, decide_eq_true_eq, pay.mem i, pk.mem_iff, List.mem_cons]
        exact Or.comm, by rw [sz]; exact room, c1, sz, c2, c3⟩
    have hled : w.params.followText "set-order" = true ∨ t1.led = true := pay.led.imp id fun z => by rw [l1]; exact z
    have fin : ∀ h', Heap.SameBut a s.heap h' → TxtSet w h' a (fun j => S j || decide (j = k)) (n + 1) → Q true { s with heap := h' } := fun h' sb r => by
      have q := hQ h' sb
      rw [hSk] at q
      exact q r
    refine wpAny_bind (hgw _ ?_)
    split
    · refine wpAny_bind ?_
      rw [hashByValue_scannable 8 hsc]
      refine wpAny_pure ?_
      refine txt_add_end ?_ ho hex hd (np _ ?_ ?_ ?_) ?_
      · intro b s₁ Q' q; cases b <;> first | exact wpAny_pure q | exact wpAny_rule q
      · first | (split <;> first | exact f1 | exact SetTable.fits_plain_off f1) | exact f1
      · first | (split <;> exact r1) | exact r1
      · first | (split <;> exact hled) | exact hled
      · intro h' sb r; dsimp only; exact wpAny_pure (fin h' sb r)
    · refine wpAny_bind (wpAny_pure ?_)
      simp only [↓reduceIte]
      refine txt_add_end ?_ ho hex hd (np _ f1 r1 hled) ?_
      · intro b s₁ Q' q; cases b <;> first | exact wpAny_pure q | exact wpAny_rule q
      · intro h' sb r; dsimp only; exact wpAny_pure (fin h' sb r)
theorem txt_fresh {h : Heap} {xs : List Str} (ho : h.get? a = some { cls := .type "set", dict := none, data := .set #[] 0 (.fresh 0 0 (!w.params.followText "set-order")) }) : TxtSet w h a (fun j => decide (j ∈ xs.take 0)) 0 :=
  ⟨_, #[], 0, _, ho, ⟨rfl, rfl, rfl⟩, rfl, (fun e he => by simp at he), (by simp), (fun k => by simp), (by decide), (by rfl), rfl, List.Pairwise.nil, by
    show _ ∨ (!w.params.followText "set-order") = true
    cases w.params.followText "set-order"
    · exact .inr rfl
    · exact .inl rfl⟩
/-- the texts walked and added, one by one -/
theorem txt_loop {I : Addr} {fp wr : List Addr} {G : Array GenState → Array GenState → Prop} {N : Nat} {Pv : Nat → Value → Prop} {St : Nat → Shared → Prop} {R : Result → Shared → Prop}
    (W : WalksS P w A.in1 I fp wr G N Pv St) (a : Addr) (hSf : a ∉ fp) (xs : List Str) (hn : N = xs.length) (hb : xs.length + 1 < scanBound) (hval : ∀ i v, Pv i v → ∃ k t, xs[i]? = some k ∧ v = .str k t) :
    ∀ (k i : Nat) (s : Shared), N - i = k → i ≤ N → St i s → (∃ c, c ≤ i ∧ TxtSet w s.heap a (fun j => decide (j ∈ xs.take i)) c) →
      (∀ s' c, Moved (a :: wr) G s s' → c ≤ N → TxtSet w s'.heap a (fun j => decide (j ∈ xs)) c → R (.ok (.ret .none)) s') →
      codeAny (model P w) A (.builtin "set.update.loop" ⟨[.ref a, .ref I], []⟩) R s := by
  have hSw : a ∉ wr := fun h => hSf (W.sub _ h)
  have hsub : ∀ b ∈ wr, b ∈ a :: wr := fun b hb => List.mem_cons_of_mem _ hb
  intro k
  induction k with
  | zero =>
    intro i s hk' hi hst ⟨c, hc, hS⟩ hR
    obtain rfl : i = N := by omega
    refine codeAny_builtin F.entry_set_update_loop ?_
    rw [Around.under_plainId F.plain_set_update_loop _]
    show wpAny _ A.in1 (pyNext (.ref I) >>= _) _ _ s
    refine wpAny_bind (W.done s _ _ hst fun s' hm => ?_)
    show wpAny _ A.in1 (ret Value.none) _ _ s'
    rw [show xs.take i = xs from List.take_of_length_le (by omega)] at hS
    exact wpAny_pure (hR s' c (hm.mono hsub) hc (hS.at fun o e => hm.heap a o hSw e))
  | succ k ih =>
    intro i s hk' hi hst ⟨c, hc, hS⟩ hR
    have hlt : i < N := by omega
    refine codeAny_builtin F.entry_set_update_loop ?_
    rw [Around.under_plainId F.plain_set_update_loop _]
    show wpAny _ A.in1 (pyNext (.ref I) >>= _) _ _ s
    refine wpAny_bind (W.item i s _ _ hlt hst fun v s' hP hst' hm => ?_)
    obtain ⟨z, t, hz, rfl⟩ := hval i v hP
    have hS' : TxtSet w s'.heap a (fun j => decide (j ∈ xs.take i)) c := hS.at fun o e => hm.heap a o hSw e
    show wpAny _ A.in1 (holding [Value.str z t] (setAdd a (.str z t)) >>= _) _ _ s'
    refine wpAny_bind (wpAny_holding ?_)
    unfold setAdd
    refine wpAny_holding ?_
    refine wpAny_bind ((strKind P w).pyHash (k := z) (strKind_is _ _ _ _) ?_)
    refine txt_add (s := { s' with toks := s'.toks + 1 }) hS' (by omega) fun h' sb hS2 => ?_
    have hS3 : TxtSet w h' a (fun j => decide (j ∈ xs.take (i + 1))) (if decide (z ∈ xs.take i) = true then c else c + 1) := hS2.congr fun j => by
      rw [List.take_add_one, hz]
      simp [List.mem_append]
    have hc3 : (if decide (z ∈ xs.take i) = true then c else c + 1) ≤ i + 1 := by
      split <;> omega
    refine wpAny_pure ⟨plainId_quiet F.plain_set_update_loop _, ih (i + 1) _ (by omega) hlt (W.frame _ s' _ _ hst' (Nat.le_succ _) fun b hb o e => ?_) ⟨_, hc3, hS3⟩ fun s'' c2 hm'' hc'' hS'' => ?_⟩
    · rw [sb.2 b (fun h : b = a => hSf (by rw [← h]; exact hb))]
      exact e
    · refine hR s'' c2 (Moved.trans W.gtrans ((hm.mono hsub).then_heap (Nat.le_succ _) fun b o hb e => ?_) hm'') hc'' hS''
      rw [sb.2 b (fun h : b = a => hb (by rw [h]; exact List.mem_cons_self))]
      exact e
theorem txt_at : ∀ {us : List Value} {xs : List Str}, StrsAre us xs → ∀ (i : Nat) (v : Value), us[i]? = some v → ∃ k t, xs[i]? = some k ∧ v = .str k t
  | _, _, .nil, i, v, h => by simp at h
  | _, _, .cons n t _, 0, v, h => ⟨n, t, rfl, (Option.some.inj h).symm⟩
  | _, _, .cons n t hr, i + 1, v, h => txt_at hr i v h
/-- set(xs), xs a list of texts -/
theorem call_set_txts {l : Addr} {items : Array Value} (xs : List Str) {Q : Value → Shared → Prop} (hh : A.handled = none) (hl : s.heap.IsList l items) (hit : StrsAre items.toList xs) (hb : xs.length + 1 < scanBound)
    (h : ∀ (h' : Heap) (tk c : Nat), TxtSet w h' s.heap.objs.size (fun j => decide (j ∈ xs)) c → c ≤ xs.length → (∀ b o, s.heap.get? b = some o → h'.get? b = some o) → Q (.ref s.heap.objs.size) { s with heap := h', toks := tk }) :
    wpAny (model P w) A (call (.type "set") [.ref l]) Q E s := by
  have hisz : items.size = xs.length := by rw [← StrsAre.len_eq hit, Array.length_toList]
  obtain ⟨c, tl, hmro⟩ := F.called_set.mro
  have hmade := F.called_set.made
  have hsub := F.called_set.sub
  refine wpAny_call (codeAny_of_tree ?_)
  show wpAny _ _ (callAny (.type "set") _) _ _ _
  refine wpAny_pure ⟨Code.quiet_builtin _ (by decide +kernel), codeAny_builtin F.entry_type_call ?_⟩
  rw [Around.under_plain (weight_type_call_type "set" [.ref l] []) rfl]
  have h1 := F.called_set.notType
  have h2 := F.called_set.canCreate
  have hct := F.typeCall_set_1 (.ref l)
  repeat (any_goals (first | assumption | wp_step))
  refine codeAny_mono (code_set_led1 (.ref l) (E := E) (Q₁ := fun obj s₁ => obj = .ref s.heap.objs.size ∧ s₁ = { s with heap := s.heap.push { cls := .type "set", dict := none, data := .set #[] 0 (.fresh 0 0 (!w.params.followText "set-order")) } }) ⟨rfl, rfl⟩) fun r s₁ hr => ?_
  cases r with
  | error e => exact hr
  | ok fl =>
    cases fl with
    | ret obj =>
      obtain ⟨rfl, rfl⟩ := hr
      have hS : (s.heap.push { cls := .type "set", dict := none, data := .set #[] 0 (.fresh 0 0 (!w.params.followText "set-order")) }).get? s.heap.objs.size = some { cls := .type "set", dict := none, data := .set #[] 0 (.fresh 0 0 (!w.params.followText "set-order")) } := Heap.get?_push_size _ rfl
      have hT : Shared.TypeIs { s with heap := s.heap.push { cls := .type "set", dict := none, data := .set #[] 0 (.fresh 0 0 (!w.params.followText "set-order")) } } (.ref s.heap.objs.size) "set" := ⟨_, hS, rfl⟩
      have hli := F.called_set.init.lookup
      have hbi := F.called_set.init.bind (.ref s.heap.objs.size)
      repeat (any_goals (first | assumption | wp_step))
      refine codeAny_mono (codeAny_call_builtin (R := wants (fun r s₂ => r = .none ∧ ∃ h' tk c, s₂ = { s with heap := h', toks := tk } ∧ TxtSet w h' s.heap.objs.size (fun j => decide (j ∈ xs)) c ∧ c ≤ xs.length ∧
          (∀ b o, s.heap.get? b = some o → h'.get? b = some o)) E) F.called_set.init.plain F.entry_set_init (check_set_init_1 hT ?_)) fun r₂ s₂ hr₂ => ?_
      · obtain ⟨ol, hol, hcl, nl, hdl⟩ := hl
        obtain ⟨ocls, odict, odata, oslots⟩ := ol
        simp only at hcl hdl
        subst hcl
        subst hdl
        have hol' : (s.heap.push { cls := .type "set", dict := none, data := .set #[] 0 (.fresh 0 0 (!w.params.followText "set-order")) }).get? l = some { cls := .type "list", dict := odict, data := .seq items nl, slots := oslots } := Heap.get?_push_of_some _ hol
        have hsls := F.sub_list_set
        have hslf := F.sub_list_frozenset
        have hne : (Value.type "list" == Value.type "dict") = false := by decide
        have hl1 : (s.heap.push { cls := .type "set", dict := none, data := .set #[] 0 (.fresh 0 0 (!w.params.followText "set-order")) }).IsList l items := ⟨_, hol', rfl, nl, rfl⟩
        unfold Builtin.«set.__init__» noKeywords Builtin.Frozenset.updateFrom
        generalize hPI : pyIter = PI
        wp_walk
        subst hPI
        refine wpAny_pyIter_list hl1 ?_
        refine wpAny_bind (wpAny_runValue ?_)
        have hlS : l < s.heap.objs.size := Heap.lt_size hol
        have hh3 : A.in1.in1.in1.handled = none := by simp [hh]
        have hz1 : (s.heap.push { cls := .type "set", dict := none, data := .set #[] 0 (.fresh 0 0 (!w.params.followText "set-order")) }).objs.size = s.heap.objs.size + 1 := Heap.size_push ..
        have hneI : l ≠ (s.heap.push { cls := .type "set", dict := none, data := .set #[] 0 (.fresh 0 0 (!w.params.followText "set-order")) }).objs.size := by
          rw [Heap.size_push]
          exact Nat.ne_of_lt (Nat.lt_succ_of_lt hlS)
        have hSf : s.heap.objs.size ∉ [(s.heap.push { cls := .type "set", dict := none, data := .set #[] 0 (.fresh 0 0 (!w.params.followText "set-order")) }).objs.size, l] := by
          rw [Heap.size_push]
          simp only [List.mem_cons, List.not_mem_nil, or_false, not_or]
          exact ⟨Nat.ne_of_lt (Nat.lt_succ_self _), Nat.ne_of_gt hlS⟩
        have hval : ∀ (i : Nat) (v : Value), items[i]? = some v → ∃ k t, xs[i]? = some k ∧ v = .str k t := fun i v hv => by
          have hi : i < xs.length := by rw [← hisz]; exact (Array.getElem?_eq_some_iff.mp hv).1
          exact txt_at hit i v (by rw [Array.getElem?_toList]; exact hv)
        refine txt_loop ((Walks.list hh3 _ l hneI items).toS) s.heap.objs.size hSf xs hisz hb hval (items.size - 0) 0 _ (by omega) (Nat.zero_le _)
          ⟨⟨_, Heap.get?_push_size _ rfl, rfl, rfl⟩, (hl1.push _)⟩ ?hS0 ?hR
        case hS0 =>
          refine ⟨0, Nat.le_refl 0, txt_fresh ?_⟩
          exact Heap.get?_push_of_some _ hS
        case hR =>
          intro s' c' hm hc' hS'
          obtain ⟨h', g2, d', tk', os'⟩ := s'
          have eg : g2 = s.gens := hm.gens
          have ed : d' = s.drawn := hm.drawn
          have eo : os' = s.os := hm.os
          subst eg ed eo
          show wpAny _ _ _ _ _ _
          refine wpAny_pure ?_
          show wpAny _ _ (ret Value.none) _ _ _
          rw [hisz] at hc'
          refine wpAny_pure ⟨rfl, h', tk', c', rfl, hS', hc', fun b o e => ?_⟩
          have hb0 : b < s.heap.objs.size := Heap.lt_size e
          refine hm.heap b o ?_ (Heap.get?_push_of_some _ (Heap.get?_push_of_some _ e))
          rw [Heap.size_push]
          simp only [List.mem_cons, List.not_mem_nil, or_false, not_or]
          exact ⟨Nat.ne_of_lt hb0, Nat.ne_of_lt (Nat.lt_succ_of_lt hb0)⟩
      · cases r₂ with
        | error e => exact hr₂
        | ok fl₂ =>
          cases fl₂ with
          | ret r =>
            obtain ⟨rfl, h', tk, c', rfl, hS', hc', hk'⟩ := hr₂
            repeat (any_goals (first | assumption | wp_step))
            exact h _ _ _ hS' hc' hk'
          | _ => exact hr₂.elim
    | _ => exact hr.elim
/-! ### sorted -/
theorem txts_are : ∀ (l : List Value), (∀ v ∈ l, ∃ k tk, v = Value.str k tk) → StrsAre l (l.map fun v => txtOf (0, v))
  | [], _ => .nil
  | v :: l, h => by
    obtain ⟨k, tk, rfl⟩ := h v List.mem_cons_self
    exact .cons k tk (txts_are l fun u hu => h u (List.mem_cons_of_mem _ hu))
theorem sorted_txts {Q : Value → Shared → Prop} (R : TxtSet w s.heap a S n) (hh : A.handled = none) (h64 : n < 64)
    (hQ : ∀ s' p (out : Array Value) (c : Nat) (ys : List Str), (∀ b o, s.heap.get? b = some o → s'.heap.get? b = some o) → s'.gens = s.gens → s'.os = s.os → s.heap.objs.size ≤ p →
      s'.heap.get? p = some (seqObj "list" out c) → StrsAre out.toList ys → sortedS ys = true → ys.Nodup → (∀ k, k ∈ ys ↔ S k = true) → ys.length = n → Q (.ref p) s') :
    wpAny (model P w) A (call (.builtin "sorted") [.ref a]) Q E s := by
  obtain ⟨o, es, ep, t, ho, hex, hd, pay⟩ := R
  refine Calls.call_function_entry kind_sorted plain_sorted entry_sorted (args_sorted1 _) ?_
  unfold Builtin.«sorted»
  refine wpAny_bind (m := checkCount "sorted" 1 1 _) (wpAny_pure ?_)
  refine wpAny_bind (collect_set (A := A.in1) hh ⟨o, ho, hex.1, hd⟩ pay.fit pay.few pay.ris pay.led fun s1 vs k1 hz g1 o1 pm => ?_)
  have hvl : vs.length = n := by rw [pm.length_eq, List.length_map, Array.length_toList]; exact pay.num
  have hI := txts_are vs fun v hv => by
    obtain ⟨e, he, q⟩ := List.mem_map.mp (pm.mem_iff.mp hv)
    obtain ⟨k, tk, h1, _⟩ := pay.good e he
    exact ⟨k, tk, by rw [← q]; exact h1⟩
  have pk : (vs.map fun v => txtOf (0, v)).Perm (es.toList.map txtOf) := by
    have q := pm.map fun v => txtOf (0, v)
    rw [List.map_map] at q
    exact q
  refine wpAny_bind (wpAny_newList ?_ (by rw [hvl, sizeLine_eq]; omega))
  have hoL : (s1.heap.push (seqObj "list" vs.toArray 0)).get? s1.heap.objs.size = some (seqObj "list" vs.toArray 0) := Heap.get?_push_size _ rfl
  refine wpAny_bind (wpAny_holding (wpAny_call_entry slot_list_sort ⟨_, hoL, rfl⟩ entry_list_sort (list_sort_treeK strKind_oneLt hoL hI.keysOf (fun v₁ v₂ rest e => keyKind_strs (by rw [← e]; exact hI)) (by rw [hvl]; exact h64) fun st' a1 a2 => ⟨_, rfl, ?_⟩) (args_list_sort _)))
  obtain ⟨ys, b1, b2, b3⟩ := sorted_out_str hI a1 a2
  obtain ⟨c, hc⟩ := sortedHeap_at (vs := vs) (out := (arrOf st').map (·.2)) hoL
  have pn : ys.Perm (es.toList.map txtOf) := b2.trans pk
  refine wpAny_pure ⟨_, rfl, hQ _ s1.heap.objs.size _ c ys (fun b u e => ?_) g1 o1 hz hc b1 b3 (pn.nodup_iff.mpr pay.nd) (fun k => by rw [pn.mem_iff, ← pay.mem k]) ?_⟩
  · have q := k1 b u e
    have hlt := Heap.lt_size q
    show (sortedHeap (s1.heap.push (seqObj "list" vs.toArray 0)) s1.heap.objs.size vs ((arrOf st').map (·.2))).get? b = some u
    rw [sortedHeap_old (Nat.ne_of_lt hlt) (by rw [size_push']; exact Nat.lt_succ_of_lt hlt)]
    exact Heap.get?_push_of_some _ q
  · rw [pn.length_eq, List.length_map, Array.length_toList]
    exact pay.num
end
/-! ### over the layer -/
def TxtO (w : World) (a : Addr) (S : Str → Bool) (n : Nat) : HO := .ext fun h => TxtSet w h a S n
section
variable {X : Cx}
theorem txtO_new {w : World} {P : Program} {H : Hp} {h : Heap} {a : Addr} {S : Str → Bool} {n : Nat} (R : TxtSet w h a S n) : ObjOk P w H h a (TxtO w a S n) := by
  have ⟨o, _, _, _, ho, _⟩ := R
  exact ⟨R, ⟨o, ho⟩, fun h1 h2 p k => TxtSet.at p k⟩
def rSetTx (K : PySem.W.Frag) (w : World) : List V → Hp → VK → Prop := fun xs H Q => ∃ (l : Addr) (ys : List Str), xs = [.ref l] ∧ SqL K H l (ys.map V.str) ∧ ys.length < 64 ∧ ∀ a c, H a = none → c ≤ ys.length → Q (.ref a) (upd H a (TxtO w a (fun j => decide (j ∈ ys)) c))
theorem cr_setTx (hc : X.calm = true) : CallR X (.type "set") (rSetTx X.K X.w) := by
  intro pins s σ H xs us Q I r h
  obtain ⟨l, ys, rfl, hl, hf, q⟩ := h
  rw [Vals.ref1 r]
  obtain ⟨its, rv, pl, hz⟩ := I.list hl
  have hn : H s.heap.objs.size = none := I.hok.fresh (Nat.le_refl _)
  refine call_set_txts (P := X.prog) (w := X.w) ys (I.ok.hd hc) pl.isList (by simpa using rv.strs) (by unfold scanBound; omega) fun h' tk c R hcl k => ?_
  exact ⟨.ref s.heap.objs.size, upd H s.heap.objs.size (TxtO X.w s.heap.objs.size _ c), I.laid (t' := tk) k (Nat.le_refl _) (txtO_new R), rfl, q _ c hn hcl⟩
def rSortedTx (w : World) : List V → Hp → VK → Prop := fun vs H Q => ∃ (a : Addr) (S : Str → Bool) (n : Nat), vs = [V.ref a] ∧ H a = some (TxtO w a S n) ∧ n < 64 ∧
  ∀ (ys : List Str) (p : Addr), sortedS ys = true → ys.Nodup → (∀ k, k ∈ ys ↔ S k = true) → ys.length = n → H p = none → Q (.ref p) (upd H p (.lst (ys.map V.str)))
theorem cr_sortedTx (hc : X.calm = true) : CallR X (.builtin "sorted") (rSortedTx X.w) := by
  intro pins s σ H vs us Q I r h
  obtain ⟨a, S, n, rfl, ha, h64, q⟩ := h
  have R : TxtSet X.w s.heap a S n := (I.hok a _ ha).1
  rw [Vals.ref1 r]
  refine sorted_txts R (I.ok.hd hc) h64 fun s' p out c ys k g o hp hg hi hs hnd hm hl => ?_
  have hlen : (ys.map V.str).length ≤ sizeLine := by rw [List.length_map, hl, sizeLine_eq]; omega
  have hn : H p = none := I.hok.fresh hp
  have J : Inv X pins σ (upd H p (.lst (ys.map V.str))) { s with heap := s'.heap, gens := s'.gens, drawn := s'.drawn, toks := s'.toks } :=
    I.call (ch := []) (Un.laid k hp hn) (I.hok.laid k hp ⟨hlen, out.toList, c, vals_of_strs hi, hg⟩) (by rw [g]; exact I.bare) (fun _ z => nomatch z)
  have e : s' = { s with heap := s'.heap, gens := s'.gens, drawn := s'.drawn, toks := s'.toks } := by
    cases s'
    cases s
    cases o
    rfl
  rw [e]
  exact ⟨.ref p, _, J, rfl, q ys p hs hnd hm hl hn⟩
end
end L2

set_option Elab.async false
set_option linter.all false
set_option maxRecDepth 100000
set_option maxHeartbeats 4000000
/-! set(x) of a text -/
namespace L2
open PySem PySem.Spec PyProof.Rows
section
variable {P : Program} {w : World} {A : Around} {E : Value → Shared → Prop} {s : Shared} {a : Addr} {S : Str → Bool} {n : Nat}
/-- the texts of one sign of a text -/
def signsOf (x : Str) : List Str := x.cps.toList.map fun c => ⟨#[c]⟩
theorem sign_at {x : Str} {i : Nat} {v : Value} (h : SignAt x i v) : ∃ k t, (signsOf x)[i]? = some k ∧ v = .str k t := by
  obtain ⟨c, u, e, rfl⟩ := h
  exact ⟨_, u, by unfold signsOf; rw [List.getElem?_map, Array.getElem?_toList, e]; rfl, rfl⟩
theorem signs_len (x : Str) : (signsOf x).length = x.cps.size := by unfold signsOf; simp
/-- set(x), x a text -/
theorem call_set_text {x : Str} {tx : Tok} {Q : Value → Shared → Prop} (hh : A.handled = none) (hb : (signsOf x).length + 1 < scanBound)
    (h : ∀ (h' : Heap) (tk c : Nat), TxtSet w h' s.heap.objs.size (fun j => decide (j ∈ signsOf x)) c → c ≤ (signsOf x).length → (∀ b o, s.heap.get? b = some o → h'.get? b = some o) → Q (.ref s.heap.objs.size) { s with heap := h', toks := tk }) :
    wpAny (model P w) A (call (.type "set") [.str x tx]) Q E s := by
  obtain ⟨c, tl, hmro⟩ := F.called_set.mro
  have hmade := F.called_set.made
  have hsub := F.called_set.sub
  refine wpAny_call (codeAny_of_tree ?_)
  show wpAny _ _ (callAny (.type "set") _) _ _ _
  refine wpAny_pure ⟨Code.quiet_builtin _ (by decide +kernel), codeAny_builtin F.entry_type_call ?_⟩
  rw [Around.under_plain (weight_type_call_type "set" [.str x tx] []) rfl]
  have h1 := F.called_set.notType
  have h2 := F.called_set.canCreate
  have hct := F.typeCall_set_1 (.str x tx)
  repeat (any_goals (first | assumption | wp_step))
  refine codeAny_mono (code_set_led1 (.str x tx) (E := E) (Q₁ := fun obj s₁ => obj = .ref s.heap.objs.size ∧ s₁ = { s with heap := s.heap.push { cls := .type "set", dict := none, data := .set #[] 0 (.fresh 0 0 (!w.params.followText "set-order")) } }) ⟨rfl, rfl⟩) fun r s₁ hr => ?_
  cases r with
  | error e => exact hr
  | ok fl =>
    cases fl with
    | ret obj =>
      obtain ⟨rfl, rfl⟩ := hr
      have hS : (s.heap.push { cls := .type "set", dict := none, data := .set #[] 0 (.fresh 0 0 (!w.params.followText "set-order")) }).get? s.heap.objs.size = some { cls := .type "set", dict := none, data := .set #[] 0 (.fresh 0 0 (!w.params.followText "set-order")) } := Heap.get?_push_size _ rfl
      have hT : Shared.TypeIs { s with heap := s.heap.push { cls := .type "set", dict := none, data := .set #[] 0 (.fresh 0 0 (!w.params.followText "set-order")) } } (.ref s.heap.objs.size) "set" := ⟨_, hS, rfl⟩
      have hli := F.called_set.init.lookup
      have hbi := F.called_set.init.bind (.ref s.heap.objs.size)
      repeat (any_goals (first | assumption | wp_step))
      refine codeAny_mono (codeAny_call_builtin (R := wants (fun r s₂ => r = .none ∧ ∃ h' tk c, s₂ = { s with heap := h', toks := tk } ∧ TxtSet w h' s.heap.objs.size (fun j => decide (j ∈ signsOf x)) c ∧ c ≤ (signsOf x).length ∧
          (∀ b o, s.heap.get? b = some o → h'.get? b = some o)) E) F.called_set.init.plain F.entry_set_init (check_set_init_1 hT ?_)) fun r₂ s₂ hr₂ => ?_
      · have hsls := F.sub_str_set
        have hslf := F.sub_str_frozenset
        have hne : (Value.type "str" == Value.type "dict") = false := by decide
        unfold Builtin.«set.__init__» noKeywords Builtin.Frozenset.updateFrom
        generalize hPI : pyIter = PI
        wp_walk
        subst hPI
        refine wpAny_pyIter_str fun oI St hW hSt => ?_
        refine wpAny_bind (wpAny_runValue ?_)
        have hh3 : A.in1.in1.in1.handled = none := by simp [hh]
        have hSf : s.heap.objs.size ∉ [(s.heap.push { cls := .type "set", dict := none, data := .set #[] 0 (.fresh 0 0 (!w.params.followText "set-order")) }).objs.size] := by
          rw [Heap.size_push]
          simp only [List.mem_cons, List.not_mem_nil, or_false, not_or]
          exact Nat.ne_of_lt (Nat.lt_succ_self _)
        refine txt_loop (hW _ hh3).toS s.heap.objs.size hSf (signsOf x) (signs_len x).symm hb (fun i v hv => sign_at hv) (x.cps.size - 0) 0 _ (by omega) (Nat.zero_le _)
          hSt ?hS0 ?hR
        case hS0 =>
          refine ⟨0, Nat.le_refl 0, txt_fresh ?_⟩
          exact Heap.get?_push_of_some _ hS
        case hR =>
          intro s' c' hm hc' hS'
          obtain ⟨h', g2, d', tk', os'⟩ := s'
          have eg : g2 = s.gens := hm.gens
          have ed : d' = s.drawn := hm.drawn
          have eo : os' = s.os := hm.os
          subst eg ed eo
          show wpAny _ _ _ _ _ _
          refine wpAny_pure ?_
          show wpAny _ _ (ret Value.none) _ _ _
          rw [← signs_len x] at hc'
          refine wpAny_pure ⟨rfl, h', tk', c', rfl, hS', hc', fun b o e => ?_⟩
          have hb0 : b < s.heap.objs.size := Heap.lt_size e
          refine hm.heap b o ?_ (Heap.get?_push_of_some _ (Heap.get?_push_of_some _ e))
          rw [Heap.size_push]
          simp only [List.mem_cons, List.not_mem_nil, or_false, not_or]
          exact ⟨Nat.ne_of_lt hb0, Nat.ne_of_lt (Nat.lt_succ_of_lt hb0)⟩
      · cases r₂ with
        | error e => exact hr₂
        | ok fl₂ =>
          cases fl₂ with
          | ret r =>
            obtain ⟨rfl, h', tk, c', rfl, hS', hc', hk'⟩ := hr₂
            repeat (any_goals (first | assumption | wp_step))
            exact h _ _ _ hS' hc' hk'
          | _ => exact hr₂.elim
    | _ => exact hr.elim
end
section
variable {X : Cx}
def rSetT1 (w : World) : List V → Hp → VK → Prop := fun xs H Q => ∃ (x : Str), xs = [.str x] ∧ x.cps.size < 64 ∧ ∀ a c, H a = none → c ≤ x.cps.size → Q (.ref a) (upd H a (TxtO w a (fun j => decide (j ∈ signsOf x)) c))
theorem cr_setT1 (hc : X.calm = true) : CallR X (.type "set") (rSetT1 X.w) := by
  intro pins s σ H xs us Q I r h
  obtain ⟨x, rfl, hf, q⟩ := h
  obtain ⟨u, rfl, ru⟩ := r.one
  obtain ⟨t, rfl⟩ := ru
  have hn : H s.heap.objs.size = none := I.hok.fresh (Nat.le_refl _)
  refine call_set_text (P := X.prog) (w := X.w) (x := x) (I.ok.hd hc) (by rw [signs_len]; unfold scanBound; omega) fun h' tk c R hcl k => ?_
  exact ⟨.ref s.heap.objs.size, upd H s.heap.objs.size (TxtO X.w s.heap.objs.size _ c), I.laid (t' := tk) k (Nat.le_refl _) (txtO_new R), rfl, q _ c hn (by rw [← signs_len]; exact hcl)⟩
end
end L2

set_option Elab.async false
set_option linter.all false
set_option maxRecDepth 100000
set_option maxHeartbeats 4000000
namespace Fp
open PySem PySem.Spec PyProof.Rows L2
/-! ### odd things, drawn -/
theorem OddA.offT {K : PySem.W.Frag} {ca : Addr} {H H' : Hp} {h a : Addr} (o : OddA K H a) (x : TapeAt ca H h) (k : But h H H') (n : a ≠ h) : OddA K H' a := by
  obtain ⟨xs, hx⟩ := x.lst
  cases o with
  | tup e => exact .tup (k _ _ e n)
  | lst e => exact .lst (k _ _ e n)
  | dct e => exact .dct (k _ _ e n)
  | exc e => exact .exc ⟨k _ _ e.1 n, fun dd z => by
      obtain ⟨fs, g⟩ := e.2 dd z
      exact ⟨fs, k _ _ g (ne_of g hx (by intro y; cases y))⟩⟩
def tOdd (K : PySem.W.Frag) : TE := fun σ H Q => ∀ p H', Same H H' → H p = none → OddA K H' p → Q (.ref p) H'
section
variable {P : Program} {w : World} {K : PySem.W.Frag} {mg : Str → Option Value} {base : Heap}
def spIni (K : PySem.W.Frag) (f : Str) : Sp := fun vs H Q _ => ∃ (a C : Addr) (y : V), vs = [.ref a, y] ∧ OexC K C ∧ PySem.W.findIn K (.ref C) f = some none ∧ H a = some (exo a C none) ∧ ∀ dx, H dx = none → dx ≠ a → Q .non (upd (upd H dx (exd dx [(f, y)])) a (exo a C (some dx)))
theorem sc_BadBag : FnScope ["self", "part"] ["self", "part"] (defScope s_BadBag__init__) := ⟨rfl, rfl, rfl, by decide +kernel, rfl, by decide +kernel, by decide +kernel⟩
theorem ini_BadBag (T : Top K mg) : ∃ fd, FnOk P w K mg base CX0 1 (He.ma K (He.ga K "BadBag") "__init__") fd ["self", "part"] (spIni K "part") ∧ Binds K fd ["self", "part"] [] := by
  obtain ⟨fd, F⟩ := fn_BadBag__init__ T
  refine ⟨fd, ?_, F.bindsN fun _ _ _ _ _ _ us hl => match us, hl with | [_, _], _ => rfl⟩
  refine F.ok sc_BadBag (fun vs H Q E h => ?_) (fun cdv A outer s H vs Q E hr h => ?_)
  · obtain ⟨a, C, y, rfl, _⟩ := h
    rfl
  · obtain ⟨a, C, y, rfl, T1, hno, e, q⟩ := h
    refine ⟨_, PSs.nox (pss_one (ps_ost (pv 0) (pv 1))), ?_⟩
    exact ⟨_, rfl, _, rfl, a, C, rfl, T1, hno, .inl ⟨e, fun dx h1 h2 => q dx h1 h2⟩⟩
theorem same_ini {H : Hp} {a dx : Addr} {o u v : HO} (h1 : H a = none) (h2 : H dx = none) : Same H (upd (upd (upd H a o) dx u) a v) := fun b w e => by
  have n1 : b ≠ a := fun q => by rw [q, h1] at e; cases e
  have n2 : b ≠ dx := fun q => by rw [q, h2] at e; cases e
  rw [upd_ne n1, upd_ne n2, upd_ne n1]
  exact e
/-- BadBag("..") -/
theorem pe_bad {X : Cx} {e : Expr} {y : V} {p pos : Pos} (T : Top X.K X.mg) (hr : Room 2 X.A) (hg : Gl X "BadBag") (ha : PE X e (tC y))
    (he : starEach [e] X.env = (false, eval e X.env) :: starEach [] X.env := by rfl) (hpl : (backTo pos (starEach [] X.env)).any (·.1) = false := by rfl) : PE X (.Call (.Name "BadBag" p) [e] [] pos) (tOdd X.K) := by
  obtain ⟨fd, F, b⟩ := ini_BadBag (P := X.prog) (w := X.w) (base := X.base) T
  refine PE.weak (pe_oexV (xo_BadBag T) (xi_BadBag T) (xt_BadBag T) F hr b (fun _ _ _ _ _ _ _ z => z.elim) hg (g_BadBag T) (pa_cons ha pa_nil (hs := he)) (by decide) he hpl) fun σ H Q q => ?_
  refine ⟨by show 1 ≤ 1000; decide, fun a h1 => ⟨a, _, y, rfl, xo_BadBag T, xp_BadBag T, upd_same, fun dx h2 h3 => ⟨rfl, ?_⟩⟩⟩
  have h2' : H dx = none := by rw [upd_ne h3] at h2; exact h2
  exact q a _ (same_ini h1 h2') h1 (.exc (d := some dx) ⟨upd_same, fun dd z => by cases z; exact ⟨_, by rw [upd_ne h3, upd_same]⟩⟩)
theorem oddL {X : Cx} {es : List Expr} {t : TA} {xs : List V} {pos : Pos} (h : PE X (.List es pos) (tLst t)) (e : ∀ σ H Q, Q xs H → t σ H Q) (hl : xs.length ≤ 1000 := by decide) : PE X (.List es pos) (tOdd X.K) :=
  PE.weak h fun σ H Q q => e σ H _ ⟨by rw [sizeLine_eq]; omega, fun p np => q p _ (same_upd np) np (.lst upd_same)⟩
theorem oddT {X : Cx} {es : List Expr} {t : TA} {xs : List V} {pos : Pos} {x1 : Nat} (h : PE X (.Tuple es x1 pos) (tTup t)) (e : ∀ σ H Q, Q xs H → t σ H Q) (hl : xs.length ≤ 1000 := by decide) : PE X (.Tuple es x1 pos) (tOdd X.K) :=
  PE.weak h fun σ H Q q => e σ H _ ⟨by rw [sizeLine_eq]; omega, fun p np => q p _ (same_upd np) np (.tup upd_same)⟩
theorem odd0 {X : Cx} {e : Expr} (h : PE X e tDNewK) : PE X e (tOdd X.K) := PE.weak h fun σ H Q q => fun p np => q p _ (same_upd np) np (.dct upd_same)
def tBagN (K : PySem.W.Frag) : TE := fun σ H Q => ∀ p H', Same H H' → H p = none → BagAt K H' p 2 (canon []) → Q (.ref p) H'
theorem bagN {X : Cx} {e : Expr} (h : PE X e (tMake (He.ga X.K "Bag") (spInit X.K) [] E0 (tCons (tC (.int 2)) (tCons tDNewK tNil)))) : PE X e (tBagN X.K) := PE.weak h fun σ H Q q => by
  intro D nD x dx hx hdx ne
  exact bag_made (K := X.K) (H := upd H D (.dK [])) (d := D) (c := 2) (l := []) (Q := Q) (.inl rfl) upd_same ((vt_nil 2 12).mono (Nat.le_refl _) (by decide)) (fun H' b s n hb => q b H' ((same_upd nD).trans s) ((same_upd nD).free n) hb) x dx hx hdx ne
def spAlph (K : PySem.W.Frag) : Sp := fun vs H Q _ => ∃ h ca : Addr, vs = [.ref h] ∧ TapeAt ca H h ∧ ∀ H' x, TapeAt ca H' h → But h H H' → OddV K H' x → x ≠ .ref h → Q x H'
abbrev nAlph : List Str := ["_law_tape_here", "_law_things"]
theorem sc_alph : FnScope nAlph ["_law_tape_here"] (defScope s__law_alphabet) := ⟨rfl, rfl, rfl, by decide +kernel, rfl, by decide +kernel, by decide +kernel⟩
theorem ok_alph (T : Top K mg) : Ok P w K mg base 7 "_law_alphabet" ["_law_tape_here"] (spAlph K) := by
  obtain ⟨fd, F⟩ := fn__law_alphabet T
  refine ⟨⟨fd, ?_, F.bindsN fun _ _ _ _ _ _ us hl => match us, hl with | [_], _ => rfl⟩, g__law_alphabet T, F.kp⟩
  refine F.ok sc_alph (fun vs H Q E h => ?_) (fun cdv A outer s H vs Q E hr h => ?_)
  · obtain ⟨h, ca, rfl, _⟩ := h
    rfl
  · obtain ⟨h, ca, rfl, hh, q⟩ := h
    have nd := sc_alph.nd
    have hs : sizeLine = 16777216 := sizeLine_eq
    have hr1 : Room 1 _ := hr.mono (by decide)
    have hr2 : Room 2 _ := hr.mono (by decide)
    refine ⟨_, PSs.nox (pss_cons (ps_if (pt_cmpR op_gt (pc (ok_tdraw T) hr1 (pa_cons (pv 0) (pa_cons pe_int pa_nil))) pe_int (nomark _))
        (pss_one (ps_ret (pe_ix ix_list (pe_lst (pa_cons pe_str (pa_cons pe_str pa_nil))) (pc (ok_tdraw T) hr1 (pa_cons (pv 0) (pa_cons pe_int pa_nil))) (fun _ _ => rfl)))) pss_nil)
      (pss_cons (ps_set (i := 1) nd rfl (Or.inl rfl) (pe_lst (pa_cons pe_str (pa_cons pe_str (pa_cons pe_str (pa_cons pe_str (pa_cons pe_str (pa_cons pe_str (pa_cons pe_str (pa_cons pe_non (pa_cons pe_bl (pa_cons pe_int
        (pa_cons (oddL (xs := [.str "x", .str "y"]) (pe_lst (pa_cons pe_str (pa_cons pe_str pa_nil))) fun _ _ _ q => q) (pa_cons (oddT (xs := [.str "x", .str "y"]) (pe_tup (pa_cons pe_str (pa_cons pe_str pa_nil))) fun _ _ _ q => q)
        (pa_cons (PE.weak (t' := tOdd K) (pe_disp (pps_cons pe_str pe_int (pps_cons pe_str pe_int pps_nil)) (by rfl) (by rfl) (fun z => by cases z) (by decide)) ?w1) (pa_cons (odd0 pe_dnewK) pa_nil))))))))))))))))
      (pss_one (ps_ret (pe_ix ix_list (pe_op op_cat (pv 1) (pe_lst (pa_cons (bagN (pbag T hr (pa_cons pe_int (pa_cons pe_dnewK pa_nil)))) (pa_cons (pe_bad T hr2 (by rfl) pe_str) (pa_cons (pe_op op_pow pe_int pe_int) pa_nil)))))
        (pc (ok_tdraw T) hr1 (pa_cons (pv 0) (pa_cons pe_int pa_nil))) (fun _ _ => rfl)))))), ?_⟩
    case w1 => exact fun σ H Q q => fun p np => ⟨upd_same, [(Sum.inr "x", .int 1), (Sum.inr "y", .int 1)], rfl, by decide, q p _ (by rw [upd_upd]; exact same_upd np) np (.dct upd_same)⟩
    refine ⟨_, rfl, h, ca, 3, rfl, by decide, by decide, hh, fun r H1 hr0 hr1 h1 k1 => ?_⟩
    refine ⟨_, _, rfl, rfl, _, rfl, ite2 (fun hg => ?_) (fun hg => ?_)⟩
    · refine ⟨by show 2 ≤ sizeLine; omega, fun L hL => ?_⟩
      have hne := (h1.fresh hL).1.symm
      refine ⟨_, rfl, h, ca, 2, rfl, by decide, by decide, h1.same (same_upd hL), fun r H2 hr0 hr1 h2 k2 => ?_⟩
      obtain ⟨n, rfl⟩ : ∃ n : Nat, r = n := ⟨r.toNat, (Int.toNat_of_nonneg hr0).symm⟩
      have e : ∃ z : Str, [V.str "xy", V.str "xyz"][n]? = some (.str z) := by
        have : n = 0 ∨ n = 1 := by omega
        rcases this with rfl | rfl
        · exact ⟨_, rfl⟩
        · exact ⟨_, rfl⟩
      obtain ⟨z, ez⟩ := e
      refine ⟨L, _, _, _, rfl, rfl, .inl (.inl (k2 _ _ upd_same hne.symm)), atI_nat ez, ?_⟩
      exact q H2 _ h2 (fun b o z n => k2 b o (same_upd hL b o (k1 b o z n)) n) (.inl (.inl rfl)) (fun y => by cases y)
    · refine fun pl Hl sl nl ol pt Ht st nt ot pd Hd sd nd' od pe He se ne oe => ⟨by show 14 ≤ sizeLine; omega, fun L nL => ?_⟩
      have nol := (h1.fresh nl).1
      have not := ((h1.same sl).fresh nt).1
      have nod := (((h1.same sl).same st).fresh nd').1
      have noe := ((((h1.same sl).same st).same sd).fresh ne).1
      replace ol := ((ol.same st).same sd).same se
      replace ot := (ot.same sd).same se
      replace od := od.same se
      have s1 := ((sl.trans st).trans sd).trans se
      replace h1 := h1.same s1
      replace k1 := k1.trans (But.of s1)
      clear s1 sl st sd se nl nt nd' ne
      have s2 := same_upd (o := .lst [V.str "", V.str "x", V.str "yx", V.str "xz", V.str "xyzz", V.str "abc", V.str "XY", V.non, V.bl true, V.int 2, V.ref pl, V.ref pt, V.ref pd, V.ref pe]) nL
      have eL : (upd He L (.lst [V.str "", V.str "x", V.str "yx", V.str "xz", V.str "xyzz", V.str "abc", V.str "XY", V.non, V.bl true, V.int 2, V.ref pl, V.ref pt, V.ref pd, V.ref pe])) L = some (.lst [V.str "", V.str "x", V.str "yx", V.str "xz", V.str "xyzz", V.str "abc", V.str "XY", V.non, V.bl true, V.int 2, V.ref pl, V.ref pt, V.ref pd, V.ref pe]) := upd_same
      replace ol := ol.same s2
      replace ot := ot.same s2
      replace od := od.same s2
      replace oe := oe.same s2
      replace h1 := h1.same s2
      replace k1 := k1.trans (But.of s2)
      generalize upd He L (.lst [V.str "", V.str "x", V.str "yx", V.str "xz", V.str "xyzz", V.str "abc", V.str "XY", V.non, V.bl true, V.int 2, V.ref pl, V.ref pt, V.ref pd, V.ref pe]) = H2 at *
      clear s2 nL
      refine ⟨_, rfl, fun b H3 s23 n3 hb => ?_⟩
      have nb := (h1.fresh n3).1
      refine fun px Hx sx nx ox => ?_
      have nox := ((h1.same s23).fresh nx).1
      refine ⟨_, _, rfl, rfl, ⟨by decide, by decide, by decide⟩, by show 3 ≤ sizeLine; omega, fun M nM => ?_⟩
      generalize hBG : ((fun (i j : Int) => V.int (i ^ j.toNat)) 10 30) = BG
      have fBG : flatV BG = true := by rw [← hBG]; rfl
      clear hBG
      have s4 := (s23.trans sx).trans (same_upd (o := .lst [V.ref b, V.ref px, BG]) nM)
      have eM : (upd Hx M (.lst [V.ref b, V.ref px, BG])) M = some (.lst [V.ref b, V.ref px, BG]) := upd_same
      replace hb := (hb.same sx).same (same_upd (o := .lst [V.ref b, V.ref px, BG]) nM)
      replace ox := ox.same (same_upd (o := .lst [V.ref b, V.ref px, BG]) nM)
      replace ol := ol.same s4
      replace ot := ot.same s4
      replace od := od.same s4
      replace oe := oe.same s4
      replace h1 := h1.same s4
      replace k1 := k1.trans (But.of s4)
      replace eL := s4 _ _ eL
      clear s4 s23 nM nx sx n3
      generalize upd Hx M (.lst [V.ref b, V.ref px, BG]) = H4 at *
      refine ⟨L, M, _, _, rfl, rfl, eL, eM, by show 17 ≤ sizeLine; omega, fun N nN => ?_⟩
      have s5 := same_upd (o := .lst ([V.str "", V.str "x", V.str "yx", V.str "xz", V.str "xyzz", V.str "abc", V.str "XY", V.non, V.bl true, V.int 2, V.ref pl, V.ref pt, V.ref pd, V.ref pe] ++ [V.ref b, V.ref px, BG])) nN
      have hne := (h1.fresh nN).1.symm
      have eN : (upd H4 N (.lst ([V.str "", V.str "x", V.str "yx", V.str "xz", V.str "xyzz", V.str "abc", V.str "XY", V.non, V.bl true, V.int 2, V.ref pl, V.ref pt, V.ref pd, V.ref pe] ++ [V.ref b, V.ref px, BG]))) N = some (.lst ([V.str "", V.str "x", V.str "yx", V.str "xz", V.str "xyzz", V.str "abc", V.str "XY", V.non, V.bl true, V.int 2, V.ref pl, V.ref pt, V.ref pd, V.ref pe] ++ [V.ref b, V.ref px, BG])) := upd_same
      replace hb := hb.same s5
      replace ox := ox.same s5
      replace ol := ol.same s5
      replace ot := ot.same s5
      replace od := od.same s5
      replace oe := oe.same s5
      replace h1 := h1.same s5
      replace k1 := k1.trans (But.of s5)
      clear s5 nN eM eL
      generalize upd H4 N (.lst ([V.str "", V.str "x", V.str "yx", V.str "xz", V.str "xyzz", V.str "abc", V.str "XY", V.non, V.bl true, V.int 2, V.ref pl, V.ref pt, V.ref pd, V.ref pe] ++ [V.ref b, V.ref px, BG])) = H5 at *
      refine ⟨_, rfl, h, ca, 17, rfl, by decide, by decide, h1, fun r H6 hr0 hr1 h2 k2 => ?_⟩
      obtain ⟨n, rfl⟩ : ∃ n : Nat, r = n := ⟨r.toNat, (Int.toNat_of_nonneg hr0).symm⟩
      replace hb := hb.but k2 h1.lst
      replace ox := ox.offT h1 k2 nox
      replace ol := ol.offT h1 k2 nol
      replace ot := ot.offT h1 k2 not
      replace od := od.offT h1 k2 nod
      replace oe := oe.offT h1 k2 noe
      have e : ∃ x, ([V.str "", V.str "x", V.str "yx", V.str "xz", V.str "xyzz", V.str "abc", V.str "XY", V.non, V.bl true, V.int 2, V.ref pl, V.ref pt, V.ref pd, V.ref pe] ++ [V.ref b, V.ref px, BG])[n]? = some x ∧ OddV K H6 x ∧ x ≠ .ref h := by
        have : n = 0 ∨ n = 1 ∨ n = 2 ∨ n = 3 ∨ n = 4 ∨ n = 5 ∨ n = 6 ∨ n = 7 ∨ n = 8 ∨ n = 9 ∨ n = 10 ∨ n = 11 ∨ n = 12 ∨ n = 13 ∨ n = 14 ∨ n = 15 ∨ n = 16 := by omega
        rcases this with rfl | rfl | rfl | rfl | rfl | rfl | rfl | rfl | rfl | rfl | rfl | rfl | rfl | rfl | rfl | rfl | rfl
        · exact ⟨_, rfl, .inl (.inl rfl), fun y => by cases y⟩
        · exact ⟨_, rfl, .inl (.inl rfl), fun y => by cases y⟩
        · exact ⟨_, rfl, .inl (.inl rfl), fun y => by cases y⟩
        · exact ⟨_, rfl, .inl (.inl rfl), fun y => by cases y⟩
        · exact ⟨_, rfl, .inl (.inl rfl), fun y => by cases y⟩
        · exact ⟨_, rfl, .inl (.inl rfl), fun y => by cases y⟩
        · exact ⟨_, rfl, .inl (.inl rfl), fun y => by cases y⟩
        · exact ⟨_, rfl, .inl (.inl rfl), fun y => by cases y⟩
        · exact ⟨_, rfl, .inl (.inl rfl), fun y => by cases y⟩
        · exact ⟨_, rfl, .inl (.inl rfl), fun y => by cases y⟩
        · exact ⟨_, rfl, .inl (.inr ⟨pl, rfl, ol⟩), fun y => nol (by injection y)⟩
        · exact ⟨_, rfl, .inl (.inr ⟨pt, rfl, ot⟩), fun y => not (by injection y)⟩
        · exact ⟨_, rfl, .inl (.inr ⟨pd, rfl, od⟩), fun y => nod (by injection y)⟩
        · exact ⟨_, rfl, .inl (.inr ⟨pe, rfl, oe⟩), fun y => noe (by injection y)⟩
        · exact ⟨_, rfl, .inr ⟨b, 2, _, rfl, hb⟩, fun y => nb (by injection y)⟩
        · exact ⟨_, rfl, .inl (.inr ⟨px, rfl, ox⟩), fun y => nox (by injection y)⟩
        · exact ⟨_, rfl, .inl (.inl fBG), fun y => by rw [y] at fBG; cases fBG⟩
      obtain ⟨x, ez, ho, nxh⟩ := e
      refine ⟨N, _, _, _, rfl, rfl, .inl (.inl (k2 _ _ eN hne.symm)), atI_nat ez, ?_⟩
      exact q H6 x h2 (k1.trans k2) ho nxh
end
end Fp

set_option Elab.async false
set_option linter.all false
set_option maxRecDepth 100000
set_option maxHeartbeats 4000000
namespace Fp
open PySem PySem.Spec PyProof.Rows L2 TL
theorem joinL_mem : ∀ zs : List Str, (∀ c, c ∈ joinL [] (zs.map tl) ↔ ∃ z ∈ zs, c ∈ z.cps.toList) ∧ (joinL [] (zs.map tl)).length = (zs.map (·.length)).sum
  | [] => ⟨fun c => ⟨fun h => (by cases h), fun ⟨_, h, _⟩ => (by cases h)⟩, rfl⟩
  | [y] => by
    have e : joinL [] (([y] : List Str).map tl) = tl y := rfl
    rw [e]
    refine ⟨fun c => ⟨fun h => ⟨y, List.mem_cons_self, h⟩, fun ⟨z, hz, hc⟩ => ?_⟩, ?_⟩
    · rw [List.mem_singleton.mp hz] at hc
      exact hc
    · rw [← len_tl]
      simp
  | y :: z :: r => by
    obtain ⟨h1, h2⟩ := joinL_mem (z :: r)
    have e : joinL [] ((y :: z :: r : List Str).map tl) = tl y ++ joinL [] ((z :: r).map tl) := rfl
    rw [e]
    refine ⟨fun c => ?_, ?_⟩
    · rw [List.mem_append, h1 c]
      constructor
      · rintro (h | ⟨x, hx, hc⟩)
        · exact ⟨y, List.mem_cons_self, h⟩
        · exact ⟨x, List.mem_cons_of_mem _ hx, hc⟩
      · rintro ⟨x, hx, hc⟩
        rcases List.mem_cons.mp hx with rfl | hx
        · exact .inl hc
        · exact .inr ⟨x, hx, hc⟩
    · rw [List.length_append, h2, ← len_tl]
      rfl
theorem join_mem (ys : List Str) : (∀ c, c ∈ (PySem.Txt.join "" ys).cps.toList ↔ ∃ z ∈ ys, c ∈ z.cps.toList) ∧ (PySem.Txt.join "" ys).length = (ys.map (·.length)).sum := by
  obtain ⟨h1, h2⟩ := joinL_mem ys
  have e : tl (PySem.Txt.join "" ys) = joinL [] (ys.map tl) := by
    rw [join_eq, tl_join]
    rfl
  refine ⟨fun c => ?_, by rw [len_tl, e, h2]⟩
  rw [← h1 c, ← e]
theorem sumLen_le {m : Nat} : ∀ ys : List Str, (∀ y ∈ ys, y.length ≤ m) → (ys.map (·.length)).sum ≤ m * ys.length
  | [], _ => Nat.zero_le _
  | y :: r, h => by
    have h1 := sumLen_le r fun z hz => h z (List.mem_cons_of_mem _ hz)
    have h2 := h y List.mem_cons_self
    rw [List.map_cons, List.sum_cons, List.length_cons, Nat.mul_succ]
    omega
section
variable {P : Program} {w : World} {K : PySem.W.Frag} {mg : Str → Option Value} {base : Heap}
def spThing (K : PySem.W.Frag) : Sp := fun vs H Q _ => ∃ h ca : Addr, vs = [.ref h] ∧ TapeAt ca H h ∧ ∀ H' x, TapeAt ca H' h → But h H H' → NoBg K H' x → x ≠ .ref h → Q x H'
abbrev nThing : List Str := ["_law_tape_here", "_law_deep", "_law_k", "_law_things"]
theorem sc_thing : FnScope nThing ["_law_tape_here"] (defScope s__law_thing) := ⟨rfl, rfl, rfl, by decide +kernel, rfl, by decide +kernel, by decide +kernel⟩
theorem ok_thing (T : Top K mg) : Ok P w K mg base 3 "_law_thing" ["_law_tape_here"] (spThing K) := by
  obtain ⟨fd, F⟩ := fn__law_thing T
  refine ⟨⟨fd, ?_, F.bindsN fun _ _ _ _ _ _ us hl => match us, hl with | [_], _ => rfl⟩, g__law_thing T, F.kp⟩
  refine F.ok sc_thing (fun vs H Q E h => ?_) (fun cdv A outer s H vs Q E hr h => ?_)
  · obtain ⟨h, ca, rfl, _⟩ := h
    rfl
  · obtain ⟨h, ca, rfl, hh, q⟩ := h
    have nd := sc_thing.nd
    have hs : sizeLine = 16777216 := sizeLine_eq
    have hr1 : Room 1 _ := hr.mono (by decide)
    have hr2 : Room 2 _ := hr.mono (by decide)
    refine ⟨_, PSs.nox (pss_cons (ps_set (i := 1) nd rfl (Or.inl rfl) (pe_tup pa_nil))
      (pss_cons (ps_for PassesOwn.never rfl (pi_range1 (by rfl) (f_range T) (pa_cons pe_int pa_nil)) (pg_name (i := 2) nd rfl (Or.inl rfl)) (pss_one (ps_set (i := 1) nd rfl (Or.inl rfl) (pe_tup (pa_cons (pv 1) pa_nil)))))
      (pss_cons (ps_set (i := 3) nd rfl (Or.inl rfl) (pe_lst (pa_cons pe_non (pa_cons pe_bl (pa_cons pe_int (pa_cons pe_str (pa_cons pe_str (pa_cons (odd0 pe_dnewK)
        (pa_cons (PE.weak (t' := tOdd K) (pe_disp (pps_cons pe_str pe_int pps_nil) (by rfl) (by rfl) (fun z => by cases z) (by decide)) ?w1)
        (pa_cons (oddL (xs := []) (pe_lst pa_nil) fun _ _ _ q => q) (pa_cons (oddT (xs := [.str "x"]) (pe_tup (pa_cons pe_str pa_nil)) fun _ _ _ q => q)
        (pa_cons (pv 1) (pa_cons (pe_bad T hr2 (by rfl) pe_str)
        (pa_cons (PE.weak (t' := tOdd K) (pe_tup (pa_cons (pe_tup (pa_cons (pe_tup (pa_cons pe_str (pa_cons pe_int pa_nil))) pa_nil)) pa_nil)) ?w2) pa_nil))))))))))))))
      (pss_one (ps_ret (pe_ix ix_list (pv 3) (pc (ok_tdraw T) hr1 (pa_cons (pv 0) (pa_cons (pe_callB call_len (by rfl) (f_len T) PySem.boot_len (pa_cons (pv 3) pa_nil)) pa_nil))) (fun _ _ => rfl))))))), ?_⟩
    case w1 => exact fun σ H Q q => fun p np => ⟨upd_same, [(Sum.inr "x", .int 1)], rfl, by decide, q p _ (by rw [upd_upd]; exact same_upd np) np (.dct upd_same)⟩
    case w2 => exact fun σ H Q q => ⟨by show 2 ≤ sizeLine; omega, fun p1 n1 => ⟨by show 1 ≤ sizeLine; omega, fun p2 n2 => ⟨by show 1 ≤ sizeLine; omega, fun p3 n3 => q p3 _ (((same_upd n1).trans (same_upd n2)).trans (same_upd n3)) (((same_upd n1).trans (same_upd n2)).free n3) (.tup upd_same)⟩⟩⟩
    refine ⟨by show 0 ≤ sizeLine; omega, fun p0 n0 => ?_⟩
    refine ⟨30, rfl, by decide, by decide, ?_⟩
    refine for_it walk_range (fun i σ H' => (∃ v p xs, σ = [some (.ref h), some (.ref p), v, none] ∧ H' p = some (.tup xs) ∧ p ≠ h) ∧ TapeAt ca H' h ∧ But h H H')
      ⟨⟨none, p0, [], rfl, upd_same, (hh.fresh n0).1⟩, hh.same (same_upd n0), But.of (same_upd n0)⟩ (fun _ _ _ _ _ => trivial) ?_ ?_
    · rintro i x σ H2 H3 hi ⟨⟨v, p, xs, rfl, e1, e2⟩, p3, p4⟩ ⟨rfl, rfl⟩
      refine ⟨_, rfl, by show 1 ≤ sizeLine; omega, fun p' np => ?_⟩
      exact ⟨⟨_, p', _, rfl, upd_same, (p3.fresh np).1⟩, p3.same (same_upd np), p4.trans (But.of (same_upd np))⟩
    · rintro σ H1 ⟨⟨v, p, xs, rfl, e1, e2⟩, h1, k1⟩
      have od : OddA K H1 p := .tup e1
      have nod := e2
      clear e1 e2
      refine fun pe He se ne oe pd Hd sd nd' ox pl Hl sl nl ol pt Ht st nt ot => ?_
      refine ⟨_, rfl, fun pb Hb sb nb ob pn Hn sn nn on => ⟨by show 12 ≤ sizeLine; omega, fun L nL => ?_⟩⟩
      have noe := (h1.fresh ne).1
      have nox := ((h1.same se).fresh nd').1
      have nol := (((h1.same se).same sd).fresh nl).1
      have not := ((((h1.same se).same sd).same sl).fresh nt).1
      have nob := (((((h1.same se).same sd).same sl).same st).fresh nb).1
      have non := ((((((h1.same se).same sd).same sl).same st).same sb).fresh nn).1
      replace oe := ((((oe.same sd).same sl).same st).same sb).same sn
      replace ox := (((ox.same sl).same st).same sb).same sn
      replace ol := ((ol.same st).same sb).same sn
      replace ot := (ot.same sb).same sn
      replace ob := ob.same sn
      have s1 := ((((se.trans sd).trans sl).trans st).trans sb).trans sn
      replace od := od.same s1
      replace h1 := h1.same s1
      replace k1 := k1.trans (But.of s1)
      clear s1 se sd sl st sb sn ne nd' nl nt nb nn
      have s2 := same_upd (o := .lst [V.non, V.bl true, V.int 1, V.str "", V.str "xy", V.ref pe, V.ref pd, V.ref pl, V.ref pt, V.ref p, V.ref pb, V.ref pn]) nL
      have hne := (h1.fresh nL).1.symm
      have eL : (upd Hn L (.lst [V.non, V.bl true, V.int 1, V.str "", V.str "xy", V.ref pe, V.ref pd, V.ref pl, V.ref pt, V.ref p, V.ref pb, V.ref pn])) L = some (.lst [V.non, V.bl true, V.int 1, V.str "", V.str "xy", V.ref pe, V.ref pd, V.ref pl, V.ref pt, V.ref p, V.ref pb, V.ref pn]) := upd_same
      replace oe := oe.same s2
      replace ox := ox.same s2
      replace ol := ol.same s2
      replace ot := ot.same s2
      replace ob := ob.same s2
      replace od := od.same s2
      replace on := on.same s2
      replace h1 := h1.same s2
      replace k1 := k1.trans (But.of s2)
      clear s2 nL
      generalize upd Hn L (.lst [V.non, V.bl true, V.int 1, V.str "", V.str "xy", V.ref pe, V.ref pd, V.ref pl, V.ref pt, V.ref p, V.ref pb, V.ref pn]) = H2 at *
      refine ⟨_, rfl, _, rfl, _, rfl, _, _, rfl, .inl ⟨_, SqL.of eL, rfl⟩, h, ca, 12, rfl, by decide, by decide, h1, fun r H6 hr0 hr1 h2 k2 => ?_⟩
      obtain ⟨n, rfl⟩ : ∃ n : Nat, r = n := ⟨r.toNat, (Int.toNat_of_nonneg hr0).symm⟩
      replace oe := oe.offT h1 k2 noe
      replace ox := ox.offT h1 k2 nox
      replace ol := ol.offT h1 k2 nol
      replace ot := ot.offT h1 k2 not
      replace ob := ob.offT h1 k2 nob
      replace od := od.offT h1 k2 nod
      replace on := on.offT h1 k2 non
      have e : ∃ x, ([V.non, V.bl true, V.int 1, V.str "", V.str "xy", V.ref pe, V.ref pd, V.ref pl, V.ref pt, V.ref p, V.ref pb, V.ref pn])[n]? = some x ∧ NoBg K H6 x ∧ x ≠ .ref h := by
        have : n = 0 ∨ n = 1 ∨ n = 2 ∨ n = 3 ∨ n = 4 ∨ n = 5 ∨ n = 6 ∨ n = 7 ∨ n = 8 ∨ n = 9 ∨ n = 10 ∨ n = 11 := by omega
        rcases this with rfl | rfl | rfl | rfl | rfl | rfl | rfl | rfl | rfl | rfl | rfl | rfl
        · exact ⟨_, rfl, .inl rfl, fun y => by cases y⟩
        · exact ⟨_, rfl, .inl rfl, fun y => by cases y⟩
        · exact ⟨_, rfl, .inl rfl, fun y => by cases y⟩
        · exact ⟨_, rfl, .inl rfl, fun y => by cases y⟩
        · exact ⟨_, rfl, .inl rfl, fun y => by cases y⟩
        · exact ⟨_, rfl, .inr ⟨_, rfl, oe⟩, fun y => noe (by injection y)⟩
        · exact ⟨_, rfl, .inr ⟨_, rfl, ox⟩, fun y => nox (by injection y)⟩
        · exact ⟨_, rfl, .inr ⟨_, rfl, ol⟩, fun y => nol (by injection y)⟩
        · exact ⟨_, rfl, .inr ⟨_, rfl, ot⟩, fun y => not (by injection y)⟩
        · exact ⟨_, rfl, .inr ⟨_, rfl, od⟩, fun y => nod (by injection y)⟩
        · exact ⟨_, rfl, .inr ⟨_, rfl, ob⟩, fun y => nob (by injection y)⟩
        · exact ⟨_, rfl, .inr ⟨_, rfl, on⟩, fun y => non (by injection y)⟩
      obtain ⟨x, ez, ho, nxh⟩ := e
      refine ⟨L, _, _, _, rfl, rfl, .inl (.inl (k2 _ _ eL hne.symm)), atI_nat ez, ?_⟩
      exact q H6 x h2 (k1.trans k2) ho nxh
def spLet (K : PySem.W.Frag) : Sp := fun vs H Q _ => ∃ (b : Addr) (c : Int) (L : Tb), vs = [.ref b] ∧ BagAt K H b c L ∧ (∀ p ∈ L, p.1.length ≤ 4) ∧ L.length ≤ 5 ∧
  ∀ H' D (ys : List Str), Same H H' → H D = none → H' D = some (.lst (ys.map V.str)) → (∀ y, y ∈ ys ↔ ∃ p ∈ L, ∃ c ∈ p.1.cps.toList, y = ⟨#[c]⟩) → ys.length < 64 → Q (.ref D) H'
abbrev nLet : List Str := ["_law_bag", "_law_pair"]
theorem sc_let : FnScope nLet ["_law_bag"] (defScope s__law_letters_of) := ⟨rfl, rfl, rfl, by decide +kernel, rfl, by decide +kernel, by decide +kernel⟩
theorem ok_let (T : Top K mg) : Ok P w K mg base 1 "_law_letters_of" ["_law_bag"] (spLet K) := by
  obtain ⟨fd, F⟩ := fn__law_letters_of T
  refine ⟨⟨fd, ?_, F.bindsN fun _ _ _ _ _ _ us hl => match us, hl with | [_], _ => rfl⟩, g__law_letters_of T, F.kp⟩
  refine F.ok sc_let (fun vs H Q E h => ?_) (fun cdv A outer s H vs Q E hr h => ?_)
  · obtain ⟨b, c, L, rfl, _⟩ := h
    rfl
  · obtain ⟨b, c, L, rfl, ⟨dx, t, ea, wt⟩, hw, hl, q⟩ := h
    have nd := sc_let.nd
    have hs : sizeLine = 16777216 := sizeLine_eq
    obtain ⟨ps, o, e1, e2, e3⟩ := WordsAt.get wt
    refine ⟨_, PSs.nox (pss_one (ps_ret (pe_callB (cr_sortedTx rfl) (by rfl) (f_sorted T) (by decide +kernel) (pa_cons (pe_callTy (cr_setT1 rfl) (by rfl) (f_set T) (by decide +kernel)
      (pa_cons (pe_join pe_str (pe_lc (te := tOp (rIxT K) (tVar 1) (tC (.int 0))) (own := [("_law_pair", 1)]) (g := gName 1) (tt := tYes) rfl nd (pi_tup (pe_fld (pv 0) rfl)) (blkOk_by (N := nLet) (sc := defScope s__law_letters_of) (by decide +kernel))
        (fun _ _ _ _ _ => pg_name (i := 1) nd rfl (Or.inl rfl)) (fun _ _ _ _ _ => by exact pts_nil) (fun _ _ _ _ _ => by exact pe_ix (r := rIxT K) ix_tup (pv 1) pe_int (fun _ _ => rfl)))) pa_nil)) pa_nil)))), ?_⟩
    refine ⟨⟨_, rfl⟩, ?_⟩
    refine ⟨_, rfl, b, _, dx, _, _, rfl, ea, cls_Bag T, na_Bag_words T, flds_words _ _, ?_⟩
    refine ⟨t, rfl, ⟨_, .inl (.inr ⟨o, e1⟩)⟩, fun D hD => ?_⟩
    refine lc_it (walk_tup (xs := ps.map V.ref)) (fun i H' => H' D = some (.lst (((L.take i).map (·.1)).map V.str)) ∧ Same H H') ⟨upd_same, same_upd hD⟩ (fun i H' _ hP => .inl (.inr ⟨o, hP.2 _ _ e1⟩)) ?_ ?_
    · rintro i x H1 H2 hi ⟨p1, p2⟩ ⟨rfl, e⟩
      rw [List.length_map, e2] at hi
      have ep : L[i]? = some L[i] := List.getElem?_eq_getElem hi
      generalize L[i] = p at ep
      obtain ⟨b, h1, h2⟩ := e3 i p ep
      rw [List.getElem?_map, h1] at e
      have e5 : V.ref b = x := Option.some.inj e
      subst e5
      refine ⟨rfl, _, rfl, b, _, 0, _, rfl, rfl, .inl (.inl (p2 _ _ h2)), rfl, ?_⟩
      refine ⟨_, p1, ?_, ?_, fun b' o' y => ?_⟩
      · rw [List.length_map, List.length_map, List.length_take]
        omega
      · rw [upd_same, List.take_add_one, ep, List.map_append, List.map_append]
        rfl
      · rw [upd_ne (ne_of_none y hD)]
        exact p2 _ _ y
    · rintro H' ⟨p1, p2⟩
      rw [show (ps.map V.ref).length = L.length by rw [List.length_map, e2], List.take_length] at p1
      obtain ⟨j1, j2⟩ := join_mem (L.map (·.1))
      have hsum := sumLen_le (m := 4) (L.map (·.1)) fun y hy => by
        obtain ⟨p, hp, rfl⟩ := List.mem_map.mp hy
        exact hw p hp
      rw [List.length_map] at hsum
      refine ⟨_, D, L.map (·.1), rfl, rfl, .inl (.inl (.inl p1)), ?_, ?_⟩
      · show ((L.map (·.1)).map (·.length)).sum + _ * 0 ≤ _
        omega
      have hsz : (PySem.Txt.join "" (L.map (·.1))).cps.size ≤ 20 := by
        have : (PySem.Txt.join "" (L.map (·.1))).cps.size = (PySem.Txt.join "" (L.map (·.1))).length := rfl
        omega
      generalize PySem.Txt.join "" (L.map (·.1)) = x at j1 hsz
      refine ⟨x, rfl, by omega, fun a c ha hc => ?_⟩
      refine ⟨a, _, c, rfl, upd_same, by omega, fun ys p hsrt hnd hmem hlen hp => ?_⟩
      refine q _ p ys ((p2.trans (same_upd ha)).trans (same_upd hp)) ((p2.trans (same_upd ha)).free hp) upd_same (fun y => ?_) (by omega)
      rw [hmem y, decide_eq_true_iff]
      unfold signsOf
      rw [List.mem_map]
      constructor
      · rintro ⟨ch, h1, rfl⟩
        obtain ⟨z, hz, hc⟩ := (j1 ch).mp h1
        obtain ⟨pp, hp', rfl⟩ := List.mem_map.mp hz
        exact ⟨pp, hp', ch, hc, rfl⟩
      · rintro ⟨pp, hp', ch, hc, rfl⟩
        exact ⟨ch, (j1 ch).mpr ⟨_, List.mem_map.mpr ⟨pp, hp', rfl⟩, hc⟩, rfl⟩
end
end Fp

set_option Elab.async false
set_option linter.all false
set_option maxRecDepth 100000
set_option maxHeartbeats 4000000
namespace Fp
open PySem PySem.Spec PyProof.Rows L2
def BagQ (K : PySem.W.Frag) (H : Hp) (a : Addr) (c : Int) (l : Tb) : Prop := Bg K H a c 4 5 l ∧ isCk c
theorem BagQ.same {K : PySem.W.Frag} {H H' : Hp} {a : Addr} {c : Int} {l : Tb} (h : BagQ K H a c l) (k : Same H H') : BagQ K H' a c l := ⟨h.1.same k, h.2⟩
def ovB (z : Str) (l : Tb) : Bool := (canon l).all fun p => overB z p.1
theorem ov_over {c : Int} {z : Str} {l : Tb} (v : VT c 4 5 l) (h : ovB z l = true) : OverT z.cps.toList 4 l := by
  refine ⟨fun p hp => ?_, fun p hp => (v.wd p hp).2⟩
  obtain ⟨q, hq, e⟩ := List.mem_map.mp ((canon_key v p.1).mpr (List.mem_map.mpr ⟨p, hp, rfl⟩))
  have := List.all_eq_true.mp h q hq
  rw [show q.1 = p.1 from e] at this
  exact overB_iff.mp this
/-- what is asked, the error that is due, whether all letters are known -/
def AskC (K : PySem.W.Frag) (H : Hp) (w : Int) (x y n : V) (e : Option Nat) (ov : Bool) : Prop :=
  (OddV K H x ∧ ¬ isAlV x ∧ e = some 0 ∧ (w = 0 ∨ ((w = 1 ∨ w = 2) ∧ ∃ a c l, y = .ref a ∧ BagQ K H a c l))) ∨
  ∃ z, x = .str z ∧ isAl z ∧ ((w = 0 ∧ NoBg K H y ∧ e = none ∧ ov = false) ∨
    ∃ a c l, y = .ref a ∧ BagQ K H a c l ∧ ov = ovB z l ∧ ((w = 0 ∧ e = none) ∨ (w = 1 ∧ ov = false ∧ e = some 1) ∨ (w = 2 ∧ ov = false ∧ e = some 1) ∨ (w = 1 ∧ ov = true ∧ e = none) ∨ (w = 2 ∧ ov = true ∧ BadN K H n ∧ e = some 2) ∨ (w = 2 ∧ ov = true ∧ e = none ∧ ∃ k : Nat, n = .int k ∧ k ≤ 12)))
theorem AskC.same {K : PySem.W.Frag} {H H' : Hp} {w : Int} {x y n : V} {e : Option Nat} {ov : Bool} (h : AskC K H w x y n e ov) (k : Same H H') : AskC K H' w x y n e ov := by
  rcases h with ⟨h1, h2, h3, h4⟩ | ⟨z, rfl, hz, h⟩
  · refine .inl ⟨h1.same k, h2, h3, ?_⟩
    rcases h4 with h4 | ⟨h4, a, c, l, h5, h6⟩
    · exact .inl h4
    · exact .inr ⟨h4, a, c, l, h5, h6.same k⟩
  · refine .inr ⟨z, rfl, hz, ?_⟩
    rcases h with ⟨h1, h2, h3⟩ | ⟨a, c, l, h1, h2, h3, h⟩
    · exact .inl ⟨h1, h2.same k, h3⟩
    · refine .inr ⟨a, c, l, h1, h2.same k, h3, ?_⟩
      rcases h with h | h | h | h | ⟨g1, g2, g3, g4⟩ | h
      · exact .inl h
      · exact .inr (.inl h)
      · exact .inr (.inr (.inl h))
      · exact .inr (.inr (.inr (.inl h)))
      · exact .inr (.inr (.inr (.inr (.inl ⟨g1, g2, g3.same k, g4⟩))))
      · exact .inr (.inr (.inr (.inr (.inr h))))
def flags (k : Nat) : List V := [.bl (decide (k = 0)), .bl (decide (k = 1)), .bl (decide (k = 2)), .bl true]
def RefAt (H : Hp) (r : V) : Option Nat → Prop
  | none => r = .non
  | some k => ∃ t, r = .ref t ∧ H t = some (.tup (flags k))
def Told (K : PySem.W.Frag) (H : Hp) (w : Int) (n : V) (ov : Bool) (t : V) : Prop :=
  (w = 0 ∧ ∃ b, t = .bl b ∧ (b = true → ov = true)) ∨ (w = 1 ∧ (t = .non ∨ ∃ a c L, t = .ref a ∧ BagAt K H a c L)) ∨ (w = 2 ∧ (t = .non ∨ ∃ s : Str, t = .str s ∧ n = .int s.length))
def exN : Nat → Str
  | 0 => "NoAlphabet"
  | 1 => "NoLetters"
  | _ => "NoNumber"
section
variable {P : Program} {w : World} {K : PySem.W.Frag} {mg : Str → Option Value} {base : Heap}
theorem exF (T : Top K mg) {k : Nat} (h : k < 3) : ExcC K (He.ga K (exN k)) ∧ PySem.W.kitOne K (.ref (He.ga K (exN k))) (.ref (He.ga K "NoAlphabet")) = some (decide (k = 0)) ∧ PySem.W.kitOne K (.ref (He.ga K (exN k))) (.ref (He.ga K "NoLetters")) = some (decide (k = 1)) ∧
    PySem.W.kitOne K (.ref (He.ga K (exN k))) (.ref (He.ga K "NoNumber")) = some (decide (k = 2)) ∧ PySem.W.kitOne K (.ref (He.ga K (exN k))) (.type "ValueError") = some true ∧ PySem.W.exmOne K (.ref (He.ga K (exN k))) (.ref (He.ga K "BagError")) = some true := by
  have : k = 0 ∨ k = 1 ∨ k = 2 := by omega
  rcases this with rfl | rfl | rfl
  · exact ⟨xc_NoAlphabet T, xk_NoAlphabet_NoAlphabet T, xk_NoAlphabet_NoLetters T, xk_NoAlphabet_NoNumber T, xv_NoAlphabet T, xe_NoAlphabet T⟩
  · exact ⟨xc_NoLetters T, xk_NoLetters_NoAlphabet T, xk_NoLetters_NoLetters T, xk_NoLetters_NoNumber T, xv_NoLetters T, xe_NoLetters T⟩
  · exact ⟨xc_NoNumber T, xk_NoNumber_NoAlphabet T, xk_NoNumber_NoLetters T, xk_NoNumber_NoNumber T, xv_NoNumber T, xe_NoNumber T⟩
theorem takesF {X : Cx} : L2.Takes X (fun _ _ _ _ => False) := fun _ _ x => by
  obtain ⟨_, _, _, _, _, _, _, _, _, _, _, _, _, _, _, _, z⟩ := x
  exact z.elim
def tA2 : TA := tCons (tVar 1) (tCons (tVar 2) tNil)
def tA3 : TA := tCons (tVar 1) (tCons (tVar 2) (tCons (tVar 3) tNil))
def tTdA (K : PySem.W.Frag) : WX → TS := fun W => tIfS (tTest (tOp rEq (tVar 0) (tC (.int 0)))) (tAsg (fun σ H Q => tCall (spFull K) [] E0 tA2 σ H Q ∨ tCallS (spFullX K) (fun σ => WE W σ) tA2 σ H Q) (gName 5))
  (tIfS (tTest (tOp rEq (tVar 0) (tC (.int 1)))) (tAsg (fun σ H Q => tCall (spBeg K) [] E0 tA2 σ H Q ∨ tCallS (spCkOvX K) (fun σ => WE W σ) tA2 σ H Q) (gName 5))
    (tAsg (fun σ H Q => tCall (spUnmet K) [] E0 tA3 σ H Q ∨ tCallS (spUnmetX K) (fun σ => WE W σ) tA3 σ H Q) (gName 5)))
def tIsX (K : PySem.W.Frag) (a : Addr) (cls : Value) (d : Option Addr) (v : V) : TE := tCB (rIsD K cls d a) (tCons (tVar 6) (tCons (tC v) tNil))
def tSuA (K : PySem.W.Frag) (a : Addr) (cls : Value) (d : Option Addr) : TS := tSeq (tAsg (tTup (tCons (tIsX K a cls d (.ref (He.ga K "NoAlphabet"))) (tCons (tIsX K a cls d (.ref (He.ga K "NoLetters"))) (tCons (tIsX K a cls d (.ref (He.ga K "NoNumber"))) tNil)))) (gName 4))
  (tAsg (tOp (rCatT K) (tVar 4) (tTup (tCons (tIsX K a cls d (.ty "ValueError")) tNil))) (gName 4))
def tAskT (K : PySem.W.Frag) : TS := fun D σ H => ∃ (w : Int) (x y n : V) (e : Option Nat) (ov : Bool), σ = [some (.int w), some x, some y, some n, some .non, some .non, none] ∧ AskC K H w x y n e ov ∧
  ∀ H' r t, Same H H' → RefAt H' r e → (e = none → Told K H' w n ov t) → D.nx [some (.int w), some x, some y, some n, some r, some t, none] H'
def spAsk (K : PySem.W.Frag) : Sp := fun vs H Q _ => ∃ (w : Int) (x y n : V) (e : Option Nat) (ov : Bool), vs = [.int w, x, y, n] ∧ AskC K H w x y n e ov ∧
  ∀ H' p r t, Same H H' → H' p = some (.tup [r, t]) → RefAt H' r e → (e = none → Told K H' w n ov t) → Q (.ref p) H'
abbrev nAsk : List Str := ["_law_which", "_law_alphabet_here", "_law_thing_here", "_law_size", "_law_refused", "_law_told", "e"]
theorem sc_ask : FnScope nAsk ["_law_which", "_law_alphabet_here", "_law_thing_here", "_law_size"] (defScope s__law_ask) := ⟨rfl, rfl, rfl, by decide +kernel, rfl, by decide +kernel, by decide +kernel⟩
theorem RefAt.same {H H' : Hp} {r : V} {e : Option Nat} (h : RefAt H r e) (k : Same H H') : RefAt H' r e := by
  cases e with
  | none => exact h
  | some n =>
    obtain ⟨t, h1, h2⟩ := h
    exact ⟨t, h1, k _ _ h2⟩
theorem Told.same {K : PySem.W.Frag} {H H' : Hp} {w : Int} {n t : V} {ov : Bool} (h : Told K H w n ov t) (k : Same H H') : Told K H' w n ov t := by
  rcases h with h | ⟨h1, h2 | ⟨a, c, L, h2, h3⟩⟩ | h
  · exact .inl h
  · exact .inr (.inl ⟨h1, .inl h2⟩)
  · exact .inr (.inl ⟨h1, .inr ⟨a, c, L, h2, h3.same k⟩⟩)
  · exact .inr (.inr h)
theorem ok_ask (T : Top K mg) : Ok P w K mg base 12 "_law_ask" ["_law_which", "_law_alphabet_here", "_law_thing_here", "_law_size"] (spAsk K) := by
  obtain ⟨fd, F⟩ := fn__law_ask T
  refine ⟨⟨fd, ?_, F.bindsN fun _ _ _ _ _ _ us hl => match us, hl with | [_, _, _, _], _ => rfl⟩, g__law_ask T, F.kp⟩
  refine F.ok sc_ask (fun vs H Q E h => ?_) (fun cdv A outer s H vs Q E hr h => ?_)
  · obtain ⟨w, x, y, n, e, ov, rfl, _⟩ := h
    rfl
  · obtain ⟨w, x, y, n, e, ov, rfl, hc, q⟩ := h
    have nd := sc_ask.nd
    have hs : sizeLine = 16777216 := sizeLine_eq
    have hr3 : Room 3 _ := hr.mono (by decide)
    have hr4 : Room 4 _ := hr.mono (by decide)
    have hr5 : Room 5 _ := hr.mono (by decide)
    have hr10 : Room 10 _ := hr.mono (by decide)
    refine ⟨_, PSs.nox (pss_cons (ps_set (i := 4) nd rfl (Or.inl rfl) pe_non)
      (pss_cons (ps_set (i := 5) nd rfl (Or.inl rfl) pe_non)
      (pss_cons (PS.weak (t' := tAskT K) (L2.ps_try_as (i := 6) (tb := tTdA K) (ts := tSuA K) rfl rfl nd rfl rfl ⟨rfl, by decide, .inl (g_BagError T)⟩ takesF
        (fun W pn xe tk _ => pss_one (ps_if (pt_cmpR op_eq (pv 0) pe_int (nomark _)) (pss_one (ps_set (i := 5) nd rfl (Or.inl rfl) (by exact pe_alt (pc (ok_full T) hr (pa_cons (pv 1) (pa_cons (pv 2) pa_nil))) (pcX tk (okX_full T) hr4 (pa_cons (pv 1) (pa_cons (pv 2) pa_nil))))))
          (pss_one (ps_if (pt_cmpR op_eq (pv 0) pe_int (nomark _)) (pss_one (ps_set (i := 5) nd rfl (Or.inl rfl) (by exact pe_alt (pc (ok_beg T) hr10 (pa_cons (pv 1) (pa_cons (pv 2) pa_nil))) (pcX tk (okX_beg T) hr5 (pa_cons (pv 1) (pa_cons (pv 2) pa_nil))))))
            (pss_one (ps_set (i := 5) nd rfl (Or.inl rfl) (by exact pe_alt (pc (ok_unmet T) hr3 (pa_cons (pv 1) (pa_cons (pv 2) (pa_cons (pv 3) pa_nil)))) (pcX tk (okX_unmet T) hr5 (pa_cons (pv 1) (pa_cons (pv 2) (pa_cons (pv 3) pa_nil)))))))))))
        (fun a oe cls d pn hz hf => pss_cons (ps_set (i := 4) nd rfl (Or.inl rfl) (pe_tup (pa_cons (pe_callB (call_isD hz hf) (by rfl) (f_isinstance T) (by decide +kernel) (pa_cons (pv 6) (pa_cons (pe_glob (v := .ref (He.ga K "NoAlphabet")) (by rfl) (g_NoAlphabet T) rfl) pa_nil)))
            (pa_cons (pe_callB (call_isD hz hf) (by rfl) (f_isinstance T) (by decide +kernel) (pa_cons (pv 6) (pa_cons (pe_glob (v := .ref (He.ga K "NoLetters")) (by rfl) (g_NoLetters T) rfl) pa_nil)))
            (pa_cons (pe_callB (call_isD hz hf) (by rfl) (f_isinstance T) (by decide +kernel) (pa_cons (pv 6) (pa_cons (pe_glob (v := .ref (He.ga K "NoNumber")) (by rfl) (g_NoNumber T) rfl) pa_nil))) pa_nil)))))
          (pss_one (ps_set (i := 4) nd rfl (Or.inl rfl) (pe_op op_catT (pv 4) (pe_tup (pa_cons (pe_callB (call_isD hz hf) (by rfl) (f_isinstance T) (by decide +kernel) (pa_cons (pv 6) (pa_cons (pe_bltn (v := .ty "ValueError") (by rfl) (f_ValueError T) (by decide +kernel) rfl) pa_nil))) pa_nil))))))) ?wT)
      (pss_one (ps_ret (pe_tup (pa_cons (pv 4) (pa_cons (pv 5) pa_nil)))))))), ?_⟩
    case wT =>
      rintro D σ H ⟨w, x, y, n, e, ov, rfl, hc, q⟩
      have key : ∀ k, k < 3 → e = some k → ∀ H' : Hp, Same H H' → wAs K (.ref (He.ga K "BagError")) 6 (tSuA K) (fun _ _ _ _ => False) D (.ref (He.ga K (exN k))) none [some (.int w), some x, some y, some n, some .non, some .non, none] H' := by
        rintro k hk rfl H' s'
        obtain ⟨f1, f2, f3, f4, f5, f6⟩ := exF T hk
        refine ⟨true, f6, fun _ a na => ?_, fun z => nomatch z⟩
        refine ⟨_, rfl, _, _, .ref (He.ga K "NoAlphabet"), _, rfl, rfl, fun dd z => (nomatch z), f1, fun _ z => z, f2, ?_⟩
        refine ⟨_, rfl, _, _, .ref (He.ga K "NoLetters"), _, rfl, rfl, fun dd z => (nomatch z), f1, fun _ z => z, f3, ?_⟩
        refine ⟨_, rfl, _, _, .ref (He.ga K "NoNumber"), _, rfl, rfl, fun dd z => (nomatch z), f1, fun _ z => z, f4, ?_⟩
        refine ⟨by show 3 ≤ sizeLine; omega, fun p np => ?_⟩
        refine ⟨_, rfl, _, rfl, _, _, .type "ValueError", _, rfl, rfl, fun dd z => (nomatch z), f1, fun _ z => z, f5, ?_⟩
        refine ⟨by show 1 ≤ sizeLine; omega, fun p2 np2 => ?_⟩
        have e1 : (upd H' p (.tup [V.bl (decide (k = 0)), .bl (decide (k = 1)), .bl (decide (k = 2))])) p = some (.tup [V.bl (decide (k = 0)), .bl (decide (k = 1)), .bl (decide (k = 2))]) := upd_same
        refine ⟨p, p2, _, _, rfl, rfl, .inl (.inl ((same_upd np2) _ _ e1)), .inl (.inl upd_same), by simp, by show 4 ≤ sizeLine; omega, fun z => (nomatch z), fun _ p3 np3 => ?_⟩
        exact q _ _ _ (((s'.trans (same_upd np)).trans (same_upd np2)).trans (same_upd np3)) ⟨p3, rfl, upd_same⟩ fun z => nomatch z
      rcases hc with ⟨ho, hn, he, h | ⟨h | h, a, c, l, rfl, hb⟩⟩ | ⟨z, rfl, hz, ⟨rfl, hy, he, hov⟩ | ⟨a, c, l, rfl, hb, hov, h⟩⟩
      · subst h
        refine ⟨_, rfl, rfl, _, rfl, iteT ?_⟩
        exact .inr ⟨_, rfl, _, rfl, x, y, rfl, .inl ⟨ho, hn, key 0 (by decide) he _ (Same.refl H)⟩⟩
      · subst h
        refine ⟨_, rfl, rfl, _, rfl, iteF ⟨_, rfl, rfl, _, rfl, iteT ?_⟩⟩
        exact .inr ⟨_, rfl, _, rfl, x, a, rfl, .inl ⟨ho, hn, key 0 (by decide) he _ (Same.refl H)⟩⟩
      · subst h
        refine ⟨_, rfl, rfl, _, rfl, iteF ⟨_, rfl, rfl, _, rfl, iteF ?_⟩⟩
        exact .inr ⟨_, rfl, _, rfl, _, rfl, x, a, n, rfl, .inl (.inl ⟨ho, hn, key 0 (by decide) he _ (Same.refl H)⟩)⟩
      · subst he
        subst hov
        refine ⟨_, rfl, rfl, _, rfl, iteT ?_⟩
        exact .inr ⟨_, rfl, _, rfl, _, y, rfl, .inr ⟨z, rfl, hz, .inl ⟨hy, q H _ _ (Same.refl H) rfl fun _ => .inl ⟨rfl, false, rfl, fun z => nomatch z⟩⟩⟩⟩
      · have vc := vt_canon hb.1.2
        have hw4 : ∀ p ∈ canon l, p.1.length ≤ 1000 := fun p hp => Nat.le_trans (vc.wd p hp).2 (by decide)
        have hl5 : (canon l).length ≤ 1000000 := Nat.le_trans vc.ln (by decide)
        rcases h with ⟨rfl, he⟩ | ⟨rfl, h1, he⟩ | ⟨rfl, h1, he⟩ | ⟨rfl, h1, he⟩ | ⟨rfl, h1, hn, he⟩ | ⟨rfl, h1, he, k, rfl, hk⟩
        · refine ⟨_, rfl, rfl, _, rfl, iteT ?_⟩
          cases ho : ov with
          | false =>
            refine .inr ⟨_, rfl, _, rfl, _, _, rfl, .inr ⟨z, rfl, hz, .inr ⟨a, c, canon l, rfl, hb.1.1, hw4, hl5, by rw [← ho, hov]; rfl, fun H' s' => ?_⟩⟩⟩
            exact q H' _ _ s' (by rw [he]; exact rfl) fun _ => .inl ⟨rfl, false, rfl, fun z => nomatch z⟩
          | true =>
            have o4 := ov_over hb.1.2 (by rw [← hov]; exact ho)
            refine .inl ⟨_, rfl, _, rfl, a, c, z, 4, 5, 4, l, rfl, hb.1, hb.2, hz, o4, by decide, by decide, by decide, fun H' b s' _ => ?_⟩
            exact q H' _ _ s' (by rw [he]; exact rfl) fun _ => .inl ⟨rfl, b, rfl, fun _ => ho⟩
        · refine ⟨_, rfl, rfl, _, rfl, iteF ⟨_, rfl, rfl, _, rfl, iteT ?_⟩⟩
          exact .inr ⟨_, rfl, _, rfl, _, a, rfl, .inr ⟨z, c, canon l, rfl, hz, hb.1.1, hw4, hl5, by rw [← h1, hov]; rfl, fun H' s' => key 1 (by decide) he _ s'⟩⟩
        · refine ⟨_, rfl, rfl, _, rfl, iteF ⟨_, rfl, rfl, _, rfl, iteF ?_⟩⟩
          exact .inr ⟨_, rfl, _, rfl, _, rfl, _, a, n, rfl, .inl (.inr ⟨z, c, canon l, rfl, hz, hb.1.1, hw4, hl5, by rw [← h1, hov]; rfl, fun H' s' => key 1 (by decide) he _ s'⟩)⟩
        · refine ⟨_, rfl, rfl, _, rfl, iteF ⟨_, rfl, rfl, _, rfl, iteT ?_⟩⟩
          have o4 := ov_over hb.1.2 (by rw [← hov]; exact h1)
          refine .inl ⟨_, rfl, _, rfl, a, c, z, 4, 5, 4, l, rfl, hb.1, hb.2, hz, o4, by decide, by decide, by decide, fun H' r s' ox => ?_⟩
          refine q H' _ _ s' (by rw [he]; exact rfl) fun _ => .inr (.inl ⟨rfl, ?_⟩)
          rcases ox with ⟨rfl, _⟩ | ⟨b, q0, rfl, hbq, _⟩
          · exact .inl rfl
          · exact .inr ⟨b, _, _, rfl, hbq.1⟩
        · refine ⟨_, rfl, rfl, _, rfl, iteF ⟨_, rfl, rfl, _, rfl, iteF ?_⟩⟩
          have o4 := ov_over hb.1.2 (by rw [← hov]; exact h1)
          exact .inr ⟨_, rfl, _, rfl, _, rfl, _, a, n, rfl, .inr ⟨z, c, canon l, rfl, hz, hb.1.1, over_of (over_canon hb.1.2 o4) (by decide), hl5, hn, fun H' s' => key 2 (by decide) he _ s'⟩⟩
        · refine ⟨_, rfl, rfl, _, rfl, iteF ⟨_, rfl, rfl, _, rfl, iteF ?_⟩⟩
          have o4 := ov_over hb.1.2 (by rw [← hov]; exact h1)
          refine .inl ⟨_, rfl, _, rfl, _, rfl, a, c, z, 4, 5, 4, k, l, rfl, hb.1, hb.2, hz, o4, by decide, hk, by decide, fun H' s' => ?_⟩
          refine q H' _ _ s' (by rw [he]; exact rfl) fun _ => .inr (.inr ⟨rfl, ?_⟩)
          generalize hO : (allL z.cps.toList k).find? (bad c l) = o
          cases o with
          | none => exact .inl rfl
          | some cs =>
            refine .inr ⟨W cs, rfl, ?_⟩
            rw [W_len, ((allL_mem _ _ _).mp (List.mem_of_find?_eq_some hO)).2]
    refine ⟨w, x, y, n, e, ov, rfl, hc, fun H' r t s' hr' ht => ?_⟩
    refine ⟨_, rfl, _, rfl, by show 2 ≤ sizeLine; omega, fun p np => ?_⟩
    exact q _ p r t (s'.trans (same_upd np)) upd_same (hr'.same (same_upd np)) fun he => (ht he).same (same_upd np)
end
end Fp

set_option Elab.async false
set_option linter.all false
set_option maxRecDepth 100000
set_option maxHeartbeats 4000000
namespace Fp
open PySem PySem.Spec PyProof.Rows L2
/-- a letter in an alphabet, as Python looks -/
theorem sign_in {z : Str} {c : Nat} (hz : isAl z) (hc : c = 120 ∨ c = 121 ∨ c = 122) : (!(!(Builtin.Str.occurrences z ⟨#[c]⟩ 0 z.length 1).isEmpty)) = !(z.cps.toList.contains c) := by
  rcases hz with rfl | rfl <;> rcases hc with rfl | rfl | rfl <;> decide +kernel
def outL (z : Str) (y : Str) : Bool := !(z.cps.toList.contains (y.cps.toList.headD 0))
/-- letters outside -/
theorem out_none {z : Str} {L : Tb} {ys : List Str} (h : ∀ y, y ∈ ys ↔ ∃ p ∈ L, ∃ c ∈ p.1.cps.toList, y = ⟨#[c]⟩) : ys.filter (outL z) = [] ↔ (L.all fun p => overB z p.1) = true := by
  rw [List.filter_eq_nil_iff, List.all_eq_true]
  constructor
  · intro k p hp
    refine overB_iff.mpr fun c hc => ?_
    have := k _ ((h ⟨#[c]⟩).mpr ⟨p, hp, c, hc, rfl⟩)
    unfold outL at this
    have e : (⟨#[c]⟩ : Str).cps.toList.headD 0 = c := rfl
    rw [e] at this
    simpa using this
  · intro k y hy
    obtain ⟨p, hp, c, hc, rfl⟩ := (h y).mp hy
    have := overB_iff.mp (k p hp) c hc
    unfold outL
    have e : (⟨#[c]⟩ : Str).cps.toList.headD 0 = c := rfl
    rw [e]
    simpa using this
section
variable {P : Program} {w : World} {K : PySem.W.Frag} {mg : Str → Option Value} {base : Heap}
abbrev rNIS : R2 := fun x y H Q => ∃ i j, x = .str i ∧ y = .str j ∧ Q (.bl (!(!(Builtin.Str.occurrences j i 0 j.length 1).isEmpty))) H
def spDueX (K : PySem.W.Frag) : Sp := fun vs H Q _ => ∃ (w : Int) (x y n : V) (e : Option Nat) (ov : Bool), vs = [.int w, x, y, n] ∧ AskC K H w x y n e ov ∧ ∀ H' r, Same H H' → RefAt H' r e → Q r H'
abbrev nDueX : List Str := ["_law_which", "_law_alphabet_here", "_law_thing_here", "_law_size", "_law_letter"]
theorem sc_duex : FnScope nDueX ["_law_which", "_law_alphabet_here", "_law_thing_here", "_law_size"] (defScope s__law_due) := ⟨rfl, rfl, rfl, by decide +kernel, rfl, by decide +kernel, by decide +kernel⟩
theorem ok_duex (T : Top K mg) : Ok P w K mg base 2 "_law_due" ["_law_which", "_law_alphabet_here", "_law_thing_here", "_law_size"] (spDueX K) := by
  obtain ⟨fd, F⟩ := fn__law_due T
  refine ⟨⟨fd, ?_, F.bindsN fun _ _ _ _ _ _ us hl => match us, hl with | [_, _, _, _], _ => rfl⟩, g__law_due T, F.kp⟩
  refine F.ok sc_duex (fun vs H Q E h => ?_) (fun cdv A outer s H vs Q E hr h => ?_)
  · obtain ⟨w, x, y, n, e, ov, rfl, _⟩ := h
    rfl
  · obtain ⟨w, x, y, n, e, ov, rfl, hc, q⟩ := h
    have nd := sc_duex.nd
    have hs : sizeLine = 16777216 := sizeLine_eq
    refine ⟨_, PSs.nox (pss_cons (ps_if (PW.pt (pw_or (pt_not (pt_val (pe_callB call_isU (by rfl) (f_isinstance T) (by decide +kernel) (pa_cons (pv 1) (pa_cons (pe_bltn (v := .ty "str") (by rfl) (f_str T) (by decide +kernel) rfl) pa_nil)))))
          (pw_or1 (pt_cmpR op_notIn_seq (pv 1) (pe_lst (pa_cons pe_str (pa_cons pe_str pa_nil))) (by rfl))))) (pss_one (ps_ret (pe_tup (pa_cons pe_bl (pa_cons pe_bl (pa_cons pe_bl (pa_cons pe_bl pa_nil))))))) pss_nil)
      (pss_cons (ps_if (pt_cmpR op_eq (pv 0) pe_int (nomark _)) (pss_one (ps_ret pe_non)) pss_nil)
      (pss_cons (ps_if (pt_cmpR op_gt (pe_callB call_len (by rfl) (f_len T) PySem.boot_len (pa_cons (pe_lc (te := tVar 4) (own := [("_law_letter", 4)]) (g := gName 4) (tt := tTest (tOp rNIS (tVar 4) (tVar 1))) rfl nd (pi_list (pc (ok_let T) hr (pa_cons (pv 2) pa_nil))) (blkOk_by (N := nDueX) (sc := defScope s__law_due) (by decide +kernel))
          (fun _ _ _ _ _ => pg_name (i := 4) nd rfl (Or.inl rfl)) (fun _ _ _ _ _ => by exact pts_one (pt_cmpR op_notIn_str (pv 4) (pv 1) (by rfl))) (fun _ _ _ _ _ => by exact pv 4)) pa_nil)) pe_int (nomark _))
        (pss_one (ps_ret (pe_tup (pa_cons pe_bl (pa_cons pe_bl (pa_cons pe_bl (pa_cons pe_bl pa_nil))))))) pss_nil)
      (pss_cons (ps_if (PW.pt (pw_and (pt_cmpR op_eq (pv 0) pe_int (nomark _)) (pw_and1 (PW.pt (pw_or (pt_not (pt_val (pe_callB call_isi (by rfl) (f_isinstance T) (by decide +kernel) (pa_cons (pv 3) (pa_cons (pe_bltn (v := .ty "int") (by rfl) (f_int T) boot_int rfl) pa_nil)))))
          (pw_or (pt_val (pe_callB call_isi (by rfl) (f_isinstance T) (by decide +kernel) (pa_cons (pv 3) (pa_cons (pe_bltn (v := .ty "bool") (by rfl) (f_bool T) (by decide +kernel) rfl) pa_nil))))
            (pw_or (pt_cmpR op_lt (pv 3) pe_int (nomark _)) (pw_or1 (pt_cmpR op_gt (pv 3) pe_int (nomark _)))))))))) (pss_one (ps_ret (pe_tup (pa_cons pe_bl (pa_cons pe_bl (pa_cons pe_bl (pa_cons pe_bl pa_nil))))))) pss_nil)
      (pss_one (ps_ret pe_non)))))), ?_⟩
    have F0 : e = some 0 → ∀ H1, Same H H1 → 4 ≤ sizeLine ∧ ∀ p, H1 p = none → Q (.ref p) (upd H1 p (.tup [.bl true, .bl false, .bl false, .bl true])) := fun he H1 s1 => ⟨by omega, fun p np => q _ _ (s1.trans (same_upd np)) (by rw [he]; exact ⟨p, rfl, upd_same⟩)⟩
    have F1 : e = some 1 → ∀ H1, Same H H1 → 4 ≤ sizeLine ∧ ∀ p, H1 p = none → Q (.ref p) (upd H1 p (.tup [.bl false, .bl true, .bl false, .bl true])) := fun he H1 s1 => ⟨by omega, fun p np => q _ _ (s1.trans (same_upd np)) (by rw [he]; exact ⟨p, rfl, upd_same⟩)⟩
    have F2 : e = some 2 → ∀ H1, Same H H1 → 4 ≤ sizeLine ∧ ∀ p, H1 p = none → Q (.ref p) (upd H1 p (.tup [.bl false, .bl false, .bl true, .bl true])) := fun he H1 s1 => ⟨by omega, fun p np => q _ _ (s1.trans (same_upd np)) (by rw [he]; exact ⟨p, rfl, upd_same⟩)⟩
    have ho : OddV K H x := by
      rcases hc with ⟨h, _⟩ | ⟨z, rfl, _⟩
      · exact h
      · exact .inl (.inl rfl)
    refine ⟨_, rfl, odd_str T ho ⟨isS x, rfl, ?_⟩⟩
    rcases hc with ⟨_, hn, he, _⟩ | ⟨z, rfl, hz, h⟩
    · cases hx : isS x with
      | false => exact iteT (iteT (F0 he _ (Same.refl H)))
      | true =>
        cases x with
        | str z =>
          refine iteF ⟨_, rfl, by show 2 ≤ sizeLine; omega, fun L nL => ?_⟩
          refine ⟨L, _, rfl, .inl (.inl (.inl upd_same)), rfl, rfl, _, rfl, ?_⟩
          rw [inV_al rfl, decide_eq_false (show ¬ (V.str z = .str "xy" ∨ V.str z = .str "xyz") from hn)]
          exact iteT (F0 he _ (same_upd nL))
        | _ => cases hx
    · refine iteF ⟨_, rfl, by show 2 ≤ sizeLine; omega, fun L nL => ?_⟩
      refine ⟨L, _, rfl, .inl (.inl (.inl upd_same)), rfl, rfl, _, rfl, ?_⟩
      rw [inV_al rfl, decide_eq_true (show (V.str z = .str "xy" ∨ V.str z = .str "xyz") by rcases hz with rfl | rfl; exact .inl rfl; exact .inr rfl)]
      have sL := same_upd (o := .lst [V.str "xy", V.str "xyz"]) nL
      generalize upd H L (.lst [V.str "xy", V.str "xyz"]) = H1 at sL ⊢
      refine iteF ?_
      rcases h with ⟨rfl, hy, he, hov⟩ | ⟨a, c, l, rfl, hb, hov, h⟩
      · exact ⟨_, rfl, rfl, _, rfl, iteT (q _ _ sL (by rw [he]; exact rfl))⟩
      · have vc := vt_canon hb.1.2
        rcases h with ⟨rfl, he⟩ | h
        · exact ⟨_, rfl, rfl, _, rfl, iteT (q _ _ sL (by rw [he]; exact rfl))⟩
        have hw0 : w ≠ 0 := by rcases h with ⟨rfl, _⟩ | ⟨rfl, _⟩ | ⟨rfl, _⟩ | ⟨rfl, _⟩ | ⟨rfl, _⟩ <;> decide
        refine ⟨_, rfl, rfl, _, rfl, ?_⟩
        rw [decide_eq_false (show ¬ V.int w = V.int 0 from fun z => hw0 (by injection z))]
        refine iteF ?_
        refine ⟨_, rfl, a, c, canon l, rfl, hb.1.1.same sL, fun p hp => (vc.wd p hp).2, vc.ln, fun H2 M ys s2 nM eM hys hlen => ?_⟩
        refine ⟨M, rfl, ⟨_, SqL.of eM⟩, fun D hD => ?_⟩
        refine lc_it (walk_list (xs := ys.map V.str)) (fun i H' => H' D = some (.lst (((ys.take i).filter (outL z)).map V.str)) ∧ Same H2 H') ⟨upd_same, same_upd hD⟩ (fun i H' _ hP => SqL.of (hP.2 _ _ eM)) ?_ ?_
        · rintro i v H3 H4 hi ⟨p1, p2⟩ ⟨rfl, ev⟩
          rw [List.length_map] at hi
          have ep : ys[i]? = some ys[i] := List.getElem?_eq_getElem hi
          generalize ys[i] = y at ep
          rw [List.getElem?_map, ep] at ev
          have e5 : V.str y = v := Option.some.inj ev
          subst e5
          obtain ⟨p, hp, ch, hch, rfl⟩ := (hys y).mp (List.mem_of_getElem? ep)
          have e6 : outL z ⟨#[ch]⟩ = !(z.cps.toList.contains ch) := rfl
          refine ⟨rfl, _, rfl, _, rfl, _, _, rfl, rfl, _, rfl, ?_⟩
          rw [sign_in hz ((vc.wd p hp).1 ch hch), ← e6]
          refine ite2 (fun hh => ?_) (fun hh => ?_)
          · refine ⟨_, rfl, _, p1, ?_, ?_, fun b' o' y => ?_⟩
            · rw [List.length_map]
              have := List.length_filter_le (outL z) (ys.take i)
              rw [List.length_take] at this
              omega
            · rw [upd_same, List.take_add_one, ep, List.filter_append, List.map_append, show (some (⟨#[ch]⟩ : Str)).toList = [⟨#[ch]⟩] from rfl, List.filter_cons_of_pos hh]
              rfl
            · rw [upd_ne (ne_of_none y hD)]
              exact p2 _ _ y
          · refine ⟨?_, p2⟩
            rw [p1, List.take_add_one, ep, List.filter_append, show (some (⟨#[ch]⟩ : Str)).toList = [⟨#[ch]⟩] from rfl, List.filter_cons_of_neg hh, List.filter_nil, List.append_nil]
        · rintro H3 ⟨p1, p2⟩
          rw [List.length_map, List.take_length] at p1
          have hout := out_none (z := z) hys
          have s3 := (sL.trans s2).trans p2
          refine ⟨_, _, rfl, .inl ⟨_, SqL.of p1, rfl⟩, _, _, rfl, rfl, _, rfl, ?_⟩
          rw [List.length_map]
          cases ho2 : ov with
          | false =>
            have hne : ys.filter (outL z) ≠ [] := fun z0 => by
              have := hout.mp z0
              rw [show ((canon l).all fun p => overB z p.1) = ovB z l from rfl, ← hov, ho2] at this
              cases this
            have hpos : 0 < (ys.filter (outL z)).length := List.length_pos_iff.mpr hne
            rw [decide_eq_true (show (0 : Int) < (((ys.filter (outL z)).length : Nat) : Int) by omega)]
            refine iteT (F1 ?_ _ s3)
            rcases h with ⟨_, _, he⟩ | ⟨_, _, he⟩ | ⟨_, h1, _⟩ | ⟨_, h1, _⟩ | ⟨_, h1, _⟩
            · exact he
            · exact he
            · rw [ho2] at h1; cases h1
            · rw [ho2] at h1; cases h1
            · rw [ho2] at h1; cases h1
          | true =>
            have hnil := hout.mpr (show ovB z l = true by rw [← hov]; exact ho2)
            rw [hnil]
            refine iteF ?_
            rcases h with ⟨_, h1, _⟩ | ⟨_, h1, _⟩ | ⟨rfl, h1, he⟩ | ⟨rfl, h1, hn, he⟩ | ⟨rfl, h1, he, k, rfl, hk⟩
            · rw [ho2] at h1; cases h1
            · rw [ho2] at h1; cases h1
            · exact ⟨_, rfl, rfl, _, rfl, iteF (iteF (q _ _ s3 (by rw [he]; exact rfl)))⟩
            · refine ⟨_, rfl, rfl, _, rfl, iteT ?_⟩
              rcases hn.same s3 with rfl | ⟨b, rfl⟩ | ⟨s', rfl⟩ | ⟨i, rfl, hi⟩ | ⟨t, xs, rfl, ht | ht⟩
              · exact ⟨_, rfl, .non, _, _, _, false, rfl, .ty "int", .base .non, kit_ty (by decide +kernel), _, rfl, iteT (iteT (F2 he _ s3))⟩
              · refine ⟨_, rfl, .bl b, _, _, _, true, rfl, .ty "int", .base (.bl b), kit_ty (by decide +kernel), _, rfl, iteF ?_⟩
                exact ⟨_, rfl, .bl b, _, _, _, true, rfl, .ty "bool", .base (.bl b), kit_ty (by decide +kernel), _, rfl, iteT (iteT (F2 he _ s3))⟩
              · exact ⟨_, rfl, .str s', _, _, _, false, rfl, .ty "int", .base (.str s'), kit_ty (by decide +kernel), _, rfl, iteT (iteT (F2 he _ s3))⟩
              · refine ⟨_, rfl, .int i, _, _, _, true, rfl, .ty "int", .base (.int i), kit_ty (by decide +kernel), _, rfl, iteF ?_⟩
                refine ⟨_, rfl, .int i, _, _, _, false, rfl, .ty "bool", .base (.int i), kit_ty (by decide +kernel), _, rfl, iteF ?_⟩
                refine ⟨_, rfl, _, _, rfl, rfl, _, rfl, ite2 (fun _ => iteT (F2 he _ s3)) fun hh => ?_⟩
                have hh' : ¬ i < 0 := fun y => hh (decide_eq_true y)
                refine ⟨_, rfl, _, _, rfl, rfl, _, rfl, ?_⟩
                rw [decide_eq_true (show (12 : Int) < i by omega)]
                exact iteT (F2 he _ s3)
              · exact ⟨_, rfl, .ref t, _, _, _, false, rfl, .ty "int", .base (.tup ht), kit_ty (by decide +kernel), _, rfl, iteT (iteT (F2 he _ s3))⟩
              · exact ⟨_, rfl, .ref t, _, _, _, false, rfl, .ty "int", .base (.lst ht), kit_ty (by decide +kernel), _, rfl, iteT (iteT (F2 he _ s3))⟩
            · refine ⟨_, rfl, rfl, _, rfl, iteT ?_⟩
              refine ⟨_, rfl, .int k, _, _, _, true, rfl, .ty "int", .base (.int k), kit_ty (by decide +kernel), _, rfl, iteF ?_⟩
              refine ⟨_, rfl, .int k, _, _, _, false, rfl, .ty "bool", .base (.int k), kit_ty (by decide +kernel), _, rfl, iteF ?_⟩
              refine ⟨_, rfl, _, _, rfl, rfl, _, rfl, ?_⟩
              rw [decide_eq_false (show ¬ ((k : Nat) : Int) < 0 by omega)]
              refine iteF ⟨_, rfl, _, _, rfl, rfl, _, rfl, ?_⟩
              rw [decide_eq_false (show ¬ (12 : Int) < ((k : Nat) : Int) by omega)]
              exact iteF (q _ _ s3 (by rw [he]; exact rfl))
end
end Fp

set_option Elab.async false
set_option linter.all false
set_option maxRecDepth 100000
set_option maxHeartbeats 4000000
namespace L2
open PySem PySem.Spec PyProof.Rows
theorem op_alt {X : Cx} {o : Value → Value → Sem Value} {r1 r2 : R2} (h1 : OpR X o r1) (h2 : OpR X o r2) : OpR X o (fun x y H Q => r1 x y H Q ∨ r2 x y H Q) := fun pins s σ H x y v u Q I rx ry h => h.elim (h1 pins s σ H x y v u Q I rx ry) (h2 pins s σ H x y v u Q I rx ry)
end L2
namespace Fp
open PySem PySem.Spec PyProof.Rows L2
theorem vt_ck {c c' : Int} {m k : Nat} {l : Tb} (v : VT c m k l) (h : c ≤ c') : VT c' m k l := ⟨v.nd, fun p hp => ⟨(v.nu p hp).1, Int.lt_of_lt_of_le (v.nu p hp).2 h⟩, v.wd, v.ln⟩
theorem NoBg.offT {K : PySem.W.Frag} {ca : Addr} {H H' : Hp} {h : Addr} {x : V} (o : NoBg K H x) (t : TapeAt ca H h) (k : But h H H') (n : x ≠ .ref h) : NoBg K H' x := by
  rcases o with o | ⟨a, rfl, o⟩
  · exact .inl o
  · exact .inr ⟨a, rfl, o.offT t k fun e => n (by rw [e])⟩
theorem OddV.offT {K : PySem.W.Frag} {ca : Addr} {H H' : Hp} {h : Addr} {x : V} (o : OddV K H x) (t : TapeAt ca H h) (k : But h H H') (n : x ≠ .ref h) : OddV K H' x := by
  rcases o with o | ⟨a, c, L, rfl, o⟩
  · exact .inl (o.offT t k n)
  · exact .inr ⟨a, c, L, rfl, o.but k t.lst⟩
def Rq (K : PySem.W.Frag) (H : Hp) (h : Addr) (w : Int) (x y : V) : Prop := (w = 0 ∨ w = 1 ∨ w = 2) ∧ OddV K H x ∧ x ≠ .ref h ∧ ((∃ b c l, y = .ref b ∧ BagQ K H b c l) ∨ (w = 0 ∧ NoBg K H y ∧ y ≠ .ref h))
theorem Rq.same {K : PySem.W.Frag} {H H' : Hp} {h : Addr} {w : Int} {x y : V} (r : Rq K H h w x y) (k : Same H H') : Rq K H' h w x y := by
  obtain ⟨h1, h2, h3, ⟨b, c, l, h4, h5⟩ | ⟨h4, h5, h6⟩⟩ := r
  · exact ⟨h1, h2.same k, h3, .inl ⟨b, c, l, h4, h5.same k⟩⟩
  · exact ⟨h1, h2.same k, h3, .inr ⟨h4, h5.same k, h6⟩⟩
theorem Rq.off {K : PySem.W.Frag} {ca : Addr} {H H' : Hp} {h : Addr} {w : Int} {x y : V} (r : Rq K H h w x y) (t : TapeAt ca H h) (k : But h H H') : Rq K H' h w x y := by
  obtain ⟨h1, h2, h3, ⟨b, c, l, h4, h5⟩ | ⟨h4, h5, h6⟩⟩ := r
  · exact ⟨h1, h2.offT t k h3, h3, .inl ⟨b, c, l, h4, ⟨h5.1.1.but k t.lst, h5.1.2⟩, h5.2⟩⟩
  · exact ⟨h1, h2.offT t k h3, h3, .inr ⟨h4, h5.offT t k h6, h6⟩⟩
theorem ask_of {K : PySem.W.Frag} {H : Hp} {h : Addr} {w : Int} {x y n : V} (r : Rq K H h w x y) (hn : BadN K H n ∨ ∃ k : Nat, n = .int k ∧ k ≤ 12) : ∃ e ov, AskC K H w x y n e ov := by
  obtain ⟨hw, ho, _, hy⟩ := r
  by_cases ha : isAlV x
  · obtain ⟨z, rfl, hz⟩ : ∃ z, x = .str z ∧ isAl z := by
      rcases ha with rfl | rfl
      · exact ⟨_, rfl, .inl rfl⟩
      · exact ⟨_, rfl, .inr rfl⟩
    rcases hy with ⟨b, c, l, rfl, hb⟩ | ⟨rfl, hy, _⟩
    · cases hv : ovB z l with
      | false =>
        rcases hw with rfl | rfl | rfl
        · exact ⟨_, _, .inr ⟨z, rfl, hz, .inr ⟨b, c, l, rfl, hb, hv.symm, .inl ⟨rfl, rfl⟩⟩⟩⟩
        · exact ⟨_, _, .inr ⟨z, rfl, hz, .inr ⟨b, c, l, rfl, hb, hv.symm, .inr (.inl ⟨rfl, rfl, rfl⟩)⟩⟩⟩
        · exact ⟨_, _, .inr ⟨z, rfl, hz, .inr ⟨b, c, l, rfl, hb, hv.symm, .inr (.inr (.inl ⟨rfl, rfl, rfl⟩))⟩⟩⟩
      | true =>
        rcases hw with rfl | rfl | rfl
        · exact ⟨_, _, .inr ⟨z, rfl, hz, .inr ⟨b, c, l, rfl, hb, hv.symm, .inl ⟨rfl, rfl⟩⟩⟩⟩
        · exact ⟨_, _, .inr ⟨z, rfl, hz, .inr ⟨b, c, l, rfl, hb, hv.symm, .inr (.inr (.inr (.inl ⟨rfl, rfl, rfl⟩)))⟩⟩⟩
        · rcases hn with hn | hn
          · exact ⟨_, _, .inr ⟨z, rfl, hz, .inr ⟨b, c, l, rfl, hb, hv.symm, .inr (.inr (.inr (.inr (.inl ⟨rfl, rfl, hn, rfl⟩))))⟩⟩⟩
          · exact ⟨_, _, .inr ⟨z, rfl, hz, .inr ⟨b, c, l, rfl, hb, hv.symm, .inr (.inr (.inr (.inr (.inr ⟨rfl, rfl, rfl, hn⟩))))⟩⟩⟩
    · exact ⟨_, _, .inr ⟨z, rfl, hz, .inl ⟨rfl, hy, rfl, rfl⟩⟩⟩
  · refine ⟨_, false, .inl ⟨ho, ha, rfl, ?_⟩⟩
    rcases hy with ⟨b, c, l, rfl, hb⟩ | ⟨rfl, _⟩
    · rcases hw with hw | hw
      · exact .inl hw
      · exact .inr ⟨hw, b, c, l, rfl, hb⟩
    · exact .inl rfl
theorem eqv4 (a b c d : Bool) : PyData.eqv (.tuple [.bool a, .bool b, .bool c, .bool d]) (.tuple [.bool a, .bool b, .bool c, .bool d]) = true ∧ SeqAt.shaped (.tuple [.bool a, .bool b, .bool c, .bool d]) = true := by
  cases a <;> cases b <;> cases c <;> cases d <;> decide +kernel
section
variable {P : Program} {w : World} {K : PySem.W.Frag} {mg : Str → Option Value} {base : Heap}
def tTh (K : PySem.W.Frag) : TS := fun D σ H => ∃ (h ca : Addr) (w : Int) (x : V) (b : Addr) (c : Int) (l : Tb), σ = [some (.ref h), some (.int w), some x, some (.ref b), none, none, none, none, none, none, none] ∧ TapeAt ca H h ∧ (w = 0 ∨ w = 1 ∨ w = 2) ∧ OddV K H x ∧ x ≠ .ref h ∧ BagQ K H b c l ∧
  ∀ H' y, TapeAt ca H' h → Rq K H' h w x y → D.nx [some (.ref h), some (.int w), some x, some y, none, none, none, none, none, none, none] H'
def tSz (K : PySem.W.Frag) : TS := fun D σ H => ∃ (h ca : Addr) (w : Int) (x y : V) (L pt pl : Addr) (b1 b2 : Int), σ = [some (.ref h), some (.int w), some x, some y, some (.ref L), none, none, none, none, none, none] ∧ TapeAt ca H h ∧ Rq K H h w x y ∧
  H L = some (.lst [.int (-1), .int 13, .bl true, .bl false, .non, .str "3", .ref pt, .int b1, .int b2, .ref pl]) ∧ L ≠ h ∧ H pt = some (.tup [.int 3]) ∧ H pl = some (.lst [.int 3]) ∧ pl ≠ h ∧ 12 < b1 ∧ b2 < 0 ∧
  ∀ H' n, TapeAt ca H' h → Rq K H' h w x y → (BadN K H' n ∨ ∃ k : Nat, n = .int k ∧ k ≤ 12) → D.nx [some (.ref h), some (.int w), some x, some y, some (.ref L), some n, none, none, none, none, none] H'
def spQ (K : PySem.W.Frag) : Sp := fun vs H Q _ => ∃ h ca : Addr, vs = [.ref h] ∧ TapeAt ca H h ∧ ∀ H', TapeAt ca H' h → Q (.bl true) H'
abbrev nQ : List Str := ["_law_tape_here", "_law_which", "_law_alphabet_here", "_law_thing_here", "_law_sizes", "_law_size", "_law_refused", "_law_told", "_law_due_here", "_law_right", "_law_letter"]
theorem sc_q : FnScope nQ ["_law_tape_here"] (defScope s__law_question) := ⟨rfl, rfl, rfl, by decide +kernel, rfl, by decide +kernel, by decide +kernel⟩
theorem ok_q (T : Top K mg) : Ok P w K mg base 13 "_law_question" ["_law_tape_here"] (spQ K) := by
  obtain ⟨fd, F⟩ := fn__law_question T
  refine ⟨⟨fd, ?_, F.bindsN fun _ _ _ _ _ _ us hl => match us, hl with | [_], _ => rfl⟩, g__law_question T, F.kp⟩
  refine F.ok sc_q (fun vs H Q E h => ?_) (fun cdv A outer s H vs Q E hr h => ?_)
  · obtain ⟨h, ca, rfl, _⟩ := h
    rfl
  · obtain ⟨h, ca, rfl, hh, q⟩ := h
    have nd := sc_q.nd
    have hs : sizeLine = 16777216 := sizeLine_eq
    have hr1 : Room 1 _ := hr.mono (by decide)
    have hr2 : Room 2 _ := hr.mono (by decide)
    have hr3 : Room 3 _ := hr.mono (by decide)
    have hr4 : Room 4 _ := hr.mono (by decide)
    have hr6 : Room 6 _ := hr.mono (by decide)
    have hr7 : Room 7 _ := hr.mono (by decide)
    refine ⟨_, PSs.nox (pss_cons (ps_set (i := 1) nd rfl (Or.inl rfl) (pc (ok_tdraw T) hr1 (pa_cons (pv 0) (pa_cons pe_int pa_nil))))
      (pss_cons (ps_set (i := 2) nd rfl (Or.inr rfl) (pc (ok_alph T) hr7 (pa_cons (pv 0) pa_nil)))
      (pss_cons (ps_set (i := 3) nd rfl (Or.inl rfl) (pbag T hr6 (pa_cons (pc (ok_tck T) hr2 (pa_cons (pv 0) pa_nil)) (pa_cons (pc (ok_tsome T) hr4 (pa_cons (pv 0) (pa_cons pe_int (pa_cons (pe_slice sl_str pe_str po_none (po_some (pe_op op_add pe_int (pc (ok_tdraw T) hr1 (pa_cons (pv 0) (pa_cons pe_int pa_nil)))))) (pa_cons pe_int (pa_cons pe_int pa_nil)))))) pa_nil))))
      (pss_cons (PS.weak (t' := tTh K) (ps_if ((PW.pt (pw_and (pt_cmpR op_eq (pv 1) pe_int (nomark _)) (pw_and1 (pt_cmpR op_eq (pc (ok_tdraw T) hr1 (pa_cons (pv 0) (pa_cons pe_int pa_nil))) pe_int (nomark _)))))) (pss_one (ps_set (i := 3) nd rfl (Or.inl rfl) (pc (ok_thing T) hr3 (pa_cons (pv 0) pa_nil)))) pss_nil) ?w1)
      (pss_cons (ps_set (i := 4) nd rfl (Or.inl rfl) (pe_lst (pa_cons (pe_un un_neg pe_int) (pa_cons pe_int (pa_cons pe_bl (pa_cons pe_bl (pa_cons pe_non (pa_cons pe_str (pa_cons (pe_tup (pa_cons pe_int pa_nil)) (pa_cons (pe_op op_pow pe_int pe_int) (pa_cons (pe_un un_neg (pe_op op_pow pe_int pe_int)) (pa_cons (pe_lst (pa_cons pe_int pa_nil)) pa_nil))))))))))))
      (pss_cons (PS.weak (t' := tSz K) (ps_set (i := 5) nd rfl (Or.inl rfl) (pe_ifExp (pt_cmpR op_eq (pc (ok_tdraw T) hr1 (pa_cons (pv 0) (pa_cons pe_int pa_nil))) pe_int (nomark _)) (pe_ix ix_list (pv 4) (pc (ok_tdraw T) hr1 (pa_cons (pv 0) (pa_cons pe_int pa_nil))) (fun _ _ => rfl)) (pc (ok_tdraw T) hr1 (pa_cons (pv 0) (pa_cons pe_int pa_nil))))) ?w2)
      (pss_cons (ps_asg (pc (ok_ask T) hr (pa_cons (pv 1) (pa_cons (pv 2) (pa_cons (pv 3) (pa_cons (pv 5) pa_nil))))) (pg_tup rfl (pgs_cons (pg_name (i := 6) nd rfl (Or.inl rfl)) (pgs_cons (pg_name (i := 7) nd rfl (Or.inl rfl)) pgs_nil))))
      (pss_cons (ps_set (i := 8) nd rfl (Or.inl rfl) (pc (ok_duex T) hr2 (pa_cons (pv 1) (pa_cons (pv 2) (pa_cons (pv 3) (pa_cons (pv 5) pa_nil))))))
      (pss_cons (ps_if (pt_cmpR (op_alt op_ne (op_neD hr.units)) (pv 6) (pv 8) (nomark _)) (pss_one (ps_ret pe_bl)) pss_nil)
      (pss_cons (ps_if (pt_cmp (pc_notN (pv 8)) rfl) (pss_one (ps_ret pe_bl)) pss_nil)
      (pss_cons (ps_if (pt_cmpR op_eq (pv 1) pe_int (nomark _)) (pss_cons (ps_set (i := 9) nd rfl (Or.inl rfl) (pe_callB call_isU (by rfl) (f_isinstance T) (by decide +kernel) (pa_cons (pv 3) (pa_cons (pe_glob (v := .ref (He.ga K "Bag")) (by rfl) (g_Bag T) rfl) pa_nil))))
      (pss_cons (ps_if (pt_val (pv 9)) (pss_one (ps_set (i := 9) nd rfl (Or.inl rfl) (pe_cmpR op_eq (pe_callB call_len (by rfl) (f_len T) PySem.boot_len (pa_cons (pe_lc (te := tVar 10) (own := [("_law_letter", 10)]) (g := gName 10) (tt := tTest (tOp rNIS (tVar 10) (tVar 2))) rfl nd (pi_list (pc (ok_let T) hr1 (pa_cons (pv 3) pa_nil))) (blkOk_by (N := nQ) (sc := defScope s__law_question) (by decide +kernel))
          (fun _ _ _ _ _ => pg_name (i := 10) nd rfl (Or.inl rfl)) (fun _ _ _ _ _ => by exact pts_one (pt_cmpR op_notIn_str (pv 10) (pv 2) (by rfl))) (fun _ _ _ _ _ => by exact pv 10)) pa_nil)) pe_int (nomark _)))) pss_nil)
      (pss_one (ps_ret (pe_and (pe_callB call_isi (by rfl) (f_isinstance T) (by decide +kernel) (pa_cons (pv 7) (pa_cons (pe_bltn (v := .ty "bool") (by rfl) (f_bool T) (by decide +kernel) rfl) pa_nil))) (pe_one (pe_or (pv 9) (pe_one (pe_cmpR op_is_bl (pv 7) pe_bl (nomark _)))))))))) pss_nil)
      (pss_cons (ps_if (pt_cmpR op_eq (pv 1) pe_int (nomark _)) (pss_one (ps_ret (pe_or (pe_cmp (pc_isN (pv 7))) (pe_one (pe_callB call_isU (by rfl) (f_isinstance T) (by decide +kernel) (pa_cons (pv 7) (pa_cons (pe_glob (v := .ref (He.ga K "Bag")) (by rfl) (g_Bag T) rfl) pa_nil))))))) pss_nil)
      (pss_one (ps_ret (pe_or (pe_cmp (pc_isN (pv 7))) (pe_one (pe_and (pe_callB call_isi (by rfl) (f_isinstance T) (by decide +kernel) (pa_cons (pv 7) (pa_cons (pe_bltn (v := .ty "str") (by rfl) (f_str T) (by decide +kernel) rfl) pa_nil))) (pe_one (pe_cmpR op_eq (pe_callB call_len_str (by rfl) (f_len T) PySem.boot_len (pa_cons (pv 7) pa_nil)) (pv 5) (nomark _)))))))))))))))))))), ?_⟩
    case w1 =>
      rintro D σ H ⟨h, ca, w, x, b, c, l, rfl, hh, hw, ho, nx, hb, k⟩
      have r0 : Rq K H h w x (.ref b) := ⟨hw, ho, nx, .inl ⟨b, c, l, rfl, hb⟩⟩
      refine ⟨_, rfl, rfl, _, rfl, ite2 (fun h0 => ?_) (fun h0 => ?_)⟩
      · refine ⟨_, rfl, h, ca, 2, rfl, by decide, by decide, hh, fun r H1 hr0 hr1 h1 k1 => ?_⟩
        have r1 := r0.off hh k1
        refine ⟨rfl, _, rfl, ite2 (fun h2 => ?_) (fun h2 => k H1 _ h1 r1)⟩
        refine ⟨_, rfl, h, ca, rfl, h1, fun H2 y h3 k2 hy ny => ?_⟩
        obtain ⟨r2, r3, r4, _⟩ := r1.off h1 k2
        have w0 : w = 0 := by have := of_decide_eq_true h0; injection this
        exact k H2 y h3 ⟨r2, r3, r4, .inr ⟨w0, hy, ny⟩⟩
      · exact k H _ hh r0
    case w2 =>
      rintro D σ H ⟨h, ca, w, x, y, L, pt, pl, b1, b2, rfl, hh, hq, eL, nL, et, el, nl, hb1, hb2, k⟩
      obtain ⟨hx, hhx⟩ := hh.lst
      have nt : pt ≠ h := ne_of et hhx (by intro y; cases y)
      refine ⟨_, rfl, h, ca, 2, rfl, by decide, by decide, hh, fun r H1 hr0 hr1 h1 k1 => ?_⟩
      have q1 := hq.off hh k1
      refine ⟨rfl, _, rfl, ite2 (fun h2 => ?_) (fun h2 => ?_)⟩
      · refine ⟨_, rfl, _, rfl, h, ca, 10, rfl, by decide, by decide, h1, fun r H2 hr0 hr1 h2 k2 => ?_⟩
        have q2 := q1.off h1 k2
        have et2 := k2 _ _ (k1 _ _ et nt) nt
        have el2 := k2 _ _ (k1 _ _ el nl) nl
        obtain ⟨n, rfl⟩ : ∃ n : Nat, r = n := ⟨r.toNat, (Int.toNat_of_nonneg hr0).symm⟩
        have e : ∃ v, ([V.int (-1), .int 13, .bl true, .bl false, .non, .str "3", .ref pt, .int b1, .int b2, .ref pl])[n]? = some v ∧ BadN K H2 v := by
          have : n = 0 ∨ n = 1 ∨ n = 2 ∨ n = 3 ∨ n = 4 ∨ n = 5 ∨ n = 6 ∨ n = 7 ∨ n = 8 ∨ n = 9 := by omega
          rcases this with rfl | rfl | rfl | rfl | rfl | rfl | rfl | rfl | rfl | rfl
          · exact ⟨_, rfl, .inr (.inr (.inr (.inl ⟨_, rfl, .inl (by decide)⟩)))⟩
          · exact ⟨_, rfl, .inr (.inr (.inr (.inl ⟨_, rfl, .inr (by decide)⟩)))⟩
          · exact ⟨_, rfl, .inr (.inl ⟨_, rfl⟩)⟩
          · exact ⟨_, rfl, .inr (.inl ⟨_, rfl⟩)⟩
          · exact ⟨_, rfl, .inl rfl⟩
          · exact ⟨_, rfl, .inr (.inr (.inl ⟨_, rfl⟩))⟩
          · exact ⟨_, rfl, .inr (.inr (.inr (.inr ⟨_, _, rfl, .inl et2⟩)))⟩
          · exact ⟨_, rfl, .inr (.inr (.inr (.inl ⟨_, rfl, .inr hb1⟩)))⟩
          · exact ⟨_, rfl, .inr (.inr (.inr (.inl ⟨_, rfl, .inl hb2⟩)))⟩
          · exact ⟨_, rfl, .inr (.inr (.inr (.inr ⟨_, _, rfl, .inr el2⟩)))⟩
        obtain ⟨v, ev, hv⟩ := e
        refine ⟨L, _, _, _, rfl, rfl, .inl (.inl (k2 _ _ (k1 _ _ eL nL) nL)), atI_nat ev, ?_⟩
        exact k H2 v h2 q2 (.inl hv)
      · refine ⟨_, rfl, h, ca, 13, rfl, by decide, by decide, h1, fun r H2 hr0 hr1 h2 k2 => ?_⟩
        obtain ⟨n, rfl⟩ : ∃ n : Nat, r = n := ⟨r.toNat, (Int.toNat_of_nonneg hr0).symm⟩
        exact k H2 _ h2 (q1.off h1 k2) (.inr ⟨n, rfl, by omega⟩)
    refine ⟨_, rfl, h, ca, 3, rfl, by decide, by decide, hh, fun r H1 hr0 hr1' h1 k1 => ?_⟩
    have hw : r = 0 ∨ r = 1 ∨ r = 2 := by omega
    refine ⟨_, rfl, h, ca, rfl, h1, fun H2 x h2 k2 ho nx => ?_⟩
    refine ⟨_, rfl, h, ca, rfl, h2, fun H3 c h3 k3 hck => ?_⟩
    have ho3 := ho.offT h2 k3 nx
    refine ⟨_, rfl, _, rfl, h, ca, 2, rfl, by decide, by decide, h3, fun r4 H4 g0 g1 h4 k4 => ?_⟩
    have ho4 := ho3.offT h3 k4 nx
    refine ⟨_, _, rfl, rfl, _, rfl, _, rfl, by rw [hs]; decide, ?_⟩
    obtain ⟨z, ez, hz⟩ : ∃ z : Str, cutS "xyz" none (some (2 + r4)) = z ∧ isAl z := by
      have : r4 = 0 ∨ r4 = 1 := by omega
      rcases this with rfl | rfl
      · exact ⟨"xy", by decide +kernel, .inl rfl⟩
      · exact ⟨"xyz", by decide +kernel, .inr rfl⟩
    rw [ez]
    obtain ⟨hc2, hc7⟩ := ck_range hck
    refine ⟨h, ca, 2, z, 4, 5, rfl, h4, by decide, by decide, hz.xyz, hz.len.1, by have := hz.len.2; omega, by decide, by decide, fun H5 d l h5 k5 nd5 ed vl _ => ?_⟩
    have ho5 := ho4.offT h4 k5 nx
    have vc : VT c 4 5 l := vt_ck vl hc2
    refine fun b dx0 hx0 hdx0 ne0 => ⟨b, d, dx0, c, l, rfl, upd_same, hck, made_dict ed hx0 hdx0, vc.mono (by decide) (by decide), fun H6 kk hb => ⟨rfl, ?_⟩⟩
    have s6 := made_same kk hx0 hdx0
    refine ⟨h, ca, r, x, b, c, l, rfl, h5.same s6, hw, ho5.same s6, nx, ⟨⟨hb, vc⟩, hck⟩, fun H7 y h7 hq7 => ?_⟩
    refine ⟨_, rfl, by show 1 ≤ sizeLine; omega, fun pt npt => ?_⟩
    refine ⟨_, _, rfl, rfl, ⟨by decide, by decide, by decide⟩, ?_⟩
    refine ⟨_, _, rfl, rfl, ⟨by decide, by decide, by decide⟩, ?_⟩
    refine ⟨_, rfl, by show 1 ≤ sizeLine; omega, fun pl npl => ?_⟩
    refine ⟨by show 10 ≤ sizeLine; omega, fun L nL => ?_⟩
    obtain ⟨b1, hb1, g1⟩ : ∃ b1 : Int, (fun (i j : Int) => V.int (i ^ j.toNat)) 10 30 = .int b1 ∧ 12 < b1 := ⟨10 ^ 30, rfl, by decide⟩
    obtain ⟨b2, hb2, g2⟩ : ∃ b2 : Int, (fun (i : Int) => V.int (-i)) (10 ^ (30 : Int).toNat) = .int b2 ∧ b2 < 0 := ⟨- 10 ^ 30, rfl, by decide⟩
    rw [hb1, hb2]
    have n1 := (h7.fresh npt).1
    have s1 := same_upd (o := .tup [V.int 3]) npt
    have e1 : (upd H7 pt (.tup [V.int 3])) pt = some (.tup [V.int 3]) := upd_same
    generalize upd H7 pt (.tup [V.int 3]) = A1 at *
    have n2 := ((h7.same s1).fresh npl).1
    have s2 := same_upd (o := .lst [V.int 3]) npl
    have e2 : (upd A1 pl (.lst [V.int 3])) pl = some (.lst [V.int 3]) := upd_same
    generalize upd A1 pl (.lst [V.int 3]) = A2 at *
    have n3 := (((h7.same s1).same s2).fresh nL).1
    have s3 := same_upd (o := .lst [(fun (i : Int) => V.int (-i)) 1, V.int 13, V.bl true, V.bl false, V.non, V.str "3", V.ref pt, V.int b1, V.int b2, V.ref pl]) nL
    have e3 : (upd A2 L (.lst [(fun (i : Int) => V.int (-i)) 1, V.int 13, V.bl true, V.bl false, V.non, V.str "3", V.ref pt, V.int b1, V.int b2, V.ref pl])) L = some (.lst [.int (-1), V.int 13, V.bl true, V.bl false, V.non, V.str "3", V.ref pt, V.int b1, V.int b2, V.ref pl]) := upd_same
    generalize upd A2 L (.lst [(fun (i : Int) => V.int (-i)) 1, V.int 13, V.bl true, V.bl false, V.non, V.str "3", V.ref pt, V.int b1, V.int b2, V.ref pl]) = A3 at *
    have sA := (s1.trans s2).trans s3
    refine ⟨h, ca, r, x, y, L, pt, pl, b1, b2, rfl, h7.same sA, hq7.same sA, e3, n3, s3 _ _ (s2 _ _ e1), s3 _ _ e2, n2, g1, g2, fun H8 n h8 hq8 hn8 => ?_⟩
    obtain ⟨e, ov, hask⟩ := ask_of hq8 hn8
    refine ⟨_, rfl, _, rfl, _, rfl, _, rfl, r, x, y, n, e, ov, rfl, hask, fun H9 p r6 t7 s9 ep9 hr6 ht7 => ?_⟩
    refine ⟨p, _, rfl, .inl (.inl ep9), rfl, ?_⟩
    refine ⟨_, _, rfl, _, _, rfl, rfl, ?_⟩
    refine ⟨_, rfl, _, rfl, _, rfl, _, rfl, r, x, y, n, e, ov, rfl, hask.same s9, fun H10 r8 s10 hr8 => ?_⟩
    have hr6' := hr6.same s10
    have hask' := (hask.same s9).same s10
    have h10 := (h8.same s9).same s10
    cases e with
    | some k =>
      obtain ⟨ta, rfl, ea⟩ := hr6'
      obtain ⟨tb, rfl, eb⟩ := hr8
      obtain ⟨v1, v2⟩ := eqv4 (decide (k = 0)) (decide (k = 1)) (decide (k = 2)) true
      refine ⟨_, rfl, _, rfl, .inr ⟨_, _, .tup (.inl (.inl ea)) (.cons (.bl _) (.cons (.bl _) (.cons (.bl _) (.cons (.bl _) .nil)))), .tup (.inl (.inl eb)) (.cons (.bl _) (.cons (.bl _) (.cons (.bl _) (.cons (.bl _) .nil)))), v2, v2, ?_⟩⟩
      rw [v1]
      refine ⟨_, rfl, iteF ?_⟩
      refine ⟨_, rfl, _, rfl, iteT ?_⟩
      exact q H10 h10
    | none =>
      have e6 : r6 = .non := hr6'
      have e8 : r8 = .non := hr8
      subst e6
      subst e8
      refine ⟨_, rfl, _, rfl, .inl ⟨rfl, _, rfl, iteF ?_⟩⟩
      refine ⟨_, rfl, _, rfl, iteF ?_⟩
      have tld := (ht7 rfl).same s10
      have isB : ∀ b : Bool, TyX K H10 (.bl b) (.type "bool") := fun b => .base (.bl b)
      rcases hask' with ⟨_, _, he, _⟩ | ⟨z, rfl, hz, ⟨rfl, hy, _, rfl⟩ | ⟨a, c, l, rfl, hb, hov, h⟩⟩
      · cases he
      · rcases tld with ⟨_, b, rfl, hbo⟩ | ⟨h0, _⟩ | ⟨h0, _⟩
        · have hb0 : b = false := by
            cases b with
            | false => rfl
            | true => exact absurd (hbo rfl) (by decide)
          subst hb0
          refine ⟨_, rfl, rfl, _, rfl, iteT ?_⟩
          refine ⟨_, rfl, odd_bag T hy ?_⟩
          refine ⟨_, rfl, _, rfl, iteF ?_⟩
          refine ⟨_, rfl, .bl false, _, _, _, true, rfl, .ty "bool", isB false, kit_ty (by decide +kernel), _, rfl, iteT ?_⟩
          refine ⟨_, rfl, _, rfl, iteF ?_⟩
          exact ⟨_, rfl, _, _, rfl, rfl, q H10 h10⟩
        · exact absurd h0 (by decide)
        · exact absurd h0 (by decide)
      · have vc := vt_canon hb.1.2
        rcases h with ⟨rfl, _⟩ | ⟨_, _, he⟩ | ⟨_, _, he⟩ | ⟨rfl, _, _⟩ | ⟨_, _, _, he⟩ | ⟨rfl, _, _, k, rfl, hk⟩
        · rcases tld with ⟨_, b, rfl, hbo⟩ | ⟨h0, _⟩ | ⟨h0, _⟩
          · refine ⟨_, rfl, rfl, _, rfl, iteT ?_⟩
            refine ⟨_, rfl, is_bag T hb.1.1 ?_⟩
            refine ⟨_, rfl, _, rfl, iteT ?_⟩
            refine ⟨_, rfl, a, c, canon l, rfl, hb.1.1, fun p hp => (vc.wd p hp).2, vc.ln, fun H11 M ys s11 nM eM hys hlen => ?_⟩
            refine ⟨M, rfl, ⟨_, SqL.of eM⟩, fun D hD => ?_⟩
            refine lc_it (walk_list (xs := ys.map V.str)) (fun i H' => H' D = some (.lst (((ys.take i).filter (outL z)).map V.str)) ∧ Same H11 H') ⟨upd_same, same_upd hD⟩ (fun i H' _ hP => SqL.of (hP.2 _ _ eM)) ?_ ?_
            · rintro i v H3 H4 hi ⟨p1, p2⟩ ⟨rfl, ev⟩
              rw [List.length_map] at hi
              have ep : ys[i]? = some ys[i] := List.getElem?_eq_getElem hi
              generalize ys[i] = y at ep
              rw [List.getElem?_map, ep] at ev
              have e5 : V.str y = v := Option.some.inj ev
              subst e5
              obtain ⟨p, hp, ch, hch, rfl⟩ := (hys y).mp (List.mem_of_getElem? ep)
              have e6 : outL z ⟨#[ch]⟩ = !(z.cps.toList.contains ch) := rfl
              refine ⟨rfl, _, rfl, _, rfl, _, _, rfl, rfl, _, rfl, ?_⟩
              rw [sign_in hz ((vc.wd p hp).1 ch hch), ← e6]
              refine ite2 (fun hh => ?_) (fun hh => ?_)
              · refine ⟨_, rfl, _, p1, ?_, ?_, fun b' o' y => ?_⟩
                · rw [List.length_map]
                  have := List.length_filter_le (outL z) (ys.take i)
                  rw [List.length_take] at this
                  omega
                · rw [upd_same, List.take_add_one, ep, List.filter_append, List.map_append, show (some (⟨#[ch]⟩ : Str)).toList = [⟨#[ch]⟩] from rfl, List.filter_cons_of_pos hh]
                  rfl
                · rw [upd_ne (ne_of_none y hD)]
                  exact p2 _ _ y
              · refine ⟨?_, p2⟩
                rw [p1, List.take_add_one, ep, List.filter_append, show (some (⟨#[ch]⟩ : Str)).toList = [⟨#[ch]⟩] from rfl, List.filter_cons_of_neg hh, List.filter_nil, List.append_nil]
            · rintro H12 ⟨p1, p2⟩
              rw [List.length_map, List.take_length] at p1
              have hout := out_none (z := z) hys
              have s12 := s11.trans p2
              refine ⟨_, _, rfl, .inl ⟨_, SqL.of p1, rfl⟩, rfl, ?_⟩
              have hr0 : b = true → decide (V.int (((List.map V.str (List.filter (outL z) ys)).length : Nat) : Int) = V.int 0) = true := fun hb1 => by
                rw [hout.mpr (show ovB z l = true by rw [← hov]; exact hbo hb1)]
                rfl
              generalize decide (V.int (((List.map V.str (List.filter (outL z) ys)).length : Nat) : Int) = V.int 0) = right at hr0 ⊢
              refine ⟨_, rfl, .bl b, _, _, _, true, rfl, .ty "bool", .base (.bl b), kit_ty (by decide +kernel), _, rfl, iteT ?_⟩
              refine ⟨_, rfl, _, rfl, ?_⟩
              cases right with
              | true => exact iteT (q H12 (h10.same s12))
              | false =>
                cases b with
                | true => exact absurd (hr0 rfl) (by decide)
                | false => exact iteF ⟨_, rfl, _, _, rfl, rfl, q H12 (h10.same s12)⟩
          · exact absurd h0 (by decide)
          · exact absurd h0 (by decide)
        · cases he
        · cases he
        · rcases tld with ⟨h0, _⟩ | ⟨_, hh⟩ | ⟨h0, _⟩
          · exact absurd h0 (by decide)
          · refine ⟨_, rfl, rfl, _, rfl, iteF ?_⟩
            refine ⟨_, rfl, rfl, _, rfl, iteT ?_⟩
            rcases hh with rfl | ⟨b, c', L', rfl, hb'⟩
            · exact ⟨_, rfl, _, rfl, iteT (q H10 h10)⟩
            · exact ⟨_, rfl, _, rfl, iteF ⟨_, rfl, is_bag T hb' (q H10 h10)⟩⟩
          · exact absurd h0 (by decide)
        · cases he
        · rcases tld with ⟨h0, _⟩ | ⟨h0, _⟩ | ⟨_, hh⟩
          · exact absurd h0 (by decide)
          · exact absurd h0 (by decide)
          · refine ⟨_, rfl, rfl, _, rfl, iteF ?_⟩
            refine ⟨_, rfl, rfl, _, rfl, iteF ?_⟩
            rcases hh with rfl | ⟨s', rfl, hs'⟩
            · exact ⟨_, rfl, _, rfl, iteT (q H10 h10)⟩
            · have hk' : (k : Int) = s'.length := by injection hs'
              refine ⟨_, rfl, _, rfl, iteF ?_⟩
              refine ⟨_, rfl, .str s', _, _, _, true, rfl, .ty "str", .base (.str s'), kit_ty (by decide +kernel), _, rfl, iteT ?_⟩
              refine ⟨_, rfl, s', rfl, by omega, _, rfl, rfl, ?_⟩
              rw [decide_eq_true (show V.int (s'.length : Int) = V.int (k : Int) by rw [hk'])]
              exact q H10 h10
def spLaw (K : PySem.W.Frag) : Sp := fun vs H Q _ => ∃ (a : Addr) (ns : List Int), vs = [.ref a] ∧ SqL K H a (ns.map V.int) ∧ ∀ H', Q (.bl true) H'
abbrev nLaw : List Str := ["_law_script", "_law_tape_here", "_law_turn"]
theorem sc_law : FnScope nLaw ["_law_script"] (defScope s_law) := ⟨rfl, rfl, rfl, by decide +kernel, rfl, by decide +kernel, by decide +kernel⟩
theorem ok_law (T : Top K mg) {fd : FuncData} (F : FnP K "law" "law" s_law (He.fAd K ("law", none)) fd) : FnOk P w K mg base CX0 14 (He.ga K "law") fd ["_law_script"] (spLaw K) := by
  refine F.ok sc_law (fun vs H Q E h => ?_) (fun cdv A outer s H vs Q E hr h => ?_)
  · obtain ⟨a, ns, rfl, _⟩ := h
    rfl
  · obtain ⟨a, ns, rfl, hS, q⟩ := h
    have nd := sc_law.nd
    have hs : sizeLine = 16777216 := sizeLine_eq
    have hr1 : Room 1 _ := hr.mono (by decide)
    refine ⟨_, PSs.nox (pss_cons (ps_set (i := 1) nd rfl (Or.inl rfl) (pc (ok_tape T) hr1 (pa_cons (pv 0) pa_nil)))
      (pss_cons (ps_for PassesOwn.never rfl (pi_range1 (by rfl) (f_range T) (pa_cons (pe_callB (call_max2 rfl) (by rfl) (f_max T) (by decide +kernel) (pa_cons pe_int (pa_cons (pe_callB (call_min2 rfl) (by rfl) (f_min T) (by decide +kernel) (pa_cons pe_int (pa_cons (pe_callB call_len (by rfl) (f_len T) PySem.boot_len (pa_cons (pv 0) pa_nil)) pa_nil))) pa_nil))) pa_nil)) (pg_name (i := 2) nd rfl (Or.inl rfl))
        (pss_one (ps_if (pt_not (pt_val (pc (ok_q T) hr (pa_cons (pv 1) pa_nil)))) (pss_one (ps_ret pe_bl)) pss_nil)))
      (pss_one (ps_ret pe_bl)))), ?_⟩
    refine ⟨_, rfl, a, ns, rfl, hS, fun H1 h ca s1 h1 => ?_⟩
    have hS1 := SqL.ext hS s1
    refine ⟨_, rfl, _, _, rfl, .inl ⟨_, hS1, rfl⟩, _, _, rfl, _, _, rfl, ?_⟩
    obtain ⟨N, hN, hN2⟩ : ∃ N : Nat, (if (if (((ns.map V.int).length : Nat) : Int) < 16 then (((ns.map V.int).length : Nat) : Int) else 16) > 4 then (if (((ns.map V.int).length : Nat) : Int) < 16 then (((ns.map V.int).length : Nat) : Int) else 16) else 4) = (N : Int) ∧ N ≤ 16 := by
      generalize (ns.map V.int).length = m
      by_cases h1 : (m : Int) < 16
      · rw [if_pos h1]
        by_cases h2 : (m : Int) > 4
        · rw [if_pos h2]
          exact ⟨m, rfl, by omega⟩
        · rw [if_neg h2]
          exact ⟨4, rfl, by decide⟩
      · rw [if_neg h1]
        exact ⟨16, rfl, by decide⟩
    rw [hN]
    refine ⟨_, rfl, by omega, by omega, ?_⟩
    refine for_it walk_range (fun i σ H' => (∃ v, σ = [some (.ref a), some (.ref h), v]) ∧ TapeAt ca H' h) ⟨⟨none, rfl⟩, h1⟩ (fun _ _ _ _ _ => trivial) ?_ ?_
    · rintro i x σ H2 H3 hi ⟨⟨v, rfl⟩, h2⟩ ⟨rfl, rfl⟩
      refine ⟨_, rfl, h, ca, rfl, h2, fun H4 h4 => ⟨true, rfl, iteF ?_⟩⟩
      exact ⟨⟨_, rfl⟩, h4⟩
    · rintro σ H2 ⟨⟨v, rfl⟩, h2⟩
      exact q H2
end
end Fp

set_option Elab.async false
set_option linter.all false
set_option maxRecDepth 100000
set_option maxHeartbeats 0
namespace Fp
open PySem PySem.Spec PyProof.Rows L2
abbrev R : PySem.W.OpenRow := PySem.W.OpenLaw.row PySem.Challenge.rw_frontparts_k72_beginnings_refused
abbrev hk : PySem.W.Hook := He.hookX 5 fa fn [] [] ex
def ob (s : PySem.W.SharedT) : He.AlX := He.obsX 5 fa fn [] [] ex (HandSHeadRun.getT s)
theorem ob_eq (s : PySem.W.SharedT) : ob s = hk.obs s.abs := He.obsX_eq (HandSHeadRun.getT_eq s)
def loose : List PySem.Str := "__name__" :: "BagError" :: "BadBag" :: "UnlikeClocks" :: "NoNumber" :: "IsNothing" :: "NoAlphabet" :: "NoLetters" :: "CLOCKS" :: "LETTERS" :: "is_integer" :: "is_from_to" :: "is_clock" :: "is_word" :: "INVERSES" :: "inverse" :: "rank_of" :: "first_word" :: "tidied" :: "scaled" :: "added" :: "MOST_WORDS" :: "MOST_LETTERS_bags" :: "Bag" :: "are_words" :: "is_short_word" :: "pairs_of" :: "bag_of" :: "table_of" :: "has_only" :: "check_clocks" :: "check_something" :: "less" :: "mirrored" :: "reduced" :: "reduce_at" :: "start_of" :: "take_off" :: "divided" :: "rest_behind" :: "rest_ahead" :: "ALPHABETS" :: "MOST_LETTERS_starts" :: "is_full" :: "beginnings" :: "unmet" :: "check_alphabet" :: "check_over" :: "_law_tape" :: "_law_draw" :: "_law_clock" :: "_law_word" :: "_law_some" :: "_law_alphabet" :: "_law_thing" :: "_law_letters_of" :: "_law_ask" :: "_law_due" :: "_law_question" :: []
theorem run_false (w0 : World) : (fun w => HandSHeadRun.RunEqI R (PySem.W.view R.prog [0, 67]) hk ob 20000 loose w) (w0.withFollow "special-get-raises" false) := by
  show HandSHeadRun.RunEqI _ _ _ _ _ _ _
  unfold HandSHeadRun.RunEqI
  kernel_rfl
theorem run_true (w0 : World) : (fun w => HandSHeadRun.RunEqI R (PySem.W.view R.prog [0, 67]) hk ob 20000 loose w) (w0.withFollow "special-get-raises" true) := by
  show HandSHeadRun.RunEqI _ _ _ _ _ _ _
  unfold HandSHeadRun.RunEqI
  kernel_rfl
theorem run (w : World) : HandSHeadRun.RunEqI R (PySem.W.view R.prog [0, 67]) hk ob 20000 loose w := PySem.W.byRow2 "special-get-raises" (P := fun w => HandSHeadRun.RunEqI R (PySem.W.view R.prog [0, 67]) hk ob 20000 loose w) run_false run_true w
theorem top_of {w : World} {h h' : Heap} {K : PySem.W.Frag} {mg : Str → Option Value} (X : K.In h) (G : h.Ns mainGlobals mg) (c : He.SaysX fa fn [] [] ex w h' K) : Top K mg := ⟨⟨h, X, G⟩, c.t.d, c.more⟩
end Fp

set_option Elab.async false
set_option linter.all false
set_option maxRecDepth 100000
set_option maxHeartbeats 8000000
open PySem PySem.W PySem.Calls PyProof.Rows
theorem PySem.Challenge.cw_frontparts_k72_beginnings_refused_holds : PySem.Challenge.rw_frontparts_k72_beginnings_refused.Holds := by
  w_on; o_law
  refine HandSHeadRun.head_imp (r := OpenLaw.row PySem.Challenge.rw_frontparts_k72_beginnings_refused) (q := view (OpenLaw.row PySem.Challenge.rw_frontparts_k72_beginnings_refused).prog [0, 67]) (H := Fp.hk) (ob := Fp.ob) (M := 20000) (loose := Fp.loose) (d := HandSHeadRun.topDef (OpenLaw.row PySem.Challenge.rw_frontparts_k72_beginnings_refused).prog 67) (kwd := []) Fp.ob_eq
    Fp.run (by kernel_rfl) (by kernel_rfl) (by kernel_rfl) (by rfl) (by first | assumption | decide +kernel) (by decide +kernel) ⟨rfl, rfl, rfl, rfl, rfl, by decide +kernel⟩ ?hw ?hc
  case hw => w_witness2
  case hc =>
    refine L2.walk_ofE (l := PySem.Challenge.rw_frontparts_k72_beginnings_refused) (n := 63) (k := 14) (x := "_law_script") (CX := L2.CX0) rfl (by decide) (by kernel_rfl) ⟨rfl, by decide, by decide⟩ ?F (fun _ _ _ _ z => z)
    intro w mg fa h Y G hmg0
    obtain ⟨K, KX, c⟩ := Y
    have hmg : mg ("law" : PySem.Str) = some (.ref fa) := by
      have e : (HandSHeadRun.topDef (OpenLaw.row PySem.Challenge.rw_frontparts_k72_beginnings_refused).prog 67).name = ("law" : PySem.Str) := by kernel_rfl
      rw [← e]
      exact hmg0
    have T := Fp.top_of KX G c
    obtain ⟨fd, F⟩ := Fp.fn_law T
    have e := hmg.symm.trans (Fp.g_law T)
    cases e
    have b := L2.FunD.bindsA (ps := ["_law_script"]) F fun _ _ _ _ _ _ us hl => match us, hl with | [_], _ => rfl
    exact ⟨K, fd, Fp.spLaw K, KX, fun s v => b s [v] rfl, fun H a ns hl _ hS => ⟨a, ns, rfl, hS, fun _ => rfl⟩, fun base _ _ => Fp.ok_law T F⟩
