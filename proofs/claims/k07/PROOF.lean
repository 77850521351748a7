import PyProof.Rows.All
import Wide.All
import OpenK.AllK
import Wide.FinOn
import HandS.ForMost
import HandS.More
import HandS.OwnEq
import HandS.IsInst
import HandS.WordsExc
import HandS.Defaults
import HandS.SortKw
import KE.SortData
import KE.SortKeyHeap
import HandS.StrMore
import HandS.Walk
import HandS.Style
import KE.KDictPairs
import HandS.HeadHook1
import HandS.HeadHook2
import HandS.HeadHook3
import HandS.HeadHook4
import KE.KExcIs
import HandS.ExcInit
import HandS.ExcIs
import HandS.ExcField
import HandS.ExcValue
import HandS.DeepEq
import HandS.HotCalls
import Wide.Once
import KE.KStateDown
import Lean
import HandS.Head0
import HandS.Head1
import HandS.Head2
import HandS.HeadEnd
import PySem.Challenge.RW_frontparts_k07_errors_of_the_package
set_option Elab.async false
set_option linter.all false
set_option maxRecDepth 100000
set_option maxHeartbeats 2000000
/-! == and != of an instance by an own __eq__, whatever stands at the right -/
namespace Fp
open PySem PySem.Spec PyProof.Rows PySem.SeqAt
section
variable {M : Model} {prog : Program} {w : World} {A : Around} {E : Value → Shared → Prop} {s : Shared} {K : PySem.W.Frag} {x C f : Addr} {ox : Obj} {od : Option Obj} {b tb : Value}
theorem ifBound_objNe {args : List Value} {Q : Option Value → Shared → Prop} (X : K.In s.heap) (I : PySem.W.InstAt s.heap x ox C od) (hs : PySem.W.findIn K (.ref C) "__ne__" = some (some (.builtin "object.__ne__")))
    (h : wpAny M A (call (.builtin "object.__ne__") (.ref x :: args)) (fun v => Q (some v)) E s) : wpAny M A (callSpecialIfBound? (.ref x) "__ne__" args) Q E s := by
  simp only [callSpecialIfBound?, bindSpecialIfBound?]
  refine wpAny_holding (wpAny_bind (wpAny_bind (wpAny_bind (I.type.here ((PySem.W.looks_findIn X hs).here ?_)))))
  refine wpAny_bind (wpAny_askSetting (wpAny_ite ?_))
  have fin : wpAny M A (call (.builtin "object.__ne__") ([.ref x] ++ args) >>= fun v => pure (some v)) Q E s := wpAny_bind (wpAny_mono h (fun v s' h' => wpAny_pure h') fun _ _ h' => h')
  split
  · exact wpAny_bind (wpAny_of_eq (F.cmp_object.ne.bind _) (wpAny_pure (by exact fin)))
  · exact wpAny_tryCatch (wpAny_bind (wpAny_of_eq (F.cmp_object.ne.bind _) (wpAny_pure (by exact fin))))
theorem entry_ne {Q : Fin → Shared → Prop} (hu : A.units < cLine) (X : K.In s.heap) (I : PySem.W.InstAt s.heap x ox C od) (hs : PySem.W.findIn K (.ref C) "__eq__" = some (some (.ref f))) (hf : PySem.W.isFn K (.ref f) = true)
    (hcall : wpAny (model prog w) A (call (.ref f) [.ref x, b]) (fun v s' => ∃ r, v = .bool r ∧ Q (.done (.ret (.bool (!r)))) s') E s) :
    wpAny (model prog w) A (Builtin.«object.__ne__» ⟨[.ref x, b], []⟩) Q E s := by
  unfold Builtin.«object.__ne__»
  repeat (first
    | with_reducible refine wpAny_cRoomFor hu ?_
    | (refine wpAny_bind (m := callSpecialIfBound? (.ref x) (Str.ofString "__eq__") [b])
        (PySem.W.ifBound_K X I hs hf (wpAny_mono hcall (fun r s' hr => by
          obtain ⟨b, rfl, hq⟩ := hr
          repeat (first | exact hq | exact wpAny_pure hq | exact wpAny_truthy_bool hq | (refine wpAny_bind (m := truthy (.bool _)) (wpAny_truthy_bool ?_)) | wp_step)) fun _ _ e => e)))
    | wp_step)
theorem cmpNe_K {Q : Value → Shared → Prop} (hu : A.units + 1 < cLine) (X : K.In s.heap) (I : PySem.W.InstAt s.heap x ox C od) (hb : PySem.W.Looks (model prog w) s.heap (typeOf b) tb) (hn : PySem.W.notFirst K C tb = true)
    (hne : PySem.W.findIn K (.ref C) "__ne__" = some (some (.builtin "object.__ne__"))) (hs : PySem.W.findIn K (.ref C) "__eq__" = some (some (.ref f))) (hf : PySem.W.isFn K (.ref f) = true) (hm : PySem.W.mroIn K C (.type "object") = some true)
    (h : wpAny (model prog w) A.in1 (call (.ref f) [.ref x, b]) (fun v s' => ∃ r, v = .bool r ∧ Q (.bool (!r)) s') E s) : wpAny (model prog w) A (richCompare .NotEq (.ref x) b) Q E s := by
  have one : wpAny (model prog w) A (tryCompare (.ref x) "__ne__" b) (fun r s' => ∃ v, r = some v ∧ Q v s') E s := by
    unfold tryCompare
    refine wpAny_bind (ifBound_objNe X I hne ?_)
    refine wpAny_call (codeAny_call_builtin F.cmp_object.ne.plain F.cmpEntry_ne (PySem.W.check_slot F.cmpKind_ne F.cmpSplit_ne (I.type.andThen (PySem.W.looks_mroIn X hm)) (F.cmpArgs_ne _ _)
      (entry_ne (A := A.in1) (show A.in1.units < cLine from hu) X I hs hf (wpAny_mono h (fun v s' hv => ?_) fun _ _ e => e))))
    obtain ⟨r, rfl, hq⟩ := hv
    exact ⟨r, rfl, wpAny_pure ⟨_, rfl, hq⟩⟩
  unfold richCompare
  simp only [oneThing_ref]
  refine wpAny_holding (wpAny_bind (wpAny_cRoomFor (Nat.lt_of_succ_lt hu) ?_))
  rw [show cmpInfo .NotEq = (("!=", "__ne__", "__ne__") : String × Str × Str) from rfl]
  dsimp only
  refine wpAny_bind (I.type.here (wpAny_bind (hb.here ?_)))
  split
  · rename_i q
    have e : PySem.W.subIn K tb (.ref C) = some false := by
      rcases Bool.or_eq_true_iff.mp hn with e | e
      · rw [beq_iff_eq.mp e] at q; simp at q
      · exact beq_iff_eq.mp e
    refine wpAny_bind ((PySem.W.looks_subIn X e).here ?_)
    simp only [Bool.false_eq_true, if_false]
    refine wpAny_bind (wpAny_mono one (fun r s' z => ?_) fun _ _ e => e)
    obtain ⟨v, rfl, hq⟩ := z
    exact wpAny_pure hq
  · refine wpAny_bind (wpAny_pure ?_)
    simp only [Bool.false_eq_true, if_false]
    refine wpAny_bind (wpAny_mono one (fun r s' z => ?_) fun _ _ e => e)
    obtain ⟨v, rfl, hq⟩ := z
    exact wpAny_pure hq
end
end Fp
namespace L2
open PySem PySem.Spec PyProof.Rows
def rOwnEq (K : PySem.W.Frag) (C : Addr) (sp : Sp) : R2 := fun x y H Q => ∃ a dx fs t, x = .ref a ∧ H a = some (.ins C dx fs) ∧ TyX K H y t ∧ PySem.W.notFirst K C t = true ∧ sp [x, y] H (fun v H' => ∃ r, v = .bl r ∧ Q (.bl r) H') (fun _ _ _ => False)
def rOwnNe (K : PySem.W.Frag) (C : Addr) (sp : Sp) : R2 := fun x y H Q => ∃ a dx fs t, x = .ref a ∧ H a = some (.ins C dx fs) ∧ TyX K H y t ∧ PySem.W.notFirst K C t = true ∧ sp [x, y] H (fun v H' => ∃ r, v = .bl r ∧ Q (.bl (!r)) H') (fun _ _ _ => False)
section
variable {X : Cx} {C f : Addr} {fd : FuncData} {ps : List Str} {sp : Sp} {n : Nat}
theorem op_ownEq (F : FnOk X.prog X.w X.K X.mg X.base CX0 n f fd ps sp) (hs : PySem.W.findIn X.K (.ref C) "__eq__" = some (some (.ref f))) (hf : PySem.W.isFn X.K (.ref f) = true) (hb : Binds X.K fd ps []) (hr : Room n X.A) :
    OpR X (compareOp .Eq) (rOwnEq X.K C sp) := by
  intro pins s σ H x y v u Q I rx ry hq
  obtain ⟨a, dx, fs, t, rfl, ha, ty, hn, hsp⟩ := hq
  cases rx
  obtain ⟨mA, J, _⟩ := ins_get I.hok ha
  obtain ⟨od, J, _⟩ := J.look
  obtain ⟨P, Z, p, _⟩ := kit_of I ry ty
  obtain ⟨m, hF⟩ := I.fr
  show wpAny (model X.prog X.w) X.A (richCompare .Eq _ u) (EP X pins σ Q) X.xe s
  refine PySem.W.cmp_K (op := .Eq) (tb := t) hr.units0 hF I.ok.mod.kin J (Z.ty _ _ I.kIn p) hn hs hf ?_
  have hl := F.len _ _ _ _ hsp
  have r2 : Vals [V.ref a, y] [Value.ref a, u] := .cons rfl (.cons ry .nil)
  refine wpAny_call (codeAny_mono (F.run X.A X.stack s H ⟨[.ref a, u], []⟩ [.ref a, u] [.ref a, y] _ (fun _ _ _ => False) hr I.env0 (by
    have := hb s [.ref a, u] I.kIn (by simpa using hl)
    simpa using this) r2 hsp) fun r s' hq => ?_)
  cases r with
  | error e => exact pass0 pins σ H s e s' I hq
  | ok fl =>
    cases fl with
    | ret w =>
      obtain ⟨z, H', I', rz, r, ez, q⟩ := I.after hq
      subst ez
      cases rz
      exact ⟨.bl r, H', I', rfl, q⟩
    | next => exact False.elim hq
    | brk => exact False.elim hq
    | cont => exact False.elim hq
theorem op_ownNe (F : FnOk X.prog X.w X.K X.mg X.base CX0 n f fd ps sp) (hne : PySem.W.findIn X.K (.ref C) "__ne__" = some (some (.builtin "object.__ne__"))) (hs : PySem.W.findIn X.K (.ref C) "__eq__" = some (some (.ref f))) (hf : PySem.W.isFn X.K (.ref f) = true)
    (hm : PySem.W.mroIn X.K C (.type "object") = some true) (hb : Binds X.K fd ps []) (hr : Room (n + 1) X.A) :
    OpR X (compareOp .NotEq) (rOwnNe X.K C sp) := by
  intro pins s σ H x y v u Q I rx ry hq
  obtain ⟨a, dx, fs, t, rfl, ha, ty, hn, hsp⟩ := hq
  cases rx
  obtain ⟨mA, J, _⟩ := ins_get I.hok ha
  obtain ⟨od, J, _⟩ := J.look
  obtain ⟨P, Z, p, _⟩ := kit_of I ry ty
  show wpAny (model X.prog X.w) X.A (richCompare .NotEq _ u) (EP X pins σ Q) X.xe s
  have hu : X.A.units + 1 < cLine := hr.in1.units0
  refine Fp.cmpNe_K (tb := t) hu I.kIn J (Z.ty _ _ I.kIn p) hn hne hs hf hm ?_
  have hl := F.len _ _ _ _ hsp
  have r2 : Vals [V.ref a, y] [Value.ref a, u] := .cons rfl (.cons ry .nil)
  refine wpAny_call (codeAny_mono (F.run X.A.in1 X.stack s H ⟨[.ref a, u], []⟩ [.ref a, u] [.ref a, y] _ (fun _ _ _ => False) hr.in1 I.env0.in1 (by
    have := hb s [.ref a, u] I.kIn (by simpa using hl)
    simpa using this) r2 hsp) fun r s' hq => ?_)
  cases r with
  | error e => exact pass0 pins σ H s e s' I hq
  | ok fl =>
    cases fl with
    | ret w =>
      obtain ⟨z, H', I', rz, r, ez, q⟩ := I.after hq
      subst ez
      cases rz
      exact ⟨r, rfl, .bl (!r), H', I', rfl, q⟩
    | next => exact False.elim hq
    | brk => exact False.elim hq
    | cont => exact False.elim hq
end
end L2

set_option Elab.async false
set_option linter.all false
set_option maxRecDepth 100000
set_option maxHeartbeats 2000000
/-! sorted(d, key=rank_of) of a dict of texts; sorted of tuples of an int and a text -/
namespace Fp
open PySem PySem.W PySem.Spec PyProof.Rows
/-- a word's rank -/
def rk (w : Str) : PyData := .tuple [.int (-(w.length : Int)), .str w]
def leR : Str → Str → Bool := dataLe false rk
def rkA (p : Pos) : Arguments := { posonlyargs := [], args := [{ arg := "word", annotation := none, pos := p }], vararg := none, kwonlyargs := [], kw_defaults := [], kwarg := none, defaults := [] }
def rkB (p1 p2 p3 p4 p5 p6 p7 : Pos) : List Stmt := [.Return (some (.Tuple [.UnaryOp .USub (.Call (.Name "len" p1) [.Name "word" p2] [] p3) p4, .Name "word" p5] 0 p6)) p7]
def rkS : Scope := { kind := .function, names := [(PySem.Str.ofString "word", .local), (PySem.Str.ofString "len", .globalImplicit)], isGenerator := false, isCoroutine := false, more := [] }
theorem ldC {M : Model} {s : Shared} {name : Str} {scope : Scope} {L a : Addr} {cd : Value} {m : Str → Option Value} {x : Str} {pos : Pos} {v : Value} {Q : Value → Shared → Prop} {A : Around} {E : Value → Shared → Prop} (hn : s.heap.Ns L m) (hv : m x = some v) (h : Q v s)
    (hk : scope.kind = .function := by rfl) (hl : (envOfC name scope L a cd).kindOf x = some .local := by rfl) (hd : (x == ("__debug__" : Str)) = false := by decide) :
    wpAny M A (eval (.Name x pos) (envOfC name scope L a cd)) Q E s := wpAny_Name (wpAny_loadName_local hk hl hn hv h) hd
section
variable {prog : Program} {w : World} {A : Around} {E : Value → Shared → Prop} {s : Shared} {K : Frag} {mg : Str → Option Value} {base : Heap} {fR : Addr} {fd : FuncData} {p0 p1 p2 p3 p4 p5 p6 p7 : Pos}
theorem rank_call (F : L2.FunD K "rank_of" "rank_of" (rkA p0) (rkB p1 p2 p3 p4 p5 p6 p7) rkS [] [] fR fd) (Mo : L2.Mod K mg base) (kb : ∀ b o, base.get? b = some o → s.heap.get? b = some o) (hlen : mg "len" = none) (hroom : A.depth + 1 < recursionLimit)
    {w0 : Str} {t : Tok} (hw : w0.length ≤ sizeLine) : wpAny (model prog w) A (call (.ref fR) [.str w0 t]) (KeyPure (rk w0) s) E s := by
  obtain ⟨oc, od, dV, kV, doc, pm, an, cdv, ct, osl, rfl, lk, hcd, hD, _⟩ := F.ex
  obtain rfl : dV = .none := by
    rcases hD with ⟨_, e⟩ | ⟨e, _⟩
    · exact e
    · exact absurd rfl e
  have X : K.In s.heap := Mo.kin.keeps kb
  refine wpAny_call (Att.call_fn (binds := [("word", .str w0 t)]) X (Mo.nolimit.keeps kb) lk hcd (Nat.lt_of_succ_lt hroom) (BindsTo.of_eq (by first | rfl | with_unfolding_all rfl)) (by first | rfl | decide | with_unfolding_all rfl) (fun s₁ IC => ?_) rfl rfl rfl)
  obtain ⟨h₁, tk₁, rfl⟩ := IC.toInCall.same
  have k : ∀ b o, s.heap.get? b = some o → h₁.get? b = some o := IC.toInCall.keep
  have hn := IC.toInCall.ns
  obtain ⟨mb, b1, b2⟩ := Mo.blt
  show wpAny _ _ (execs _ _) _ _ _
  refine wpAny_execs_cons (wpAny_Return_some (wpAny_Tuple_spliced ?_))
  show wpAny _ _ (spliced ((false, eval _ _) :: backTo p6 (starEach [_] _))) _ _ _
  refine Calls.spliced_cons (wpAny_UnaryOp ?_)
  refine wpAny_Call_Name_kw (Calls.Name_function_global rfl rfl (Calls.loadGlobal_builtin (Mo.glob.keeps fun b o e => k b o (kb b o e)) hlen (b1.keeps fun b o e => k b o (kb b o e)) ((b2 "len" (by decide)).trans boot_len) ?_) (by decide))
  refine callWith_builtin1 (spliced_more (ldC (v := .str w0 t) hn (by first | rfl | with_unfolding_all rfl | kernel_rfl) (spliced_none ?_))) rfl rfl
  have hs : sizeLine = 16777216 := sizeLine_eq
  have hl63 := L2.line63
  refine len_str (by omega) (neg_int ?_)
  show wpAny _ _ (spliced ((false, eval _ _) :: backTo p6 (starEach [] _))) _ _ _
  refine Calls.spliced_cons (ldC (v := .str w0 t) hn (by first | rfl | with_unfolding_all rfl | kernel_rfl) (Calls.spliced_nil ?_))
  refine ⟨by show 2 ≤ sizeLine; rw [sizeLine_eq]; decide, ?_⟩
  refine ⟨_, _, rfl, fun b o e => Heap.get?_push_of_some _ (k b o e), ?_⟩
  exact Reads.tuple (Heap.get?_push_size _ rfl) rfl rfl (by
    first
    | exact ReadsAll.cons (Reads.int _ _) (ReadsAll.cons (Reads.str _ _) ReadsAll.nil)
    | (have := ReadsAll.cons (h := Heap.push h₁ _) (Reads.int (-(w0.length : Int)) _) (ReadsAll.cons (Reads.str w0 t) ReadsAll.nil); simpa using this))
end
theorem alike_rk (a b : Str) : alike (rk a) (rk b) = true := by simp [rk, alike, alikeAll]
theorem rk_all (ws : List Str) : AllAlike (ws.map rk) := AllAlike.of alike_rk
theorem rk_sortable (ws : List Str) : Sortable (ws.map rk) := Sortable.tuples fun _ => ⟨_, _, rfl⟩
theorem rk_depth (w : Str) : (rk w).depth ≤ 2 := by simp [rk, PyData.depth, PyData.depthAll]
theorem vals_strs : ∀ {us : List Value} {ws : List Str}, EachIs (fun v w => ∃ t, v = Value.str w t) us ws → L2.Vals (ws.map L2.V.str) us
  | _, _, .nil => .nil
  | _, _, .cons h t => .cons h (vals_strs t)
theorem strs_each : ∀ {us : List Value} {ks : List Str}, us.length = ks.length → (∀ (j : Nat) (v : Value), us[j]? = some v → ∃ (x : Str) (t : Tok), ks[j]? = some x ∧ v = Value.str x t) → EachIs (fun v w => ∃ t, v = Value.str w t) us ks
  | [], [], _, _ => .nil
  | u :: us, k :: ks, hl, h => by
    obtain ⟨x, t, e1, e2⟩ := h 0 u rfl
    have e1' : k = x := Option.some.inj e1
    subst e1'
    refine .cons ⟨t, e2⟩ (strs_each (by simpa using hl) fun j v e => ?_)
    obtain ⟨x, t, a, b⟩ := h (j + 1) v (by simpa using e)
    exact ⟨x, t, by simpa using a, b⟩
  | [], _ :: _, hl, _ => by simp at hl
  | _ :: _, [], hl, _ => by simp at hl
/-- a pair of an int and a text, at an address -/
abbrev IS : Type := Addr × Int × Str
def enIS (p : IS) : PyData := .tuple [.int p.2.1, .str p.2.2]
def leIS : IS → IS → Bool := dataLe false enIS
theorem is_all (ws : List IS) : AllAlike (ws.map enIS) := AllAlike.of fun a b => by simp [enIS, alike, alikeAll]
theorem is_sortable (ws : List IS) : Sortable (ws.map enIS) := Sortable.tuples fun _ => ⟨_, _, rfl⟩
theorem is_depth (w : IS) : (enIS w).depth ≤ 2 := by simp [enIS, PyData.depth, PyData.depthAll]
theorem refs_each : ∀ {ps : List IS} {us : List Value}, L2.Vals (ps.map fun p => L2.V.ref p.1) us → EachIs (fun v p => v = Value.ref p.1) us ps
  | [], _, h => by cases h; exact .nil
  | p :: ps, _, h => by
    cases h with
    | cons r t => exact .cons r (refs_each t)
theorem each_refs : ∀ {us : List Value} {ps : List IS}, EachIs (fun v p => v = Value.ref p.1) us ps → L2.Vals (ps.map fun p => L2.V.ref p.1) us
  | _, _, .nil => .nil
  | _, _, .cons h t => .cons h (each_refs t)
end Fp
namespace L2
open PySem PySem.Spec PyProof.Rows
def rSortRk (fR : Addr) : List V → List V → Hp → VK → Prop := fun vs zs H Q => ∃ (a : Addr) (kvs : List (Key × V)) (ws : List Str), vs = [.ref a] ∧ zs = [.ref fR] ∧ Rd H a (.dK kvs) ∧ kvs.map (·.1) = ws.map Sum.inr ∧ (∀ w ∈ ws, w.length ≤ sizeLine) ∧
  ∀ p, H p = none → Q (.ref p) (upd H p (.lst ((ws.mergeSort Fp.leR).map V.str)))
section
variable {X : Cx} {fR : Addr} {fd : FuncData} {p0 p1 p2 p3 p4 p5 p6 p7 : Pos}
/-- sorted(d, key=rank_of) -/
theorem cr_sortRk (hcalm : X.calm = true) (F : FunD X.K "rank_of" "rank_of" (Fp.rkA p0) (Fp.rkB p1 p2 p3 p4 p5 p6 p7) Fp.rkS [] [] fR fd) (hlen : X.mg "len" = none) (hr : Room 1 X.A) : CallRK X (.builtin "sorted") [Str.ofString "key"] (rSortRk fR) := by
  intro pins s σ H vs zs us ws Q I r rz h
  obtain ⟨a, kvs, ks, rfl, rfl, hd, hks, hwl, q⟩ := h
  obtain rfl := Vals.ref1 r
  obtain ⟨w1, rfl, e1⟩ := vals1 rz
  obtain rfl : w1 = Value.ref fR := e1
  obtain ⟨z, lo, vs, rel, dd⟩ := dk_rd I.hok hd
  obtain ⟨ep, hat⟩ := dd.dictAt
  have hkeys : vs.map (·.1) = ks.map Sum.inr := rel.keys.symm.trans hks
  have hl : vs.length = ks.length := by
    have e := congrArg List.length hkeys
    rw [List.length_map, List.length_map] at e
    exact e
  have hlk : kvs.length = ks.length := by
    have e := congrArg List.length hks
    rw [List.length_map, List.length_map] at e
    exact e
  have h16 : vs.length ≤ sizeLine := by rw [hl, ← hlk]; exact z
  refine PyProof.Rows.call_function_entry_kw PyProof.Rows.kind_sorted PyProof.Rows.plain_sorted PyProof.Rows.entry_sorted (PyProof.Rows.ksk_s1 _ _) ?_
  unfold Builtin.«sorted»
  refine wpAny_bind (m := checkCount "sorted" 1 1 _) (wpAny_pure ?_)
  refine wpAny_bind (PySem.W.kdu_collect (A := X.A.in1) (PySem.W.kdl_dict (knd := mixKind X.prog X.w) (kvs := vs) (ep := ep) lo) (I.ok.hd hcalm) hat h16 fun h' tk acc hk hacc => ?_)
  have hal : acc.toList.length = ks.length := by rw [Array.length_toList, hacc.1, hl]
  have hS : PySem.W.EachIs (fun v w => ∃ t, v = Value.str w t) acc.toList ks := Fp.strs_each hal fun j v e => by
    obtain ⟨k, x, e1, e2⟩ := hacc.2 j v (by rw [← Array.getElem?_toList]; exact e)
    have e3 : (vs.map (·.1))[j]? = some k := by rw [List.getElem?_map, e1]; all_goals rfl
    rw [hkeys, List.getElem?_map] at e3
    cases e4 : ks[j]? with
    | none => rw [e4] at e3; cases e3
    | some y =>
      rw [e4] at e3
      have e5 : Sum.inr y = k := Option.some.inj e3
      subst e5
      obtain ⟨t, ev⟩ := Value.isStrOf_shape (x := y) (v := v) e2
      exact ⟨y, t, rfl, ev⟩
  have I1 : Inv X pins σ H { s with heap := h', toks := tk } := I.kept hk
  refine wpAny_bind (wpAny_newList ?_ (by rw [hal, ← hlk]; exact z))
  have hoL : (h'.push (seqObj "list" acc.toList.toArray 0)).get? h'.objs.size = some (seqObj "list" acc.toList.toArray 0) := Heap.get?_push_size _ rfl
  show wpAny _ _ _ _ _ { s with heap := h'.push (seqObj "list" acc.toList.toArray 0), toks := tk }
  refine wpAny_bind (wpAny_holding (wpAny_call_entry_kw slot_list_sort ⟨_, hoL, rfl⟩ entry_list_sort ?body (PyProof.Rows.ksk_l1 _ _)))
  case body =>
    show wpAny (model X.prog X.w) X.A.in1.in1 (Builtin.«list.sort» ⟨[.ref h'.objs.size], [(Str.ofString "key", .ref fR)]⟩) _ _ _
    rw [ksk_t1]
    have hun := hr.un
    have hdp := hr.dp
    refine PySem.W.keyH_tree (kz := ks.map Fp.rk) (s := { s with heap := h'.push (seqObj "list" acc.toList.toArray 0), toks := tk }) hoL (by rw [List.length_map]; exact hal.symm) (by rw [hal, ← hlk]; exact z) (Fp.rk_all ks) (Fp.rk_sortable ks)
      (fun d hd => by
        obtain ⟨w, _, rfl⟩ := List.mem_map.mp hd
        have := Fp.rk_depth w
        show X.A.units + 1 + 1 + _ < _
        omega)
      (PySem.W.keyH_turns (s := { s with heap := h'.push (seqObj "list" acc.toList.toArray 0), toks := tk }) hS fun v x hR hx h tk2 kp => ?_) fun h2 tk2 out c kp hD ko => ⟨_, rfl, ?_⟩
    · obtain ⟨t, rfl⟩ := hR
      refine Fp.rank_call (s := { s with heap := h, toks := tk2 }) F I.ok.mod (fun b o e => ?_) hlen ?_ (hwl x hx)
      · have e1 : s.heap.get? b = some o := I.bk b o e
        have e2 : h'.get? b = some o := hk b o e1
        exact kp b o (Nat.ne_of_lt (Heap.lt_size e2)) (Heap.get?_push_of_some _ e2)
      · show X.A.depth + 1 < _
        omega
    · have ev := PySem.W.keyedOut_each Fp.rk ko hS
      have hlen2 : ((ks.mergeSort Fp.leR).map V.str).length ≤ sizeLine := by
        rw [List.length_map, List.length_mergeSort, ← hlk]
        exact z
      refine wpAny_pure ⟨_, rfl, .ref h'.objs.size, upd H h'.objs.size (.lst ((ks.mergeSort Fp.leR).map V.str)), I1.laid (t' := tk2) (fun b u e => kp b u (Nat.ne_of_lt (Heap.lt_size e)) (Heap.get?_push_of_some _ e)) (Nat.le_refl _)
        (show ObjOk X.prog X.w _ _ _ (.lst ((ks.mergeSort Fp.leR).map V.str)) from ⟨hlen2, out, c, Fp.vals_strs ev, hD⟩), rfl, q _ (I1.hok.fresh (Nat.le_refl _))⟩
/-- sorted(xs), xs a list of pairs of an int and a text -/
def rSortIS (K : PySem.W.Frag) : List V → Hp → VK → Prop := fun vs H Q => ∃ (a : Addr) (ps : List Fp.IS), vs = [.ref a] ∧ SqL K H a (ps.map fun p => V.ref p.1) ∧ (∀ p ∈ ps, H p.1 = some (.tup [.int p.2.1, .str p.2.2])) ∧
  ∀ p, H p = none → Q (.ref p) (upd H p (.lst ((ps.mergeSort Fp.leIS).map fun p => V.ref p.1)))
theorem cr_sortIS (hr : Room 1 X.A) : CallR X (.builtin "sorted") (rSortIS X.K) := by
  intro pins s σ H vs us Q I r h
  obtain ⟨a, ps, rfl, hs, hp, q⟩ := h
  obtain rfl := Vals.ref1 r
  obtain ⟨its, rv, hl, hz⟩ := I.list hs
  have hE := Fp.refs_each rv
  have hl2 : its.length = ps.length := by rw [← rv.length, List.length_map]
  have hun := hr.un
  have hz2 : ps.length ≤ sizeLine := by rw [List.length_map] at hz; exact hz
  refine PySem.W.sorted_data (enc := Fp.enIS) (bs := ps) hl.isList hE ?_ (Fp.is_all ps) (Fp.is_sortable ps) hz2 (fun b hb => ?_) fun out hlo ho => ?_
  · refine PySem.W.EachIs.of_zip hl2 fun z hz => ?_
    obtain ⟨v, p⟩ := z
    have hv : v = Value.ref p.1 := PySem.W.EachIs.zip hE (v, p) hz
    have hm : p ∈ ps := (List.of_mem_zip hz).2
    obtain ⟨_, its2, r2, o, h1, h2, n, h3⟩ := I.hok _ _ (hp p hm)
    obtain ⟨u1, u2, rfl, ⟨t1, e1⟩, ⟨t2, e2⟩⟩ := vals2 r2
    subst hv e1 e2
    exact ⟨_, Reads.tuple h1 h2 h3 (ReadsAll.cons (Reads.int _ _) (ReadsAll.cons (Reads.str _ _) ReadsAll.nil))⟩
  · have := Fp.is_depth b
    omega
  · obtain ⟨ep, he'⟩ := PyProof.Rows.sortedAll_at s.heap its out.toArray
    have hlen : ((ps.mergeSort Fp.leIS).map fun p => V.ref p.1).length ≤ sizeLine := by
      rw [List.length_map, List.length_mergeSort]
      exact hz2
    exact ⟨.ref _, upd H (s.heap.objs.size + 1) (.lst ((ps.mergeSort Fp.leIS).map fun p => V.ref p.1)), I.laid (t' := s.toks) (fun _ _ => PyProof.Rows.sortedAll_old) (Nat.le_succ _) ⟨hlen, out, ep, Fp.each_refs ho, he'⟩, rfl, q _ (I.hok.fresh (Nat.le_succ _))⟩
end
end L2

set_option Elab.async false
set_option linter.all false
set_option maxRecDepth 100000
set_option maxHeartbeats 2000000
/-! what is shared: a def by its name, heaps, tables of words -/
namespace L2
open PySem PySem.Spec PyProof.Rows
/-- a tuple as tuple() makes it: no dict of its own -/
def PlainTup (o : Obj) : Prop := o.cls = .type "tuple" ∧ o.dict = none ∧ ∃ (its : Array Value) (n : Nat), o.data = .seq its n
section
variable {X : Cx}
/-- tuple(l): a new tuple, its object known -/
theorem call_tupleF : CallR X (.type "tuple") (fun xs H Q => ∃ p ys, xs = [.ref p] ∧ SqL X.K H p ys ∧ ∀ l o, H l = none → PlainTup o → Q (.ref l) (upd H l (.frz o (.tup ys)))) := by
  intro pins s σ H xs us Q I r h
  obtain ⟨p, ys, rfl, hq, q⟩ := h
  obtain ⟨u, rfl, rx⟩ := vals1 r
  cases rx
  obtain ⟨its, r', pl, hz⟩ := I.list hq
  have hlen := r'.length
  refine call_tuple_list pl.isList (fun h' kp => ?_) (by simp only [List.size_toArray] <;> omega)
  have I1 : Inv X pins σ H { s with heap := h' } := I.kept (t' := s.toks) kp
  have I2 : Inv X pins σ (upd H h'.objs.size (.frz { cls := .type "tuple", data := .seq its.toArray } (.tup ys))) { s with heap := h'.push { cls := .type "tuple", data := .seq its.toArray } } :=
    I1.laid (t' := s.toks) (fun b o e => Heap.get?_push_of_some _ e) (Nat.le_refl _) (show ObjOk X.prog X.w _ _ _ (.frz _ (.tup ys)) from ⟨Heap.get?_push_size _ rfl, hz, its, r', IsTup.new _ _⟩)
  exact ⟨.ref h'.objs.size, _, I2, rfl, q _ _ (I1.hok.fresh (Nat.le_refl _)) ⟨rfl, rfl, _, _, rfl⟩⟩
theorem refs_get : ∀ {ps : List Addr} {us : List Value}, Vals (ps.map V.ref) us → us = ps.map Value.ref
  | [], _, h => by cases h; rfl
  | p :: ps, _, h => by
    cases h with
    | cons r t =>
      cases r
      rw [refs_get t] <;> rfl
/-- dict(t), t such a tuple of pairs -/
theorem call_dictPT (hcalm : X.calm = true) : CallR X (.type "dict") (fun xs H Q => ∃ (a : Addr) (o : Obj) (ps : List Addr) (kvs : List (Key × V)), xs = [.ref a] ∧ H a = some (.frz o (.tup (ps.map V.ref))) ∧ PlainTup o ∧ Paired (fun p kv => SqT X.K H p [kV kv.1, kv.2]) ps kvs ∧
    ∀ p, H p = none → Q (.ref p) (upd H p (.dK (mergeK [] kvs)))) := by
  intro pins s σ H xs us Q I r q
  obtain ⟨a, o, ps, kvs, ex, hq, ⟨pc, pd, pits, pn, pdat⟩, hp, q⟩ := q
  subst ex
  obtain ⟨u, eu, rx⟩ := vals1 r
  subst eu
  cases rx
  obtain ⟨ho, hz, its, rv, o2, ho2, hc2, n2, hdat2⟩ := (show ObjOk X.prog X.w H s.heap a (.frz o (.tup (ps.map V.ref))) from I.hok a _ hq)
  rw [ho] at ho2
  cases ho2
  have ei := refs_get rv
  subst ei
  rw [List.length_map] at hz
  obtain ⟨prs, rel, hl, hpr⟩ := pairs_of I hp
  -- the keys' values
  have hks : ∃ us : List Value, us.length = prs.length ∧ ∀ (j : Nat) (q : Key × Value), prs[j]? = some q → ∃ (b : Addr) (u : Value), us[j]? = some u ∧ ps[j]? = some b ∧ IsTup s.heap b #[u, q.2] ∧ keyIs q.1 u = true := by
    have hall : ∀ j : Nat, j < prs.length → ∃ u : Value, ∀ q, prs[j]? = some q → ∃ b, ps[j]? = some b ∧ IsTup s.heap b #[u, q.2] ∧ keyIs q.1 u = true := fun j hj => by
      obtain ⟨b, u, e1, e2, e3⟩ := hpr j prs[j] (List.getElem?_eq_getElem hj)
      refine ⟨u, fun q e => ?_⟩
      rw [List.getElem?_eq_getElem hj] at e
      cases e
      exact ⟨b, e1, e2, e3⟩
    let f : Nat → Value := fun j => if hj : j < prs.length then Classical.choose (hall j hj) else .none
    refine ⟨(List.range prs.length).map f, by simp, fun j q e => ?_⟩
    have hj : j < prs.length := (List.getElem?_eq_some_iff.mp e).1
    have hsp := Classical.choose_spec (hall j hj) q e
    obtain ⟨b, e1, e2, e3⟩ := hsp
    refine ⟨b, f j, by simp [hj], e1, ?_, ?_⟩
    · show IsTup s.heap b #[f j, q.2]
      have : f j = Classical.choose (hall j hj) := dif_pos hj
      rw [this]
      exact e2
    · have : f j = Classical.choose (hall j hj) := dif_pos hj
      rw [this]
      exact e3
  obtain ⟨us, hus, hk⟩ := hks
  let vps : List (Value × Value) := us.zip (prs.map (·.2))
  have hvl : vps.length = prs.length := by simp [vps, hus]
  have hget : ∀ j k v, vps[j]? = some (k, v) → ∃ q : Key × Value, prs[j]? = some q ∧ q.2 = v ∧ us[j]? = some k := fun j k v e => by
    obtain ⟨e1, e2⟩ := List.getElem?_zip_eq_some.mp e
    rw [List.getElem?_map] at e2
    cases e3 : prs[j]? with
    | none => rw [e3] at e2; cases e2
    | some q =>
      rw [e3] at e2
      exact ⟨q, e3, Option.some.inj e2, e1⟩
  refine PySem.call_dict_pairs (knd := mixKind X.prog X.w) (kvs := prs) (PairArg.tuple a (ps.map Value.ref).toArray (fun j => ps.getD j 0) vps) (I.ok.hd hcalm) ⟨⟨o, n2, ho, pc, pd, hdat2⟩, ?_, fun j k v e => ?_⟩ ⟨hvl.symm, fun j k v e => ?_⟩ (by rw [hvl, hl]; exact hz) fun h' tk hd' kp => ?_
  · rw [hvl, hl]
    simp
  · obtain ⟨q, e1, e2, e3⟩ := hget j k v e
    obtain ⟨b, u, f1, f2, f3, f4⟩ := hk j q e1
    rw [e3] at f1
    cases f1
    subst e2
    refine ⟨?_, .inl ?_⟩
    · simp [List.getD, f2]
    · show IsTup s.heap (ps.getD j 0) #[k, q.2]
      rw [show ps.getD j 0 = b by simp [List.getD, f2]]
      exact f3
  · obtain ⟨q, e1, e2, e3⟩ := hget j k v e
    obtain ⟨b, u, f1, f2, f3, f4⟩ := hk j q e1
    rw [e3] at f1
    cases f1
    exact ⟨q.1, by rw [e1, ← e2], f4⟩
  · have hm : (s.heap.objs.size == sysModules) = false := beq_eq_false_iff_ne.mpr (Nat.ne_of_gt I.big)
    have hlen : (mergeK [] kvs).length ≤ sizeLine := by
      refine Nat.le_trans (length_mergeK kvs []) ?_
      rw [List.length_nil, Nat.zero_add, rel.length, hl]
      exact hz
    exact ⟨.ref s.heap.objs.size, upd H s.heap.objs.size (.dK (mergeK [] kvs)), I.laid (t' := tk) (fun b o e => kp b o (by simp) e) (Nat.le_refl _) (show ObjOk X.prog X.w _ _ _ (.dK (mergeK [] kvs)) from ⟨hlen, hm, merged [] prs, KV.merge rel .nil, hd'⟩), rfl, q _ (I.hok.fresh (Nat.le_refl _))⟩
end
end L2
namespace Fp
open PySem PySem.Spec PyProof.Rows L2
/-! ### a def of the top by its name -/
structure Ok (P : Program) (w : World) (K : PySem.W.Frag) (mg : Str → Option Value) (base : Heap) (k : Nat) (x : Str) (ps : List Str) (sp : Sp) : Prop where
  ex : ∃ fd, FnOk P w K mg base CX0 k (He.ga K x) fd ps sp ∧ Binds K fd ps []
  g : mg x = some (.ref (He.ga K x))
  kp : PySem.W.keepIn K (.ref (He.ga K x)) = true
theorem pc {X : Cx} {x : Str} {p pos : Pos} {e : Expr} {es : List Expr} {t : TA} {k : Nat} {ps : List Str} {sp : Sp} (G : Ok X.prog X.w X.K X.mg X.base k x ps sp) (hr : Room k X.A) (ha : PA X (e :: es) t) (hg : Gl X x := by rfl) (hdb : (x == ("__debug__" : Str)) = false := by decide)
    (he : starEach (e :: es) X.env = (false, eval e X.env) :: starEach es X.env := by rfl) (hpl : (backTo pos (starEach es X.env)).any (·.1) = false := by rfl) : PE X (.Call (.Name x p) (e :: es) [] pos) (tCall sp [] E0 t) := by
  obtain ⟨fd, F, b⟩ := G.ex
  exact pe_call F hr hg G.g G.kp b .nil pass0 ha hdb he hpl
theorem Ok.mono {P : Program} {w : World} {K : PySem.W.Frag} {mg : Str → Option Value} {base : Heap} {j k : Nat} {x : Str} {ps : List Str} {sp : Sp} (G : Ok P w K mg base j x ps sp) (h : j ≤ k) : Ok P w K mg base k x ps sp := by
  obtain ⟨fd, F, b⟩ := G.ex
  exact ⟨⟨fd, F.mono h, b⟩, G.g, G.kp⟩
/-! ### heaps -/
/-- all that was tracked stays, but for a -/
def But (a : Addr) (H H' : Hp) : Prop := ∀ b o, H b = some o → b ≠ a → H' b = some o
theorem But.refl (a : Addr) (H : Hp) : But a H H := fun _ _ e _ => e
theorem But.trans {a : Addr} {H H1 H2 : Hp} (x : But a H H1) (y : But a H1 H2) : But a H H2 := fun b o e n => y b o (x b o e n) n
theorem But.of {a : Addr} {H H' : Hp} (s : Same H H') : But a H H' := fun b o e _ => s b o e
theorem But.free {a : Addr} {H H' : Hp} (x : But a H H') (hs : ∃ o, H' a = some o) {l : Addr} (e : H' l = none) : H l = none := by
  cases q : H l with
  | none => rfl
  | some o =>
    by_cases hl : l = a
    · obtain ⟨u, hu⟩ := hs
      rw [hl] at e
      rw [hu] at e
      cases e
    · rw [x l o q hl] at e
      cases e
theorem same_upd {H : Hp} {p : Addr} {o : HO} (h : H p = none) : Same H (upd H p o) := fun b x e => by
  rw [upd_ne (ne_of_none e h)]
  exact e
theorem but_upd {H : Hp} {p : Addr} {o : HO} : But p H (upd H p o) := fun b x e n => by
  rw [upd_ne n]
  exact e
theorem lock_back {H : Hp} {d : Addr} {o u : HO} (h : H d = some o) (e : o = u) : upd (upd H d u) d o = H := by
  subst e
  rw [upd_upd]
  funext b
  by_cases hb : b = d
  · rw [hb, upd_same, h]
  · rw [upd_ne hb]
/-! ### tables: words with numbers, in the order in which they were put in -/
abbrev Tb : Type := List (Str × Int)
def kv (l : Tb) : List (Key × V) := l.map fun p => ((Sum.inr p.1 : Key), V.int p.2)
def num (l : Tb) (x : Str) : Int := ((l.find? fun p => decide (p.1 = x)).map (·.2)).getD 0
def has (l : Tb) (x : Str) : Bool := l.any fun p => decide (p.1 = x)
def putT (l : Tb) (x : Str) (n : Int) : Tb := if has l x then l.map (fun p => if p.1 = x then (p.1, n) else p) else l ++ [(x, n)]
def dropT (l : Tb) (x : Str) : Tb := l.filter fun p => decide (p.1 ≠ x)
theorem kv_len (l : Tb) : (kv l).length = l.length := List.length_map _
theorem kv_keys (l : Tb) : (kv l).map (·.1) = (l.map (·.1)).map Sum.inr := by
  unfold kv
  rw [List.map_map, List.map_map]
  rfl
theorem valV_kv (x : Str) : ∀ l : Tb, valV (kv l) (Sum.inr x : Key) = (l.find? fun p => decide (p.1 = x)).map fun p => V.int p.2
  | [] => rfl
  | p :: r => by
    have ih := valV_kv x r
    by_cases e : p.1 = x
    · rw [List.find?_cons_of_pos (by simpa using e)]
      exact valV_pos (p := ((Sum.inr p.1 : Key), V.int p.2)) (by rw [e])
    · rw [List.find?_cons_of_neg (by simpa using e)]
      exact (valV_neg (p := ((Sum.inr p.1 : Key), V.int p.2)) (fun z => e (Sum.inr.inj z))).trans ih
theorem has_find (l : Tb) (x : Str) : has l x = (l.find? fun p => decide (p.1 = x)).isSome := by
  unfold has
  induction l with
  | nil => rfl
  | cons p r ih =>
    by_cases e : p.1 = x
    · rw [List.find?_cons_of_pos (by simpa using e), List.any_cons]
      simp [e]
    · rw [List.find?_cons_of_neg (by simpa using e), List.any_cons, ih]
      simp [e]
theorem valV_yes {l : Tb} {x : Str} (h : has l x = true) : valV (kv l) (Sum.inr x : Key) = some (.int (num l x)) := by
  rw [valV_kv]
  rw [has_find] at h
  unfold num
  cases e : l.find? fun p => decide (p.1 = x) with
  | none => rw [e] at h; cases h
  | some p => rfl
theorem valV_no {l : Tb} {x : Str} (h : has l x = false) : valV (kv l) (Sum.inr x : Key) = none ∧ num l x = 0 := by
  rw [valV_kv]
  rw [has_find] at h
  unfold num
  cases e : l.find? fun p => decide (p.1 = x) with
  | none => exact ⟨rfl, rfl⟩
  | some p => rw [e] at h; cases h
theorem putK_kv (l : Tb) (x : Str) (n : Int) : putK (kv l) (Sum.inr x : Key) (.int n) = kv (putT l x n) := by
  have ea : ((kv l).any fun q => decide (q.1 = (Sum.inr x : Key))) = has l x := by
    unfold kv has
    rw [List.any_map]
    congr 1
    funext p
    by_cases e : p.1 = x
    · simp [e]
    · simp [e]
  unfold putK putT
  rw [ea]
  cases has l x with
  | true =>
    rw [if_pos rfl, if_pos rfl]
    unfold kv
    rw [List.map_map, List.map_map]
    apply List.map_congr_left
    intro p _
    by_cases e : p.1 = x
    · simp [e]
    · simp [e]
  | false =>
    rw [if_neg Bool.false_ne_true, if_neg Bool.false_ne_true]
    unfold kv
    rw [List.map_append]
    rfl
theorem dropK_kv (l : Tb) (x : Str) : dropK (kv l) (Sum.inr x : Key) = kv (dropT l x) := by
  unfold dropK dropT kv
  rw [List.filter_map]
  congr 1
  apply List.filter_congr
  intro p _
  by_cases e : p.1 = x
  · simp [e]
  · simp [e]
/-- a table of distinct words -/
def Nd (l : Tb) : Prop := (l.map (·.1)).Nodup
theorem has_iff {l : Tb} {x : Str} : has l x = true ↔ x ∈ l.map (·.1) := by
  unfold has
  rw [List.any_eq_true]
  constructor
  · rintro ⟨p, hp, e⟩
    exact List.mem_map.mpr ⟨p, hp, of_decide_eq_true e⟩
  · intro h
    obtain ⟨p, hp, e⟩ := List.mem_map.mp h
    exact ⟨p, hp, decide_eq_true e⟩
theorem putT_keys {l : Tb} {x : Str} {n : Int} : (putT l x n).map (·.1) = if has l x then l.map (·.1) else l.map (·.1) ++ [x] := by
  unfold putT
  cases has l x with
  | true =>
    rw [if_pos rfl, if_pos rfl, List.map_map]
    apply List.map_congr_left
    intro p _
    by_cases e : p.1 = x
    · simp [e]
    · simp [e]
  | false =>
    rw [if_neg Bool.false_ne_true, if_neg Bool.false_ne_true, List.map_append]
    rfl
theorem nd_put {l : Tb} (h : Nd l) (x : Str) (n : Int) : Nd (putT l x n) := by
  unfold Nd
  rw [putT_keys]
  cases e : has l x with
  | true => exact h
  | false =>
    rw [if_neg Bool.false_ne_true, List.nodup_append]
    refine ⟨h, by simp, fun a ha b hb => ?_⟩
    have : b = x := by simpa using hb
    subst this
    rintro rfl
    rw [has_iff.mpr ha] at e
    cases e
theorem nd_drop {l : Tb} (h : Nd l) (x : Str) : Nd (dropT l x) := by
  unfold Nd dropT
  exact (List.Sublist.map _ List.filter_sublist).nodup h
theorem mem_put {l : Tb} {x : Str} {n : Int} {p : Str × Int} (h : p ∈ putT l x n) : p = (x, n) ∨ p ∈ l := by
  unfold putT at h
  cases e : has l x with
  | true =>
    rw [e, if_pos rfl] at h
    obtain ⟨q, hq, e2⟩ := List.mem_map.mp h
    by_cases e3 : q.1 = x
    · rw [if_pos e3, e3] at e2
      exact .inl e2.symm
    · rw [if_neg e3] at e2
      exact .inr (e2 ▸ hq)
  | false =>
    rw [e, if_neg Bool.false_ne_true] at h
    rcases List.mem_append.mp h with h | h
    · exact .inr h
    · exact .inl (by simpa using h)
theorem len_put (l : Tb) (x : Str) (n : Int) : (putT l x n).length ≤ l.length + 1 := by
  unfold putT
  split
  · rw [List.length_map]
    omega
  · rw [List.length_append]
    simp
end Fp

set_option Elab.async false
set_option linter.all false
set_option maxRecDepth 100000
set_option maxHeartbeats 2000000
/-! a written dict from ints to tuples of ints, read: d[k] -/
namespace L2
open PySem PySem.Spec PyProof.Rows
abbrev WTab : Type := List (Int × List Int)
def intsB : List Int → List Value → Bool
  | [], [] => true
  | n :: ns, .int i _ :: vs => decide (i = n) && intsB ns vs
  | _, _ => false
theorem intsB_vals : ∀ (ns : List Int) (vs : List Value), intsB ns vs = true → Vals (ns.map V.int) vs
  | [], [], _ => .nil
  | n :: ns, .int i t :: vs, h => by
    have h' : (decide (i = n) && intsB ns vs) = true := h
    rw [Bool.and_eq_true] at h'
    have e : i = n := of_decide_eq_true h'.1
    subst e
    exact .cons ⟨t, rfl⟩ (intsB_vals ns vs h'.2)
def tupO (K : PySem.W.Frag) (a : Addr) (ns : List Int) : Bool := match K.lookup a with
  | some o => (match o.cls, o.data with
    | .type c, .seq its _ => decide (c = "tuple") && (decide (its.size ≤ sizeLine) && intsB ns its.toList)
    | _, _ => false)
  | none => false
theorem tupO_sq {K : PySem.W.Frag} {a : Addr} {ns : List Int} (h : tupO K a ns = true) (H : Hp) : SqT K H a (ns.map V.int) := by
  unfold tupO at h
  split at h
  · rename_i o ho
    split at h
    · rename_i c its n hc hd
      simp only [Bool.and_eq_true, decide_eq_true_eq] at h
      obtain ⟨h1, h2, h3⟩ := h
      subst h1
      exact .inr ⟨o, its, n, ho, hc, hd, h2, intsB_vals _ _ h3⟩
    · cases h
  · cases h
def entB (K : PySem.W.Frag) : WTab → List DictEntry → Bool
  | [], [] => true
  | p :: r, e :: es => (match e.key, e.val with
    | .int i _, .ref a => decide (i = p.1) && (decide (e.hash = hashInt p.1) && tupO K a p.2)
    | _, _ => false) && entB K r es
  | _, _ => false
def wdB (K : PySem.W.Frag) (a : Addr) (t : WTab) : Bool := match K.lookup a with
  | some o => (match o.cls, o.dict, o.data with
    | .type c, none, .dict es _ => decide (c = "dict") && (decide (o.slots.size = 0) && entB K t es.toList)
    | _, _, _ => false)
  | none => false
theorem entB_pairs {P : Program} {w : World} {K : PySem.W.Frag} : ∀ (t : WTab) (es : List DictEntry), entB K t es = true → ∃ vs : List (Key × Value), Pairs (mixKind P w) es vs ∧ (∀ e ∈ es, ∃ k, (mixKind P w).is k e.key = true ∧ e.hash = (mixKind P w).hash k) ∧
    Paired (fun (p : Int × List Int) (v : Key × Value) => v.1 = Sum.inl p.1 ∧ ∃ b, v.2 = .ref b ∧ tupO K b p.2 = true) t vs
  | [], [], _ => ⟨[], .nil, (fun e he => by cases he), .nil⟩
  | p :: r, e :: es, h => by
    unfold entB at h
    rw [Bool.and_eq_true] at h
    obtain ⟨h1, h2⟩ := h
    obtain ⟨vs, a1, a2, a3⟩ := entB_pairs r es h2
    obtain ⟨eh, ek, ev⟩ := e
    cases ek with
    | int i tk =>
      cases ev with
      | ref a =>
        have h1 : (decide (i = p.1) && (decide (eh = hashInt p.1) && tupO K a p.2)) = true := h1
        simp only [Bool.and_eq_true, decide_eq_true_eq] at h1
        obtain ⟨e1, e2, e3⟩ := h1
        subst e1
        refine ⟨(Sum.inl p.1, .ref a) :: vs, .cons (keyIs_int _ tk) rfl a1, (fun x hx => ?_), .cons ⟨rfl, a, rfl, e3⟩ a3⟩
        rcases List.mem_cons.mp hx with rfl | hx
        · exact ⟨Sum.inl p.1, keyIs_int _ tk, e2⟩
        · exact a2 x hx
      | _ => exact absurd h1 (by simp)
    | _ => exact absurd h1 (by simp)
theorem pairs_find {K : PySem.W.Frag} {t : WTab} {vs : List (Key × Value)} (h : Paired (fun (p : Int × List Int) (v : Key × Value) => v.1 = Sum.inl p.1 ∧ ∃ b, v.2 = .ref b ∧ tupO K b p.2 = true) t vs) (hn : (t.map (·.1)).Nodup) :
    (vs.map (·.1)).Nodup ∧ (∀ v ∈ vs, ∃ p ∈ t, v.1 = Sum.inl p.1) ∧ ∀ p ∈ t, ∃ b, valueAt vs (Sum.inl p.1 : Key) = some (.ref b) ∧ tupO K b p.2 = true := by
  induction h with
  | nil => exact ⟨List.nodup_nil, fun v hv => (by cases hv), fun p hp => (by cases hp)⟩
  | @cons p v t vs e r ih =>
    have hn' : (p.1 :: t.map (·.1)).Nodup := hn
    obtain ⟨n1, n2⟩ := List.nodup_cons.mp hn'
    obtain ⟨i1, i2, i3⟩ := ih n2
    obtain ⟨e1, b, e2, e3⟩ := e
    refine ⟨?_, fun u hu => ?_, fun q hq => ?_⟩
    · rw [List.map_cons, List.nodup_cons]
      refine ⟨fun hm => ?_, i1⟩
      obtain ⟨u, hu, eu⟩ := List.mem_map.mp hm
      obtain ⟨q, hq, eq⟩ := i2 u hu
      have : (Sum.inl q.1 : Key) = Sum.inl p.1 := (eq.symm.trans eu).trans e1
      injection this with this
      exact n1 (this ▸ List.mem_map.mpr ⟨q, hq, rfl⟩)
    · rcases List.mem_cons.mp hu with rfl | hu
      · exact ⟨p, List.mem_cons_self, e1⟩
      · obtain ⟨q, hq, eq⟩ := i2 u hu
        exact ⟨q, List.mem_cons_of_mem _ hq, eq⟩
    · unfold valueAt
      rcases List.mem_cons.mp hq with rfl | hq
      · rw [List.find?_cons_of_pos (by simp [e1])]
        exact ⟨b, by rw [Option.map_some, e2], e3⟩
      · obtain ⟨b', h1, h2⟩ := i3 q hq
        refine ⟨b', ?_, h2⟩
        rw [List.find?_cons_of_neg]
        · exact h1
        · rw [e1]
          intro z
          have z' : (Sum.inl p.1 : Key) = Sum.inl q.1 := of_decide_eq_true z
          injection z' with z'
          exact n1 (z' ▸ List.mem_map.mpr ⟨q, hq, rfl⟩)
/-- d[k], d written -/
def tWD (K : PySem.W.Frag) (t : WTab) (ta tb : TE) : TE := fun σ H Q => ta σ H fun x H1 => tb σ H1 fun y H2 => ∃ (a : Addr) (k : Int) (ns : List Int), x = .ref a ∧ wdB K a t = true ∧ y = .int k ∧ (k, ns) ∈ t ∧ ∀ b, tupO K b ns = true → Q (.ref b) H2
theorem pe_wd {X : Cx} {t : WTab} {o i : Expr} {ta tb : TE} {pos : Pos} (hn : (t.map (·.1)).Nodup) (ho : PE X o ta) (hi : PE X i tb) (hs : NoSl i) : PE X (.Subscript o i pos) (tWD X.K t ta tb) := by
  constructor
  intro pins s σ H Q I h
  refine subD_of PySem.F.slot_dict_getitem.lookup hs (thn (ho.run pins s σ H _ I h) fun u s1 ⟨x, H1, I1, rx, q1⟩ => thn (hi.run pins s1 σ H1 _ I1 q1) fun iv s2 ⟨y, H2, I2, ry, a, k, ns, ex, hw, ey, hm, q2⟩ => ?_)
  subst ex
  subst ey
  cases rx
  obtain ⟨tk, rfl⟩ := ry
  unfold wdB at hw
  split at hw
  · rename_i ob hob
    split at hw
    · rename_i c es ep hc hd hdat
      simp only [Bool.and_eq_true, decide_eq_true_eq] at hw
      obtain ⟨w1, w2, w3⟩ := hw
      subst w1
      obtain ⟨vs, p1, p2, p3⟩ := entB_pairs (P := X.prog) (w := X.w) t es.toList w3
      obtain ⟨f1, f2, f3⟩ := pairs_find p3 hn
      obtain ⟨b, v1, v2⟩ := f3 (k, ns) hm
      have dd : s2.heap.DictOf (mixKind X.prog X.w) a vs := ⟨ob, es, ep, I2.kIn a ob hob, ⟨hc, hd, Array.eq_empty_of_size_eq_zero w2⟩, hdat, fun e he => p2 e (Array.mem_def.mp he), p1, f1⟩
      exact ⟨dd.typeIs, wpAny_getItem_of (knd := mixKind X.prog X.w) (k := (Sum.inl k : Key)) (keyIs_int k tk) dd.mapOf v1 ⟨.ref b, H2, I2.tok _, rfl, q2 b v2⟩⟩
    · cases hw
  · cases hw
end L2

set_option Elab.async false
set_option linter.all false
set_option maxRecDepth 100000
set_option maxHeartbeats 4000000
/-! exceptions as values: made, asked with isinstance, their fields read -/
namespace L2
open PySem PySem.Spec PyProof.Rows
/-- an exception object at a, perhaps with its dict -/
def HE (H : Hp) (a C : Addr) (d : Option Addr) : Prop := H a = some (exo a C d) ∧ ∀ dd, d = some dd → ∃ fs, H dd = some (exd dd fs)
def excCB (K : PySem.W.Frag) (C : Addr) : Bool := decide (PySem.W.findIn K (.ref C) "__getattribute__" = some (some (.builtin "BaseException.__getattribute__"))) && (decide (PySem.W.findIn K (.ref C) "__getattr__" = some none) && (decide (PySem.W.subIn K (.ref C) (.type "BaseException") = some true) && (PySem.W.hasDictIn K C &&
  (decide (PySem.W.findIn K (.ref C) "__class__" = some (some (.builtin "object.__class__"))) && (decide (PySem.W.specialIn K (.builtin "object.__class__") "__get__" = some (some (.builtin "getset_descriptor.__get__"))) && (decide (PySem.W.takesIn K (.builtin "object.__class__") = some true) && decide (PySem.W.mroIn K C (.type "object") = some true)))))))
theorem excCB_ok {K : PySem.W.Frag} {C : Addr} (h : excCB K C = true) : ExcC K C := by
  simp only [excCB, Bool.and_eq_true, decide_eq_true_eq] at h
  obtain ⟨h1, h2, h3, h4, h5, h6, h7, h8⟩ := h
  exact ⟨h1, h2, h3, h4, h5, h6, h7, h8⟩
theorem ExcC.xf {K : PySem.W.Frag} {C : Addr} (c : ExcC K C) : XfC K C := ⟨c.hg, c.hk, c.hs, c.hd⟩
/-- the class of an exception with its own __init__ -/
def oexB (K : PySem.W.Frag) (C : Addr) : Bool := (match K.lookup C with
  | some ⟨.type "type", none, .cls cd, sl⟩ => (match cd.mro, sl.toList with
    | .ref C' :: bm, [_, _, _, _, some (.builtin n), _] => C' == C && (n == "ValueError.__new__" && (!cd.hasDel && (cd.hasDict && PySem.HandSPX.refsVE bm)))
    | _, _ => false)
  | _ => false) && (decide (PySem.W.findIn K (.ref C) "__setattr__" = some (some (.builtin "object.__setattr__"))) && (decide (PySem.W.subIn K (.ref C) (.type "BaseException") = some true) && (decide (PySem.W.typeIn K (.ref C) = some (.type "type")) && PySem.W.keepIn K (.ref C))))
end L2
namespace L2
open PySem PySem.Spec PyProof.Rows
theorem oexB_ok {K : PySem.W.Frag} {C : Addr} (h : oexB K C = true) : OexC K C := by
  unfold oexB at h
  simp only [Bool.and_eq_true, decide_eq_true_eq] at h
  obtain ⟨h1, h2, h3, h4, h5⟩ := h
  refine ⟨?_, h2, h3, h4, h5⟩
  split at h1
  · rename_i cd sl ho
    split at h1
    · rename_i C' bm k0 k1 k2 k3 n k5 hm hs
      simp only [Bool.and_eq_true, beq_iff_eq, Bool.not_eq_true'] at h1
      obtain ⟨rfl, rfl, hdel, hd, hr⟩ := h1
      obtain ⟨nm, bs, mro, ns, qn, hdc, sn, sub, ab, col, del⟩ := cd
      dsimp only at hm hdel hd
      subst hm hdel hd
      have hsl : sl = #[k0, k1, k2, k3, some (.builtin "ValueError.__new__"), k5] := by
        obtain ⟨l⟩ := sl
        exact congrArg List.toArray hs
      subst hsl
      exact ⟨nm, qn, ns, bs, bm, sn, sub, ab, col, none, k0, k1, k2, k3, k5, ho, hr⟩
    · cases h1
  · cases h1
section
variable {X : Cx} {pins : List (Addr × Obj)} {σ : St} {H : Hp} {s : Shared}
theorem HE.inst (I : Inv X pins σ H s) {a C : Addr} {d : Option Addr} (e : HE H a C d) : ∃ ox od, PySem.W.InstAt s.heap a ox C od ∧ ∀ dd, d = some dd → ∃ mA o, s.heap.Ns1 dd mA ∧ od = some o ∧ s.heap.get? dd = some o := by
  obtain ⟨e1, e2⟩ := e
  obtain ⟨t1, ho⟩ := exo_at I.hok e1
  cases d with
  | none => exact ⟨_, none, ⟨ho, rfl, rfl, trivial⟩, fun dd h => nomatch h⟩
  | some dd =>
    obtain ⟨fs, e3⟩ := e2 dd rfl
    obtain ⟨mA, hns, rel⟩ := exd_at I.hok e3
    obtain ⟨o, es, ep, h1, h2⟩ := id hns
    exact ⟨_, some o, ⟨ho, rfl, rfl, h1⟩, fun d' h => by cases h; exact ⟨mA, o, hns, rfl, h1⟩⟩
/-- isinstance(e, c), e a held exception -/
def rIsV (K : PySem.W.Frag) : List V → Hp → VK → Prop := fun xs H Q => ∃ (a C : Addr) (d : Option Addr) (c : V) (cv : Value) (b : Bool), xs = [.ref a, c] ∧ HE H a C d ∧ ExcC K C ∧ (∀ u, RelV c u → u = cv) ∧ PySem.W.kitOne K (.ref C) cv = some b ∧ Q (.bl b) H
theorem call_isV {X : Cx} : CallR X (.builtin "isinstance") (rIsV X.K) := by
  intro pins s σ H xs us Q I r h
  obtain ⟨a, C, d, c, cv, b, rfl, he, T, hcv, e, q⟩ := h
  cases r with
  | cons rx rr =>
    cases rr with
    | cons rt rr =>
      cases rr
      cases rx
      have ec := hcv _ rt
      subst ec
      obtain ⟨ox, od, J, _⟩ := he.inst I
      have hcl : (PySem.W.clsIn X.K C).isSome = true := by
        obtain ⟨cd, hc, _⟩ := PySem.W.any_some T.hd
        rw [hc]
        rfl
      exact PySem.W.kia_one (PySem.W.kitx_exc (od := od) hcl T.hg T.hk T.hs T.ha T.hn T.ht T.hm) I.kIn J e (fun z => nomatch z) fun tk => ⟨.bl b, H, I.kept (t' := tk) fun _ _ z => z, rfl, q⟩
/-- isinstance(e, c), e the exception that the suite holds, with its dict or without -/
def rIsD (K : PySem.W.Frag) (cls : Value) (d : Option Addr) (a : Addr) : List V → Hp → VK → Prop := fun xs H Q => ∃ (C : Addr) (c : V) (cv : Value) (b : Bool), xs = [.ref a, c] ∧ cls = .ref C ∧ (∀ dd, d = some dd → ∃ fs, H dd = some (.xd fs)) ∧ ExcC K C ∧ (∀ u, RelV c u → u = cv) ∧ PySem.W.kitOne K (.ref C) cv = some b ∧ Q (.bl b) H
theorem call_isD {X : Cx} {a : Addr} {cls : Value} {d : Option Addr} {oe : Obj} {pn : List (Addr × Obj)} (hz : Zc cls d oe) (hf : ∃ vs, oe.data = .fields vs) : CallR (X.suite a ((a, oe) :: pn)) (.builtin "isinstance") (rIsD X.K cls d a) := by
  intro pins s σ H xs us Q I r h
  obtain ⟨C, c, cv, b, rfl, rfl, hd, T, hcv, e, q⟩ := h
  cases r with
  | cons rx rr =>
    cases rr with
    | cons rt rr =>
      cases rr
      cases rx
      have ec := hcv _ rt
      subst ec
      obtain ⟨hget, _⟩ := I.pin (a, oe) (List.mem_append.mpr (.inl List.mem_cons_self))
      obtain ⟨vs, hv⟩ := hf
      have J : ∃ od, PySem.W.InstAt s.heap a oe C od := by
        cases hdd : d with
        | none =>
          exact ⟨none, hget, hz.1, by unfold PySem.W.notCls; rw [hv] <;> rfl, by rw [hz.2, hdd]; trivial⟩
        | some dd =>
          obtain ⟨fs, e3⟩ := hd dd hdd
          have hx : ObjOk X.prog X.w H s.heap dd (.xd fs) := I.hok dd _ e3
          obtain ⟨mA, hns, hr⟩ := hx
          obtain ⟨o, es, ep, h1, h2⟩ := hns
          exact ⟨some o, hget, hz.1, by unfold PySem.W.notCls; rw [hv] <;> rfl, by rw [hz.2, hdd]; exact h1⟩
      obtain ⟨od, J⟩ := J
      have hcl : (PySem.W.clsIn X.K C).isSome = true := by
        obtain ⟨cd, hc, _⟩ := PySem.W.any_some T.hd
        rw [hc]
        rfl
      exact PySem.W.kia_one (PySem.W.kitx_exc (od := od) hcl T.hg T.hk T.hs T.ha T.hn T.ht T.hm) I.kIn J e (fun z => nomatch z) fun tk => ⟨.bl b, H, I.kept (t' := tk) fun _ _ z => z, rfl, q⟩
/-- e.n, e a held exception -/
def tXfV (K : PySem.W.Frag) (n : Str) (te : TE) : TE := fun σ H Q => te σ H fun x H1 => ∃ (a C dd : Addr) (fs : List (Str × V)) (v : V), x = .ref a ∧ H1 a = some (exo a C (some dd)) ∧ H1 dd = some (exd dd fs) ∧ XfC K C ∧ PySem.W.findIn K (.ref C) n = some none ∧ fs.lookup n = some v ∧ Q v H1
theorem pe_xfV {X : Cx} {e : Expr} {te : TE} {pos : Pos} {n : Str} (he : PE X e te) (hb : attributeBase e n X.env (eval e X.env) = eval e X.env := by rfl) : PE X (.Attribute e n pos) (tXfV X.K n te) := by
  refine ⟨fun pins s σ H Q I h => ?_⟩
  refine attr_of hb (thn (he.run pins s σ H _ I h) fun u s1 hh => ?_)
  obtain ⟨x, H1, I1, rx, a, C, dd, fs, v, ex, e1, e2, T, hno, l, q⟩ := hh
  subst ex
  obtain rfl : u = Value.ref a := rx
  obtain ⟨t1, ho⟩ := exo_at I1.hok e1
  obtain ⟨mA, hns, hr⟩ := exd_at I1.hok e2
  obtain ⟨od, h1, hl⟩ := lookIn_ns hns
  obtain ⟨u, hu, ru⟩ := RelO.some_of (v := v) (o := mA n) (by rw [← l]; exact hr n)
  have J : PySem.W.InstAt s1.heap a _ C (some od) := ⟨ho, rfl, rfl, h1⟩
  exact HandSPX.exc_get I1.kIn J T.ga T.gg T.exC (PySem.W.findObj_own T.hdC hno rfl (by rw [hl, hu])) (handed_of ru) ⟨v, H1, I1.tok _, ru, q⟩
end
section
variable {X : Cx} {e : Expr} {es : List Expr} {ta : TA} {p pos : Pos}
/-- X(), X without its own __init__, as a value -/
theorem pe_own0V {C : Addr} {bmB : List Value} {B newId initId : String} {x : Str} (F : ExcBaseFacts B newId initId bmB) (q : PySem.W.excIn X.K C bmB newId = true) (gC : X.mg x = some (.ref C)) (kC : PySem.W.keepIn X.K (.ref C) = true) (hg : Gl X x)
    (hdb : (x == ("__debug__" : Str)) = false := by decide) : PE X (.Call (.Name x p) [] [] pos) (fun _ H Q => ∀ a, H a = none → Q (.ref a) (upd H a (exo a C none))) := by
  refine ⟨fun pins s σ H Q I h => ?_⟩
  refine wpAny_Call_Name_kw (ld_glob I hg gC ?_ hdb)
  refine PySem.W.callWith_K0 (K := X.K) I.kIn kC ?_
  show wpAny _ _ (call (.ref C) []) _ _ _
  obtain ⟨bm, N, nm, qn, bs, hdct, sn, sub, ab, col, dd, k0, k1, k2, k3, k5, mN, hC, hN, hni, T⟩ := exc_obj I.kIn q
  refine wpAny_call_exc_subT F T hC hN hni (fun h' a hm => ?_) (Nat.zero_le _)
  have hn : H a = none := I.hok.gone hm.new
  obtain ⟨t, ht, _, _⟩ := hm.there
  exact ⟨.ref a, upd H a (exo a C none), I.laidN hm.keeps hm.new hn (exo_ok ht), rfl, h a hn⟩
/-- X(e, ..), X's own __init__ keeping sp, as a value -/
def tMkV (C : Addr) (sp : Sp) (ta : TA) : TE := fun σ H Q => ta σ H fun vs H1 => vs.length ≤ 1000 ∧ ∀ a, H1 a = none → sp (.ref a :: vs) (upd H1 a (exo a C none)) (fun v H2 => v = .non ∧ Q (.ref a) H2) (fun _ _ _ => False)
theorem pe_oexV {CX : CXT} {x : Str} {C fI : Addr} {k : Nat} {fd : FuncData} {ps : List Str} {sp : Sp} (T : OexC X.K C) (iC : PySem.W.findIn X.K (.ref C) "__init__" = some (some (.ref fI))) (tI : PySem.W.typeIn X.K (.ref fI) = some (.type "function"))
    (F1 : FnOk X.prog X.w X.K X.mg X.base CX k fI fd ps sp) (hr : Room (k + 1) X.A) (hb : Binds X.K fd ps []) (hx : Passes CX X (fun _ _ _ => False)) (hg : Gl X x) (hm : X.mg x = some (.ref C)) (ha : PA X (e :: es) ta)
    (hdb : (x == ("__debug__" : Str)) = false := by decide) (he : starEach (e :: es) X.env = (false, eval e X.env) :: starEach es X.env := by rfl) (hpl : (backTo pos (starEach es X.env)).any (·.1) = false := by rfl) :
    PE X (.Call (.Name x p) (e :: es) [] pos) (tMkV C sp ta) := by
  refine ⟨fun pins s σ H Q I h => ?_⟩
  obtain ⟨nm, q, N, bs, bm, sn, sub, ab, col, dd, k0, k1, k2, k3, k5, hC, hbm⟩ := T.cls
  refine wpAny_Call_Name_kw (ld_glob I hg hm ?_ hdb)
  refine PySem.W.callWith_K (h₀ := X.base) I.ok.mod.kin T.kC (thn (ha.run pos pins s σ H _ I h) fun us s1 ⟨vs, H1, I1, r1, hz, q1⟩ => ⟨I1.kIn, ?_⟩) he hpl
  show wpAny _ _ (call (.ref C) us) _ _ _
  obtain ⟨hp, g, dr, tk, os⟩ := s1
  have hsz : hp.objs.size ≤ hp.objs.size + 1 := Nat.le_succ _
  have hn : H1 (hp.objs.size + 1) = none := I1.hok.fresh hsz
  have hq := q1 (hp.objs.size + 1) hn
  have kk : ∀ b o, hp.get? b = some o → ((hp.push (PySem.W.kdv_tup us)).push (PySem.HandSPX.excO C hp.objs.size)).get? b = some o := fun b o e => Heap.get?_push_of_some _ (Heap.get?_push_of_some _ e)
  have hget : ((hp.push (PySem.W.kdv_tup us)).push (PySem.HandSPX.excO C hp.objs.size)).get? (hp.objs.size + 1) = some (PySem.HandSPX.excO C hp.objs.size) := by heap_get
  have I2 : Inv X pins σ (upd H1 (hp.objs.size + 1) (exo (hp.objs.size + 1) C none)) ⟨(hp.push (PySem.W.kdv_tup us)).push (PySem.HandSPX.excO C hp.objs.size), g, dr, tk, os⟩ :=
    I1.laid (t' := tk) (a := hp.objs.size + 1) (o := exo (hp.objs.size + 1) C none) (h' := (hp.push (PySem.W.kdv_tup us)).push (PySem.HandSPX.excO C hp.objs.size)) kk hsz (exo_ok hget)
  have r2 : Vals (V.ref (hp.objs.size + 1) :: vs) (Value.ref (hp.objs.size + 1) :: us) := .cons rfl r1
  have hl : (Value.ref (hp.objs.size + 1) :: us).length = ps.length := by
    have e := r2.length
    rw [F1.len _ _ _ _ hq] at e
    exact e.symm
  have hus : us.length ≤ sizeLine := by
    rw [← Paired.length r1, sizeLine_eq]
    omega
  refine wpAny_call (PySem.HandSPX.call_own F.excBase_ValueError (fun Y => PySem.HandSPX.refsVE_contains Y bm hbm) (I1.kIn _ _ hC) (PySem.W.looks_findIn I1.kIn iC) (fun self => PySem.W.bind_fn I1.kIn self tI) hus
    (codeAny_mono (F1.run _ X.stack _ _ ⟨Value.ref (hp.objs.size + 1) :: us, []⟩ (Value.ref (hp.objs.size + 1) :: us) _ _ (fun _ _ _ => False) (hr.make C us []) (I2.env0.make C us []) (by simpa using hb _ (Value.ref (hp.objs.size + 1) :: us) I2.kIn (by simpa using hl)) r2 hq) fun r s' hq' => ?_))
  cases r with
  | error er => exact hx pins σ _ _ er s' I2 hq'
  | ok fl =>
    cases fl with
    | ret u =>
      obtain ⟨v, H2, os2, bare2, un2, hok2, rv, ev, q2⟩ := hq'
      subst ev
      obtain ⟨h2, g2, d2, t2, os'⟩ := s'
      exact ⟨rv, ⟨.ref (hp.objs.size + 1), H2, I2.call' (ch := []) os2 un2 hok2 bare2 (fun b z => absurd z (by simp)), rfl, q2⟩⟩
    | next => exact False.elim hq'
    | brk => exact False.elim hq'
    | cont => exact False.elim hq'
end
/-! ### raised where a try stands around -/
section
variable {X : Cx} {e : Expr} {es : List Expr} {ta : TA} {p pos : Pos}
theorem pmk_own0N {C : Addr} {bmB : List Value} {B newId initId : String} {x : Str} (F : ExcBaseFacts B newId initId bmB) (q : PySem.W.excIn X.K C bmB newId = true) (gC : X.mg x = some (.ref C))
    (kC : PySem.W.keepIn X.K (.ref C) = true) (r : Raises X (.ref C)) (hg : Gl X x) (hdb : (x == ("__debug__" : Str)) = false := by decide) : L2N.PMk X (.Call (.Name x p) [] [] pos) (fun _ H Q => Q (.ref C) none H) := by
  intro pins s σ H Q I h
  refine wpAny_Call_Name_kw (ld_glob I hg gC ?_ hdb)
  refine PySem.W.callWith_K0 (K := X.K) I.kIn kC ?_
  show wpAny _ _ (call (.ref C) []) _ _ _
  obtain ⟨bm, N, nm, qn, bs, hdct, sn, sub, ab, col, dd, k0, k1, k2, k3, k5, mN, hC, hN, hni, T⟩ := exc_obj I.kIn q
  refine wpAny_call_exc_subT F T hC hN hni (fun h' e hm => ?_) (Nat.zero_le _)
  exact L2N.mk_of I hm r h (I.hok.gone hm.new)
theorem pmk_oexN {CX : CXT} {x : Str} {C fI : Addr} {k : Nat} {fd : FuncData} {ps : List Str} {sp : Sp} (T : OexC X.K C) (iC : PySem.W.findIn X.K (.ref C) "__init__" = some (some (.ref fI))) (tI : PySem.W.typeIn X.K (.ref fI) = some (.type "function"))
    (F1 : FnOk X.prog X.w X.K X.mg X.base CX k fI fd ps sp) (hr : Room (k + 1) X.A) (hb : Binds X.K fd ps []) (hx : Passes CX X (fun _ _ _ => False)) (hg : Gl X x) (hm : X.mg x = some (.ref C)) (ha : PA X (e :: es) ta)
    (hdb : (x == ("__debug__" : Str)) = false := by decide) (he : starEach (e :: es) X.env = (false, eval e X.env) :: starEach es X.env := by rfl) (hpl : (backTo pos (starEach es X.env)).any (·.1) = false := by rfl) :
    L2N.PMk X (.Call (.Name x p) (e :: es) [] pos) (tMkO C sp [] ta) := by
  intro pins s σ H Q I h
  obtain ⟨nm, q, N, bs, bm, sn, sub, ab, col, dd, k0, k1, k2, k3, k5, hC, hbm⟩ := T.cls
  refine wpAny_Call_Name_kw (ld_glob I hg hm ?_ hdb)
  refine PySem.W.callWith_K (h₀ := X.base) I.ok.mod.kin T.kC (thn (ha.run pos pins s σ H _ I h) fun us s1 ⟨vs, H1, I1, r1, hz, q1⟩ => ⟨I1.kIn, ?_⟩) he hpl
  show wpAny _ _ (call (.ref C) us) _ _ _
  obtain ⟨hp, g, dr, tk, os⟩ := s1
  have hsz : hp.objs.size ≤ hp.objs.size + 1 := Nat.le_succ _
  have hn : H1 (hp.objs.size + 1) = none := I1.hok.fresh hsz
  have hq := q1 (hp.objs.size + 1) hn
  rw [List.append_nil] at hq
  have kk : ∀ b o, hp.get? b = some o → ((hp.push (PySem.W.kdv_tup us)).push (PySem.HandSPX.excO C hp.objs.size)).get? b = some o := fun b o e => Heap.get?_push_of_some _ (Heap.get?_push_of_some _ e)
  have hget : ((hp.push (PySem.W.kdv_tup us)).push (PySem.HandSPX.excO C hp.objs.size)).get? (hp.objs.size + 1) = some (PySem.HandSPX.excO C hp.objs.size) := by heap_get
  have I2 : Inv X pins σ (upd H1 (hp.objs.size + 1) (exo (hp.objs.size + 1) C none)) ⟨(hp.push (PySem.W.kdv_tup us)).push (PySem.HandSPX.excO C hp.objs.size), g, dr, tk, os⟩ :=
    I1.laid (t' := tk) (a := hp.objs.size + 1) (o := exo (hp.objs.size + 1) C none) (h' := (hp.push (PySem.W.kdv_tup us)).push (PySem.HandSPX.excO C hp.objs.size)) kk hsz (exo_ok hget)
  have r2 : Vals (V.ref (hp.objs.size + 1) :: vs) (Value.ref (hp.objs.size + 1) :: us) := .cons rfl r1
  have hl : (Value.ref (hp.objs.size + 1) :: us).length = ps.length := by
    have e := r2.length
    rw [F1.len _ _ _ _ hq] at e
    exact e.symm
  have hus : us.length ≤ sizeLine := by
    rw [← Paired.length r1, sizeLine_eq]
    omega
  refine wpAny_call (PySem.HandSPX.call_own F.excBase_ValueError (fun Y => PySem.HandSPX.refsVE_contains Y bm hbm) (I1.kIn _ _ hC) (PySem.W.looks_findIn I1.kIn iC) (fun self => PySem.W.bind_fn I1.kIn self tI) hus
    (codeAny_mono (F1.run _ X.stack _ _ ⟨Value.ref (hp.objs.size + 1) :: us, []⟩ (Value.ref (hp.objs.size + 1) :: us) _ _ (fun _ _ _ => False) (hr.make C us []) (I2.env0.make C us []) (by simpa using hb _ (Value.ref (hp.objs.size + 1) :: us) I2.kIn (by simpa using hl)) r2 hq) fun r s' hq' => ?_))
  cases r with
  | error er => exact hx pins σ _ _ er s' I2 hq'
  | ok fl =>
    cases fl with
    | ret u =>
      obtain ⟨v, H2, os2, bare2, un2, hok2, rv, ev, d, fs, ea, ed, hd1, q2⟩ := hq'
      subst ev
      obtain ⟨h2, g2, d2, t2, os'⟩ := s'
      obtain ⟨t0, G, J, kG, ge, hoe, na⟩ := mk_end0 (d2 := d2) (t2 := t2) I1 hsz kk un2 hok2 os2 bare2 ea ed hd1
      exact ⟨rv, hp.objs.size + 1, _, _, ⟨G, g2, d2, t2, os'⟩, _, .ref C, some d, rfl, J, kG, ge, hoe, ⟨rfl, rfl, fun vs hv => by cases hv; rfl⟩, rfl, rfl, na, rfl, bare2, raises_own T.exC T.tyC, q2⟩
    | next => exact False.elim hq'
    | brk => exact False.elim hq'
    | cont => exact False.elim hq'
end
/-- the suite's context bears the exception that it holds -/
theorem hot_suite {X : Cx} {a : Addr} {cls : Value} {d : Option Addr} {oe : Obj} {pn : List (Addr × Obj)} (hz : L2N.Zn cls d oe) (hf : ∃ vs, oe.data = .fields vs) : L2H.HotC (X.suite a ((a, oe) :: pn)) := by
  obtain ⟨vs, hv⟩ := hf
  exact ⟨(a, oe), ⟨rfl, vs, hv, hz.2.2 vs hv⟩, List.mem_cons_self⟩
/-! ### list.count of a flag among flags -/
def eqb (k : Bool) (v : Value) : Bool := match v with
  | .bool n => n == k
  | _ => false
theorem bools_of_vals : ∀ {ns : List Bool} {us : List Value}, Vals (ns.map V.bl) us → us = ns.map Value.bool
  | [], _, h => by cases h; rfl
  | n :: ns, _, h => by
    cases h with
    | cons a b =>
      cases a
      rw [bools_of_vals b]
      rfl
theorem eqb_count {k : Bool} : ∀ (ns : List Bool), (ns.map Value.bool).countP (eqb k) = ns.count k
  | [] => rfl
  | n :: ns => by
    rw [List.map_cons, List.countP_cons, List.count_cons, eqb_count ns] <;> rfl
def rCntB (K : PySem.W.Frag) : V → List V → Hp → VK → Prop := fun x xs H Q => ∃ (p : Addr) (ns : List Bool) (k : Bool), x = .ref p ∧ xs = [.bl k] ∧ SqL K H p (ns.map V.bl) ∧ Q (.int (ns.count k : Nat)) H
theorem mt_lcountB {X : Cx} : MtR X "list.count" (rCntB X.K) := by
  intro pins s σ H x xs v us Q I rx rxs h
  obtain ⟨p, ns, k, rfl, rfl, hs, q⟩ := h
  cases rx
  obtain ⟨u, rfl, ru⟩ := rxs.one
  cases ru
  obtain ⟨its, rv, ⟨⟨cls, dd, data, sl⟩, n, ho, hc, hdn, hd⟩, hlen⟩ := I.list hs
  simp only at hc hd
  subst hc hd
  have hi := bools_of_vals rv
  subst hi
  refine call_meets PySem.F.slot_list_count ⟨_, ho, rfl⟩ PySem.F.entry_list_count (PySem.F.args_list_count_2 _ _)
    (SeqAt.list_countAt p (ns.map Value.bool).toArray n dd sl (.bool k) (eqb k)) ⟨ho, fun y hy => ?_, ?_⟩
  · have hy' : y ∈ ns.map Value.bool := by simpa using hy
    obtain ⟨b, _, rfl⟩ := List.mem_map.mp hy'
    exact SeqAt.EqAt.bool_bool b k
  · have ec : (ns.map Value.bool).toArray.toList.countP (eqb k) = ns.count k := eqb_count ns
    refine ⟨.int (ns.count k : Nat), H, I.tok _, ⟨s.toks, ?_⟩, q⟩
    show Value.int (((ns.map Value.bool).toArray.toList.countP (eqb k) : Nat) : Int) s.toks = Value.int ((ns.count k : Nat) : Int) s.toks
    rw [ec]
end L2

set_option Elab.async false
set_option linter.all false
set_option maxRecDepth 100000
set_option maxHeartbeats 2000000
namespace Fp
open PySem PySem.Spec PyProof.Rows L2
def top (i : Nat) : Stmt := PySem.Challenge.pw_frontparts_k07_errors_of_the_package.main.body.getD i (.Pass ⟨0, 0, 0, 0⟩)
abbrev s_BadBag__init__ : Stmt := inClass (top 2) 0
abbrev s_TooLong__init__ : Stmt := inClass (top 10) 0
abbrev s_BadText__init__ : Stmt := inClass (top 25) 0
abbrev s_NoName__init__ : Stmt := inClass (top 27) 0
abbrev s__law_hand : Stmt := top 29
abbrev s__law_draw : Stmt := top 30
abbrev s__law_value : Stmt := top 31
abbrev s__law_same : Stmt := top 32
abbrev s__law_kinds : Stmt := top 33
abbrev s__law_caught : Stmt := top 34
abbrev s_law : Stmt := top 35
abbrev FnP (K : PySem.W.Frag) (x q : Str) (st : Stmt) (f : Addr) (fd : FuncData) : Prop := FunD K x q (defArgs st) (defBody st) (defScope st) [] [] f fd
def d_BadBag__init__ : He.DefD := ⟨("BadBag", some "__init__"), "__init__", "BadBag.__init__", defArgs s_BadBag__init__, defBody s_BadBag__init__, defScope s_BadBag__init__, [], []⟩
def d_TooLong__init__ : He.DefD := ⟨("TooLong", some "__init__"), "__init__", "TooLong.__init__", defArgs s_TooLong__init__, defBody s_TooLong__init__, defScope s_TooLong__init__, [], []⟩
def d_BadText__init__ : He.DefD := ⟨("BadText", some "__init__"), "__init__", "BadText.__init__", defArgs s_BadText__init__, defBody s_BadText__init__, defScope s_BadText__init__, [], []⟩
def d_NoName__init__ : He.DefD := ⟨("NoName", some "__init__"), "__init__", "NoName.__init__", defArgs s_NoName__init__, defBody s_NoName__init__, defScope s_NoName__init__, [], []⟩
def d__law_hand : He.DefD := ⟨("_law_hand", none), "_law_hand", "_law_hand", defArgs s__law_hand, defBody s__law_hand, defScope s__law_hand, [], []⟩
def d__law_draw : He.DefD := ⟨("_law_draw", none), "_law_draw", "_law_draw", defArgs s__law_draw, defBody s__law_draw, defScope s__law_draw, [], []⟩
def d__law_value : He.DefD := ⟨("_law_value", none), "_law_value", "_law_value", defArgs s__law_value, defBody s__law_value, defScope s__law_value, [], []⟩
def d__law_same : He.DefD := ⟨("_law_same", none), "_law_same", "_law_same", defArgs s__law_same, defBody s__law_same, defScope s__law_same, [], []⟩
def d__law_kinds : He.DefD := ⟨("_law_kinds", none), "_law_kinds", "_law_kinds", defArgs s__law_kinds, defBody s__law_kinds, defScope s__law_kinds, [], []⟩
def d__law_caught : He.DefD := ⟨("_law_caught", none), "_law_caught", "_law_caught", defArgs s__law_caught, defBody s__law_caught, defScope s__law_caught, [], []⟩
def d_law : He.DefD := ⟨("law", none), "law", "law", defArgs s_law, defBody s_law, defScope s_law, [], []⟩
def fn : List He.DefD := [d_BadBag__init__, d_TooLong__init__, d_BadText__init__, d_NoName__init__, d__law_hand, d__law_draw, d__law_value, d__law_same, d__law_kinds, d__law_caught, d_law]
def fa : List He.Fa := [.glo "_law_hand", .glo "_law_draw", .glo "_law_value", .glo "_law_same", .glo "_law_kinds", .glo "_law_caught", .glo "law", .glo "BagError", .glo "BadBag", .glo "UnlikeClocks", .glo "NoNumber", .glo "NoWord", .glo "NoBags", .glo "IsNothing", .glo "NoRow", .glo "NotLevel", .glo "TooLong", .glo "NoPart", .glo "NoLot", .glo "NoOrder", .glo "NoWay", .glo "NoPlace", .glo "NoKnot", .glo "IsNumber", .glo "NoStock", .glo "NoAlphabet", .glo "NoLetters", .glo "NoClock", .glo "NoBag", .glo "Full", .glo "NothingDone", .glo "BadText", .glo "NoLine", .glo "NoName", .exc "BagError", .exc "UnlikeClocks", .exc "NoNumber", .exc "NoWord", .exc "NoBags", .exc "IsNothing", .exc "NoRow", .exc "NotLevel", .exc "NoPart", .exc "NoLot", .exc "NoOrder", .exc "NoWay", .exc "NoPlace", .exc "NoKnot", .exc "IsNumber", .exc "NoStock", .exc "NoAlphabet", .exc "NoLetters", .exc "NoClock", .exc "NoBag", .exc "Full", .exc "NothingDone", .exc "NoLine", .free "ValueError", .free "abs", .free "all", .free "bool", .free "int", .free "isinstance", .free "len"]
def excs : List Str := ["BagError", "BadBag", "UnlikeClocks", "NoNumber", "NoWord", "NoBags", "IsNothing", "NoRow", "NotLevel", "TooLong", "NoPart", "NoLot", "NoOrder", "NoWay", "NoPlace", "NoKnot", "IsNumber", "NoStock", "NoAlphabet", "NoLetters", "NoClock", "NoBag", "Full", "NothingDone", "BadText", "NoLine", "NoName"]
def inis : List (Str × Str) := [("BadBag", "part"), ("TooLong", "most"), ("BadText", "line"), ("NoName", "name")]
def exmL : List (Str × Str) := [("BadBag", "BagError"), ("NothingDone", "BagError"), ("TooLong", "TooLong")]
def exl (K : PySem.W.Frag) : List Bool := [excs.all fun n => excCB K (He.ga K n), inis.all fun n => oexB K (He.ga K n.1), excs.all fun n => excs.all fun m => decide (PySem.W.kitOne K (.ref (He.ga K n)) (.ref (He.ga K m)) = some (decide (n = m) || decide (m = "BagError"))), excs.all fun n => decide (PySem.W.kitOne K (.ref (He.ga K n)) (.type "ValueError") = some true), inis.all fun n => decide (PySem.W.findIn K (.ref (He.ga K n.1)) "__init__" = some (some (.ref (He.ma K (He.ga K n.1) "__init__")))) && decide (PySem.W.typeIn K (.ref (He.ma K (He.ga K n.1) "__init__")) = some (.type "function")), inis.all fun n => decide (PySem.W.findIn K (.ref (He.ga K n.1)) n.2 = some none), exmL.all fun n => decide (PySem.W.exmOne K (.ref (He.ga K n.1)) (.ref (He.ga K n.2)) = some true)]
def ex (K : PySem.W.Frag) : Bool := (exl K).all id
/-- what the top has left -/
structure Top (K : PySem.W.Frag) (mg : Str → Option Value) : Prop where
  h : ∃ h : Heap, K.In h ∧ h.Ns mainGlobals mg
  c : He.SaysD fa fn K
  e : ex K = true
section
variable {K : PySem.W.Frag} {mg : Str → Option Value}
theorem Top.x (T : Top K mg) (i : Nat) {b : Bool} (h : (exl K)[i]? = some b := by rfl) : b = true := by
  have := List.all_eq_true.mp T.e b (List.mem_of_getElem? h)
  exact this
theorem g__law_hand (T : Top K mg) : mg "_law_hand" = some (.ref (He.ga K "_law_hand")) := by
  obtain ⟨h, X, G⟩ := T.h
  exact He.glo_ok X G (T.c.fact 0 (f := .glo "_law_hand") rfl)
theorem g__law_draw (T : Top K mg) : mg "_law_draw" = some (.ref (He.ga K "_law_draw")) := by
  obtain ⟨h, X, G⟩ := T.h
  exact He.glo_ok X G (T.c.fact 1 (f := .glo "_law_draw") rfl)
theorem g__law_value (T : Top K mg) : mg "_law_value" = some (.ref (He.ga K "_law_value")) := by
  obtain ⟨h, X, G⟩ := T.h
  exact He.glo_ok X G (T.c.fact 2 (f := .glo "_law_value") rfl)
theorem g__law_same (T : Top K mg) : mg "_law_same" = some (.ref (He.ga K "_law_same")) := by
  obtain ⟨h, X, G⟩ := T.h
  exact He.glo_ok X G (T.c.fact 3 (f := .glo "_law_same") rfl)
theorem g__law_kinds (T : Top K mg) : mg "_law_kinds" = some (.ref (He.ga K "_law_kinds")) := by
  obtain ⟨h, X, G⟩ := T.h
  exact He.glo_ok X G (T.c.fact 4 (f := .glo "_law_kinds") rfl)
theorem g__law_caught (T : Top K mg) : mg "_law_caught" = some (.ref (He.ga K "_law_caught")) := by
  obtain ⟨h, X, G⟩ := T.h
  exact He.glo_ok X G (T.c.fact 5 (f := .glo "_law_caught") rfl)
theorem g_law (T : Top K mg) : mg "law" = some (.ref (He.ga K "law")) := by
  obtain ⟨h, X, G⟩ := T.h
  exact He.glo_ok X G (T.c.fact 6 (f := .glo "law") rfl)
theorem g_BagError (T : Top K mg) : mg "BagError" = some (.ref (He.ga K "BagError")) := by
  obtain ⟨h, X, G⟩ := T.h
  exact He.glo_ok X G (T.c.fact 7 (f := .glo "BagError") rfl)
theorem g_BadBag (T : Top K mg) : mg "BadBag" = some (.ref (He.ga K "BadBag")) := by
  obtain ⟨h, X, G⟩ := T.h
  exact He.glo_ok X G (T.c.fact 8 (f := .glo "BadBag") rfl)
theorem g_UnlikeClocks (T : Top K mg) : mg "UnlikeClocks" = some (.ref (He.ga K "UnlikeClocks")) := by
  obtain ⟨h, X, G⟩ := T.h
  exact He.glo_ok X G (T.c.fact 9 (f := .glo "UnlikeClocks") rfl)
theorem g_NoNumber (T : Top K mg) : mg "NoNumber" = some (.ref (He.ga K "NoNumber")) := by
  obtain ⟨h, X, G⟩ := T.h
  exact He.glo_ok X G (T.c.fact 10 (f := .glo "NoNumber") rfl)
theorem g_NoWord (T : Top K mg) : mg "NoWord" = some (.ref (He.ga K "NoWord")) := by
  obtain ⟨h, X, G⟩ := T.h
  exact He.glo_ok X G (T.c.fact 11 (f := .glo "NoWord") rfl)
theorem g_NoBags (T : Top K mg) : mg "NoBags" = some (.ref (He.ga K "NoBags")) := by
  obtain ⟨h, X, G⟩ := T.h
  exact He.glo_ok X G (T.c.fact 12 (f := .glo "NoBags") rfl)
theorem g_IsNothing (T : Top K mg) : mg "IsNothing" = some (.ref (He.ga K "IsNothing")) := by
  obtain ⟨h, X, G⟩ := T.h
  exact He.glo_ok X G (T.c.fact 13 (f := .glo "IsNothing") rfl)
theorem g_NoRow (T : Top K mg) : mg "NoRow" = some (.ref (He.ga K "NoRow")) := by
  obtain ⟨h, X, G⟩ := T.h
  exact He.glo_ok X G (T.c.fact 14 (f := .glo "NoRow") rfl)
theorem g_NotLevel (T : Top K mg) : mg "NotLevel" = some (.ref (He.ga K "NotLevel")) := by
  obtain ⟨h, X, G⟩ := T.h
  exact He.glo_ok X G (T.c.fact 15 (f := .glo "NotLevel") rfl)
theorem g_TooLong (T : Top K mg) : mg "TooLong" = some (.ref (He.ga K "TooLong")) := by
  obtain ⟨h, X, G⟩ := T.h
  exact He.glo_ok X G (T.c.fact 16 (f := .glo "TooLong") rfl)
theorem g_NoPart (T : Top K mg) : mg "NoPart" = some (.ref (He.ga K "NoPart")) := by
  obtain ⟨h, X, G⟩ := T.h
  exact He.glo_ok X G (T.c.fact 17 (f := .glo "NoPart") rfl)
theorem g_NoLot (T : Top K mg) : mg "NoLot" = some (.ref (He.ga K "NoLot")) := by
  obtain ⟨h, X, G⟩ := T.h
  exact He.glo_ok X G (T.c.fact 18 (f := .glo "NoLot") rfl)
theorem g_NoOrder (T : Top K mg) : mg "NoOrder" = some (.ref (He.ga K "NoOrder")) := by
  obtain ⟨h, X, G⟩ := T.h
  exact He.glo_ok X G (T.c.fact 19 (f := .glo "NoOrder") rfl)
theorem g_NoWay (T : Top K mg) : mg "NoWay" = some (.ref (He.ga K "NoWay")) := by
  obtain ⟨h, X, G⟩ := T.h
  exact He.glo_ok X G (T.c.fact 20 (f := .glo "NoWay") rfl)
theorem g_NoPlace (T : Top K mg) : mg "NoPlace" = some (.ref (He.ga K "NoPlace")) := by
  obtain ⟨h, X, G⟩ := T.h
  exact He.glo_ok X G (T.c.fact 21 (f := .glo "NoPlace") rfl)
theorem g_NoKnot (T : Top K mg) : mg "NoKnot" = some (.ref (He.ga K "NoKnot")) := by
  obtain ⟨h, X, G⟩ := T.h
  exact He.glo_ok X G (T.c.fact 22 (f := .glo "NoKnot") rfl)
theorem g_IsNumber (T : Top K mg) : mg "IsNumber" = some (.ref (He.ga K "IsNumber")) := by
  obtain ⟨h, X, G⟩ := T.h
  exact He.glo_ok X G (T.c.fact 23 (f := .glo "IsNumber") rfl)
theorem g_NoStock (T : Top K mg) : mg "NoStock" = some (.ref (He.ga K "NoStock")) := by
  obtain ⟨h, X, G⟩ := T.h
  exact He.glo_ok X G (T.c.fact 24 (f := .glo "NoStock") rfl)
theorem g_NoAlphabet (T : Top K mg) : mg "NoAlphabet" = some (.ref (He.ga K "NoAlphabet")) := by
  obtain ⟨h, X, G⟩ := T.h
  exact He.glo_ok X G (T.c.fact 25 (f := .glo "NoAlphabet") rfl)
theorem g_NoLetters (T : Top K mg) : mg "NoLetters" = some (.ref (He.ga K "NoLetters")) := by
  obtain ⟨h, X, G⟩ := T.h
  exact He.glo_ok X G (T.c.fact 26 (f := .glo "NoLetters") rfl)
theorem g_NoClock (T : Top K mg) : mg "NoClock" = some (.ref (He.ga K "NoClock")) := by
  obtain ⟨h, X, G⟩ := T.h
  exact He.glo_ok X G (T.c.fact 27 (f := .glo "NoClock") rfl)
theorem g_NoBag (T : Top K mg) : mg "NoBag" = some (.ref (He.ga K "NoBag")) := by
  obtain ⟨h, X, G⟩ := T.h
  exact He.glo_ok X G (T.c.fact 28 (f := .glo "NoBag") rfl)
theorem g_Full (T : Top K mg) : mg "Full" = some (.ref (He.ga K "Full")) := by
  obtain ⟨h, X, G⟩ := T.h
  exact He.glo_ok X G (T.c.fact 29 (f := .glo "Full") rfl)
theorem g_NothingDone (T : Top K mg) : mg "NothingDone" = some (.ref (He.ga K "NothingDone")) := by
  obtain ⟨h, X, G⟩ := T.h
  exact He.glo_ok X G (T.c.fact 30 (f := .glo "NothingDone") rfl)
theorem g_BadText (T : Top K mg) : mg "BadText" = some (.ref (He.ga K "BadText")) := by
  obtain ⟨h, X, G⟩ := T.h
  exact He.glo_ok X G (T.c.fact 31 (f := .glo "BadText") rfl)
theorem g_NoLine (T : Top K mg) : mg "NoLine" = some (.ref (He.ga K "NoLine")) := by
  obtain ⟨h, X, G⟩ := T.h
  exact He.glo_ok X G (T.c.fact 32 (f := .glo "NoLine") rfl)
theorem g_NoName (T : Top K mg) : mg "NoName" = some (.ref (He.ga K "NoName")) := by
  obtain ⟨h, X, G⟩ := T.h
  exact He.glo_ok X G (T.c.fact 33 (f := .glo "NoName") rfl)
theorem e_BagError (T : Top K mg) : PySem.W.excIn K (He.ga K "BagError") He.veBase "ValueError.__new__" = true ∧ PySem.W.keepIn K (.ref (He.ga K "BagError")) = true ∧ PySem.W.subIn K (.ref (He.ga K "BagError")) (.type "BaseException") = some true ∧ PySem.W.typeIn K (.ref (He.ga K "BagError")) = some (.type "type") := He.exc_ok (T.c.fact 34 (f := .exc "BagError") rfl)
theorem e_UnlikeClocks (T : Top K mg) : PySem.W.excIn K (He.ga K "UnlikeClocks") He.veBase "ValueError.__new__" = true ∧ PySem.W.keepIn K (.ref (He.ga K "UnlikeClocks")) = true ∧ PySem.W.subIn K (.ref (He.ga K "UnlikeClocks")) (.type "BaseException") = some true ∧ PySem.W.typeIn K (.ref (He.ga K "UnlikeClocks")) = some (.type "type") := He.exc_ok (T.c.fact 35 (f := .exc "UnlikeClocks") rfl)
theorem e_NoNumber (T : Top K mg) : PySem.W.excIn K (He.ga K "NoNumber") He.veBase "ValueError.__new__" = true ∧ PySem.W.keepIn K (.ref (He.ga K "NoNumber")) = true ∧ PySem.W.subIn K (.ref (He.ga K "NoNumber")) (.type "BaseException") = some true ∧ PySem.W.typeIn K (.ref (He.ga K "NoNumber")) = some (.type "type") := He.exc_ok (T.c.fact 36 (f := .exc "NoNumber") rfl)
theorem e_NoWord (T : Top K mg) : PySem.W.excIn K (He.ga K "NoWord") He.veBase "ValueError.__new__" = true ∧ PySem.W.keepIn K (.ref (He.ga K "NoWord")) = true ∧ PySem.W.subIn K (.ref (He.ga K "NoWord")) (.type "BaseException") = some true ∧ PySem.W.typeIn K (.ref (He.ga K "NoWord")) = some (.type "type") := He.exc_ok (T.c.fact 37 (f := .exc "NoWord") rfl)
theorem e_NoBags (T : Top K mg) : PySem.W.excIn K (He.ga K "NoBags") He.veBase "ValueError.__new__" = true ∧ PySem.W.keepIn K (.ref (He.ga K "NoBags")) = true ∧ PySem.W.subIn K (.ref (He.ga K "NoBags")) (.type "BaseException") = some true ∧ PySem.W.typeIn K (.ref (He.ga K "NoBags")) = some (.type "type") := He.exc_ok (T.c.fact 38 (f := .exc "NoBags") rfl)
theorem e_IsNothing (T : Top K mg) : PySem.W.excIn K (He.ga K "IsNothing") He.veBase "ValueError.__new__" = true ∧ PySem.W.keepIn K (.ref (He.ga K "IsNothing")) = true ∧ PySem.W.subIn K (.ref (He.ga K "IsNothing")) (.type "BaseException") = some true ∧ PySem.W.typeIn K (.ref (He.ga K "IsNothing")) = some (.type "type") := He.exc_ok (T.c.fact 39 (f := .exc "IsNothing") rfl)
theorem e_NoRow (T : Top K mg) : PySem.W.excIn K (He.ga K "NoRow") He.veBase "ValueError.__new__" = true ∧ PySem.W.keepIn K (.ref (He.ga K "NoRow")) = true ∧ PySem.W.subIn K (.ref (He.ga K "NoRow")) (.type "BaseException") = some true ∧ PySem.W.typeIn K (.ref (He.ga K "NoRow")) = some (.type "type") := He.exc_ok (T.c.fact 40 (f := .exc "NoRow") rfl)
theorem e_NotLevel (T : Top K mg) : PySem.W.excIn K (He.ga K "NotLevel") He.veBase "ValueError.__new__" = true ∧ PySem.W.keepIn K (.ref (He.ga K "NotLevel")) = true ∧ PySem.W.subIn K (.ref (He.ga K "NotLevel")) (.type "BaseException") = some true ∧ PySem.W.typeIn K (.ref (He.ga K "NotLevel")) = some (.type "type") := He.exc_ok (T.c.fact 41 (f := .exc "NotLevel") rfl)
theorem e_NoPart (T : Top K mg) : PySem.W.excIn K (He.ga K "NoPart") He.veBase "ValueError.__new__" = true ∧ PySem.W.keepIn K (.ref (He.ga K "NoPart")) = true ∧ PySem.W.subIn K (.ref (He.ga K "NoPart")) (.type "BaseException") = some true ∧ PySem.W.typeIn K (.ref (He.ga K "NoPart")) = some (.type "type") := He.exc_ok (T.c.fact 42 (f := .exc "NoPart") rfl)
theorem e_NoLot (T : Top K mg) : PySem.W.excIn K (He.ga K "NoLot") He.veBase "ValueError.__new__" = true ∧ PySem.W.keepIn K (.ref (He.ga K "NoLot")) = true ∧ PySem.W.subIn K (.ref (He.ga K "NoLot")) (.type "BaseException") = some true ∧ PySem.W.typeIn K (.ref (He.ga K "NoLot")) = some (.type "type") := He.exc_ok (T.c.fact 43 (f := .exc "NoLot") rfl)
theorem e_NoOrder (T : Top K mg) : PySem.W.excIn K (He.ga K "NoOrder") He.veBase "ValueError.__new__" = true ∧ PySem.W.keepIn K (.ref (He.ga K "NoOrder")) = true ∧ PySem.W.subIn K (.ref (He.ga K "NoOrder")) (.type "BaseException") = some true ∧ PySem.W.typeIn K (.ref (He.ga K "NoOrder")) = some (.type "type") := He.exc_ok (T.c.fact 44 (f := .exc "NoOrder") rfl)
theorem e_NoWay (T : Top K mg) : PySem.W.excIn K (He.ga K "NoWay") He.veBase "ValueError.__new__" = true ∧ PySem.W.keepIn K (.ref (He.ga K "NoWay")) = true ∧ PySem.W.subIn K (.ref (He.ga K "NoWay")) (.type "BaseException") = some true ∧ PySem.W.typeIn K (.ref (He.ga K "NoWay")) = some (.type "type") := He.exc_ok (T.c.fact 45 (f := .exc "NoWay") rfl)
theorem e_NoPlace (T : Top K mg) : PySem.W.excIn K (He.ga K "NoPlace") He.veBase "ValueError.__new__" = true ∧ PySem.W.keepIn K (.ref (He.ga K "NoPlace")) = true ∧ PySem.W.subIn K (.ref (He.ga K "NoPlace")) (.type "BaseException") = some true ∧ PySem.W.typeIn K (.ref (He.ga K "NoPlace")) = some (.type "type") := He.exc_ok (T.c.fact 46 (f := .exc "NoPlace") rfl)
theorem e_NoKnot (T : Top K mg) : PySem.W.excIn K (He.ga K "NoKnot") He.veBase "ValueError.__new__" = true ∧ PySem.W.keepIn K (.ref (He.ga K "NoKnot")) = true ∧ PySem.W.subIn K (.ref (He.ga K "NoKnot")) (.type "BaseException") = some true ∧ PySem.W.typeIn K (.ref (He.ga K "NoKnot")) = some (.type "type") := He.exc_ok (T.c.fact 47 (f := .exc "NoKnot") rfl)
theorem e_IsNumber (T : Top K mg) : PySem.W.excIn K (He.ga K "IsNumber") He.veBase "ValueError.__new__" = true ∧ PySem.W.keepIn K (.ref (He.ga K "IsNumber")) = true ∧ PySem.W.subIn K (.ref (He.ga K "IsNumber")) (.type "BaseException") = some true ∧ PySem.W.typeIn K (.ref (He.ga K "IsNumber")) = some (.type "type") := He.exc_ok (T.c.fact 48 (f := .exc "IsNumber") rfl)
theorem e_NoStock (T : Top K mg) : PySem.W.excIn K (He.ga K "NoStock") He.veBase "ValueError.__new__" = true ∧ PySem.W.keepIn K (.ref (He.ga K "NoStock")) = true ∧ PySem.W.subIn K (.ref (He.ga K "NoStock")) (.type "BaseException") = some true ∧ PySem.W.typeIn K (.ref (He.ga K "NoStock")) = some (.type "type") := He.exc_ok (T.c.fact 49 (f := .exc "NoStock") rfl)
theorem e_NoAlphabet (T : Top K mg) : PySem.W.excIn K (He.ga K "NoAlphabet") He.veBase "ValueError.__new__" = true ∧ PySem.W.keepIn K (.ref (He.ga K "NoAlphabet")) = true ∧ PySem.W.subIn K (.ref (He.ga K "NoAlphabet")) (.type "BaseException") = some true ∧ PySem.W.typeIn K (.ref (He.ga K "NoAlphabet")) = some (.type "type") := He.exc_ok (T.c.fact 50 (f := .exc "NoAlphabet") rfl)
theorem e_NoLetters (T : Top K mg) : PySem.W.excIn K (He.ga K "NoLetters") He.veBase "ValueError.__new__" = true ∧ PySem.W.keepIn K (.ref (He.ga K "NoLetters")) = true ∧ PySem.W.subIn K (.ref (He.ga K "NoLetters")) (.type "BaseException") = some true ∧ PySem.W.typeIn K (.ref (He.ga K "NoLetters")) = some (.type "type") := He.exc_ok (T.c.fact 51 (f := .exc "NoLetters") rfl)
theorem e_NoClock (T : Top K mg) : PySem.W.excIn K (He.ga K "NoClock") He.veBase "ValueError.__new__" = true ∧ PySem.W.keepIn K (.ref (He.ga K "NoClock")) = true ∧ PySem.W.subIn K (.ref (He.ga K "NoClock")) (.type "BaseException") = some true ∧ PySem.W.typeIn K (.ref (He.ga K "NoClock")) = some (.type "type") := He.exc_ok (T.c.fact 52 (f := .exc "NoClock") rfl)
theorem e_NoBag (T : Top K mg) : PySem.W.excIn K (He.ga K "NoBag") He.veBase "ValueError.__new__" = true ∧ PySem.W.keepIn K (.ref (He.ga K "NoBag")) = true ∧ PySem.W.subIn K (.ref (He.ga K "NoBag")) (.type "BaseException") = some true ∧ PySem.W.typeIn K (.ref (He.ga K "NoBag")) = some (.type "type") := He.exc_ok (T.c.fact 53 (f := .exc "NoBag") rfl)
theorem e_Full (T : Top K mg) : PySem.W.excIn K (He.ga K "Full") He.veBase "ValueError.__new__" = true ∧ PySem.W.keepIn K (.ref (He.ga K "Full")) = true ∧ PySem.W.subIn K (.ref (He.ga K "Full")) (.type "BaseException") = some true ∧ PySem.W.typeIn K (.ref (He.ga K "Full")) = some (.type "type") := He.exc_ok (T.c.fact 54 (f := .exc "Full") rfl)
theorem e_NothingDone (T : Top K mg) : PySem.W.excIn K (He.ga K "NothingDone") He.veBase "ValueError.__new__" = true ∧ PySem.W.keepIn K (.ref (He.ga K "NothingDone")) = true ∧ PySem.W.subIn K (.ref (He.ga K "NothingDone")) (.type "BaseException") = some true ∧ PySem.W.typeIn K (.ref (He.ga K "NothingDone")) = some (.type "type") := He.exc_ok (T.c.fact 55 (f := .exc "NothingDone") rfl)
theorem e_NoLine (T : Top K mg) : PySem.W.excIn K (He.ga K "NoLine") He.veBase "ValueError.__new__" = true ∧ PySem.W.keepIn K (.ref (He.ga K "NoLine")) = true ∧ PySem.W.subIn K (.ref (He.ga K "NoLine")) (.type "BaseException") = some true ∧ PySem.W.typeIn K (.ref (He.ga K "NoLine")) = some (.type "type") := He.exc_ok (T.c.fact 56 (f := .exc "NoLine") rfl)
theorem f_ValueError (T : Top K mg) : mg "ValueError" = none := by
  obtain ⟨h, X, G⟩ := T.h
  exact He.free_ok X G (T.c.fact 57 (f := .free "ValueError") rfl)
theorem f_abs (T : Top K mg) : mg "abs" = none := by
  obtain ⟨h, X, G⟩ := T.h
  exact He.free_ok X G (T.c.fact 58 (f := .free "abs") rfl)
theorem f_all (T : Top K mg) : mg "all" = none := by
  obtain ⟨h, X, G⟩ := T.h
  exact He.free_ok X G (T.c.fact 59 (f := .free "all") rfl)
theorem f_bool (T : Top K mg) : mg "bool" = none := by
  obtain ⟨h, X, G⟩ := T.h
  exact He.free_ok X G (T.c.fact 60 (f := .free "bool") rfl)
theorem f_int (T : Top K mg) : mg "int" = none := by
  obtain ⟨h, X, G⟩ := T.h
  exact He.free_ok X G (T.c.fact 61 (f := .free "int") rfl)
theorem f_isinstance (T : Top K mg) : mg "isinstance" = none := by
  obtain ⟨h, X, G⟩ := T.h
  exact He.free_ok X G (T.c.fact 62 (f := .free "isinstance") rfl)
theorem f_len (T : Top K mg) : mg "len" = none := by
  obtain ⟨h, X, G⟩ := T.h
  exact He.free_ok X G (T.c.fact 63 (f := .free "len") rfl)
theorem fn_BadBag__init__ (T : Top K mg) : ∃ fd, FnP K "__init__" "BadBag.__init__" s_BadBag__init__ (He.fAd K ("BadBag", some "__init__")) fd := T.c.def_ 0 (d := d_BadBag__init__) rfl
theorem fn_TooLong__init__ (T : Top K mg) : ∃ fd, FnP K "__init__" "TooLong.__init__" s_TooLong__init__ (He.fAd K ("TooLong", some "__init__")) fd := T.c.def_ 1 (d := d_TooLong__init__) rfl
theorem fn_BadText__init__ (T : Top K mg) : ∃ fd, FnP K "__init__" "BadText.__init__" s_BadText__init__ (He.fAd K ("BadText", some "__init__")) fd := T.c.def_ 2 (d := d_BadText__init__) rfl
theorem fn_NoName__init__ (T : Top K mg) : ∃ fd, FnP K "__init__" "NoName.__init__" s_NoName__init__ (He.fAd K ("NoName", some "__init__")) fd := T.c.def_ 3 (d := d_NoName__init__) rfl
theorem fn__law_hand (T : Top K mg) : ∃ fd, FnP K "_law_hand" "_law_hand" s__law_hand (He.fAd K ("_law_hand", none)) fd := T.c.def_ 4 (d := d__law_hand) rfl
theorem fn__law_draw (T : Top K mg) : ∃ fd, FnP K "_law_draw" "_law_draw" s__law_draw (He.fAd K ("_law_draw", none)) fd := T.c.def_ 5 (d := d__law_draw) rfl
theorem fn__law_value (T : Top K mg) : ∃ fd, FnP K "_law_value" "_law_value" s__law_value (He.fAd K ("_law_value", none)) fd := T.c.def_ 6 (d := d__law_value) rfl
theorem fn__law_same (T : Top K mg) : ∃ fd, FnP K "_law_same" "_law_same" s__law_same (He.fAd K ("_law_same", none)) fd := T.c.def_ 7 (d := d__law_same) rfl
theorem fn__law_kinds (T : Top K mg) : ∃ fd, FnP K "_law_kinds" "_law_kinds" s__law_kinds (He.fAd K ("_law_kinds", none)) fd := T.c.def_ 8 (d := d__law_kinds) rfl
theorem fn__law_caught (T : Top K mg) : ∃ fd, FnP K "_law_caught" "_law_caught" s__law_caught (He.fAd K ("_law_caught", none)) fd := T.c.def_ 9 (d := d__law_caught) rfl
theorem fn_law (T : Top K mg) : ∃ fd, FnP K "law" "law" s_law (He.fAd K ("law", none)) fd := T.c.def_ 10 (d := d_law) rfl
theorem x_cls (T : Top K mg) {n : Str} (h : n ∈ excs) : ExcC K (He.ga K n) := excCB_ok (List.all_eq_true.mp (T.x 0) n h)
theorem x_oex (T : Top K mg) {n f : Str} (h : (n, f) ∈ inis) : OexC K (He.ga K n) := oexB_ok (List.all_eq_true.mp (T.x 1) (n, f) h)
theorem x_kit (T : Top K mg) {n m : Str} (h : n ∈ excs) (h2 : m ∈ excs) : PySem.W.kitOne K (.ref (He.ga K n)) (.ref (He.ga K m)) = some (decide (n = m) || decide (m = "BagError")) := of_decide_eq_true (List.all_eq_true.mp (List.all_eq_true.mp (T.x 2) n h) m h2)
theorem x_ve (T : Top K mg) {n : Str} (h : n ∈ excs) : PySem.W.kitOne K (.ref (He.ga K n)) (.type "ValueError") = some true := of_decide_eq_true (List.all_eq_true.mp (T.x 3) n h)
theorem x_ini (T : Top K mg) {n f : Str} (h : (n, f) ∈ inis) : PySem.W.findIn K (.ref (He.ga K n)) "__init__" = some (some (.ref (He.ma K (He.ga K n) "__init__"))) ∧ PySem.W.typeIn K (.ref (He.ma K (He.ga K n) "__init__")) = some (.type "function") := by
  have := List.all_eq_true.mp (T.x 4) (n, f) h
  simpa using this
theorem x_no (T : Top K mg) {n f : Str} (h : (n, f) ∈ inis) : PySem.W.findIn K (.ref (He.ga K n)) f = some none := of_decide_eq_true (List.all_eq_true.mp (T.x 5) (n, f) h)
theorem x_exm (T : Top K mg) {n m : Str} (h : (n, m) ∈ exmL) : PySem.W.exmOne K (.ref (He.ga K n)) (.ref (He.ga K m)) = some true := of_decide_eq_true (List.all_eq_true.mp (T.x 6) (n, m) h)
end
end Fp

set_option Elab.async false
set_option linter.all false
set_option maxRecDepth 100000
set_option maxHeartbeats 0
namespace Fp
open PySem PySem.Spec PyProof.Rows L2
abbrev R : PySem.W.OpenRow := PySem.W.OpenLaw.row PySem.Challenge.rw_frontparts_k07_errors_of_the_package
abbrev hk : PySem.W.Hook := He.hookX 5 fa fn [] [] ex
def ob (s : PySem.W.SharedT) : He.AlX := He.obsX 5 fa fn [] [] ex (HandSHeadRun.getT s)
theorem ob_eq (s : PySem.W.SharedT) : ob s = hk.obs s.abs := He.obsX_eq (HandSHeadRun.getT_eq s)
def loose : List PySem.Str := "__name__" :: "BagError" :: "BadBag" :: "UnlikeClocks" :: "NoNumber" :: "NoWord" :: "NoBags" :: "IsNothing" :: "NoRow" :: "NotLevel" :: "TooLong" :: "NoPart" :: "NoLot" :: "NoOrder" :: "NoWay" :: "NoPlace" :: "NoKnot" :: "IsNumber" :: "NoStock" :: "NoAlphabet" :: "NoLetters" :: "NoClock" :: "NoBag" :: "Full" :: "NothingDone" :: "BadText" :: "NoLine" :: "NoName" :: "_law_hand" :: "_law_draw" :: "_law_value" :: "_law_same" :: "_law_kinds" :: "_law_caught" :: []
theorem run (w : World) : HandSHeadRun.RunEq R (PySem.W.view R.prog [35]) hk ob 20000 loose w := by
  intro os
  kernel_rfl
theorem top_of {w : World} {h h' : Heap} {K : PySem.W.Frag} {mg : Str → Option Value} (X : K.In h) (G : h.Ns mainGlobals mg) (c : He.SaysX fa fn [] [] ex w h' K) : Top K mg := ⟨⟨h, X, G⟩, c.t.d, c.more⟩
end Fp

set_option Elab.async false
set_option linter.all false
set_option maxRecDepth 100000
set_option maxHeartbeats 4000000
namespace Fp
open PySem PySem.Spec PyProof.Rows L2
/-! ### the hand: what is drawn from -/
def HandAt (ca : Addr) (H : Hp) (h : Addr) : Prop := ∃ (cs : List Int) (a l sd tn : Int), H h = some (.lst [.ref ca, .int a, .int l, .int sd, .int tn]) ∧ H ca = some (.lst (cs.map V.int)) ∧ cs.length ≤ 63 ∧ (∀ c ∈ cs, 0 ≤ c) ∧ 0 ≤ a ∧ 0 ≤ l
theorem HandAt.ne {H : Hp} {h ca : Addr} {cs : List Int} {a l sd tn : Int} (h1 : H h = some (.lst [.ref ca, .int a, .int l, .int sd, .int tn])) (h2 : H ca = some (.lst (cs.map V.int))) : ca ≠ h := by
  refine ne_of h2 h1 fun z => ?_
  injection z with z
  cases cs with
  | nil => cases z
  | cons c r =>
    rw [List.map_cons] at z
    injection z with z1
    cases z1
theorem HandAt.lst {ca : Addr} {H : Hp} {h : Addr} (x : HandAt ca H h) : ∃ xs, H h = some (.lst xs) := by
  obtain ⟨cs, a, l, sd, tn, h1, _⟩ := x
  exact ⟨_, h1⟩
theorem HandAt.but {ca : Addr} {H H' : Hp} {h d : Addr} (x : HandAt ca H h) (k : But d H H') (hd : ∀ xs, H d ≠ some (.lst xs)) : HandAt ca H' h := by
  obtain ⟨cs, a, l, sd, tn, h1, h2, r⟩ := x
  exact ⟨cs, a, l, sd, tn, k _ _ h1 (fun z => hd _ (z ▸ h1)), k _ _ h2 (fun z => hd _ (z ▸ h2)), r⟩
theorem HandAt.same {ca : Addr} {H H' : Hp} {h : Addr} (x : HandAt ca H h) (k : Same H H') : HandAt ca H' h := by
  obtain ⟨cs, a, l, sd, tn, h1, h2, r⟩ := x
  exact ⟨cs, a, l, sd, tn, k _ _ h1, k _ _ h2, r⟩
theorem HandAt.off {ca : Addr} {H H' : Hp} {h d : Addr} (x : HandAt ca H h) (k : But d H H') (h1 : h ≠ d) (h2 : ca ≠ d) : HandAt ca H' h := by
  obtain ⟨cs, a, l, sd, tn, g1, g2, r⟩ := x
  exact ⟨cs, a, l, sd, tn, k _ _ g1 h1, k _ _ g2 h2, r⟩
theorem HandAt.cells {ca : Addr} {H : Hp} {h : Addr} (x : HandAt ca H h) : ∃ xs, H ca = some (.lst xs) := by
  obtain ⟨cs, a, l, sd, tn, h1, h2, _⟩ := x
  exact ⟨_, h2⟩
theorem cut63 (ns : List Int) : cutV (ns.map V.int) none (some 63) = (ns.take 63).map V.int := by
  unfold cutV
  rw [show HT.sIx (ns.map V.int).length (ns.map V.int).length (some 63) = min 63 (ns.map V.int).length from HT.sIx_nat _ _ 63, HT.sIx_none, List.drop_zero, Nat.sub_zero, List.length_map, List.map_take]
  by_cases h : ns.length ≤ 63
  · rw [Nat.min_eq_right h, List.take_of_length_le (by rw [List.length_map]; exact Nat.le_refl _), List.take_of_length_le (by rw [List.length_map]; exact h)]
  · rw [Nat.min_eq_left (by omega)]
section
variable {P : Program} {w : World} {K : PySem.W.Frag} {mg : Str → Option Value} {base : Heap}
def spHand (K : PySem.W.Frag) : Sp := fun vs H Q _ => ∃ (a : Addr) (ns : List Int), vs = [.ref a] ∧ SqL K H a (ns.map V.int) ∧ ∀ H' h ca, Same H H' → H h = none → HandAt ca H' h → Q (.ref h) H'
abbrev nHand : List Str := ["_law_script", "_law_cells", "_law_cell"]
theorem sc_hand : FnScope nHand ["_law_script"] (defScope s__law_hand) := ⟨rfl, rfl, rfl, by decide +kernel, rfl, by decide +kernel, by decide +kernel⟩
theorem ok_hand (T : Top K mg) : Ok P w K mg base 1 "_law_hand" ["_law_script"] (spHand K) := by
  obtain ⟨fd, F⟩ := fn__law_hand T
  refine ⟨⟨fd, ?_, F.bindsN fun _ _ _ _ _ _ us hl => match us, hl with | [_], _ => rfl⟩, g__law_hand T, F.kp⟩
  refine F.ok sc_hand (fun vs H Q E h => ?_) (fun cdv A outer s H vs Q E hr h => ?_)
  · obtain ⟨a, ns, rfl, _⟩ := h
    rfl
  · obtain ⟨a, ns, rfl, hS, q⟩ := h
    have nd := sc_hand.nd
    have hs : sizeLine = 16777216 := sizeLine_eq
    refine ⟨_, PSs.nox (pss_cons (ps_setLc (i := 1) (own := [("_law_cell", 2)]) (g := gName 2) (tt := tYes) (by rfl) nd rfl rfl (sw_true rfl rfl rfl (by decide +kernel)) (pi_list (pe_slice sl_list (pv 0) po_none (po_some pe_int)))
        (blkOk_by (N := nHand) (sc := defScope s__law_hand) (by decide +kernel)) (fun _ _ _ _ _ => pg_name (i := 2) nd rfl (Or.inl rfl)) (fun _ _ _ _ _ => pts_nil)
        (fun _ _ _ _ _ => pe_callB call_abs (by rfl) (f_abs T) (by decide +kernel) (pa_cons (pe_callTy call_int1 (by rfl) (f_int T) boot_int (pa_cons (pv 2) pa_nil)) pa_nil)))
      (pss_one (ps_ret (pe_lst (pa_cons (pv 1) (pa_cons pe_int (pa_cons pe_int (pa_cons (pe_op op_add pe_int (pe_callB call_len (by rfl) (f_len T) PySem.boot_len (pa_cons (pv 1) pa_nil))) (pa_cons pe_int pa_nil))))))))), ?_⟩
    refine ⟨_, rfl, _, rfl, a, _, rfl, hS, fun S hSn => ?_⟩
    rw [cut63]
    refine ⟨S, rfl, ⟨_, .inl (.inl upd_same)⟩, fun D hD => ?_⟩
    have nDS : D ≠ S := fun e => by
      rw [e, upd_same] at hD
      cases hD
    have hD0 : H D = none := by
      rw [upd_ne nDS] at hD
      exact hD
    refine lc_it (walk_list (xs := (ns.take 63).map V.int)) (fun i H' => (∃ cs : List Int, H' D = some (.lst (cs.map V.int)) ∧ cs.length = i ∧ ∀ c ∈ cs, 0 ≤ c) ∧ Same H H' ∧ H' S = some (.lst ((ns.take 63).map V.int)))
      ⟨⟨[], upd_same, rfl, fun c hc => by cases hc⟩, ?_, ?_⟩ (fun i H' _ hP => .inl (.inl hP.2.2)) ?_ ?_
    · intro b o e
      rw [upd_ne (ne_of_none e hD0), upd_ne (ne_of_none e hSn)]
      exact e
    · rw [upd_ne nDS.symm]
      exact upd_same
    · rintro i x H1 H2 hi ⟨⟨cs, p1, p2, p3⟩, p4, p5⟩ ⟨rfl, e⟩
      rw [List.length_map, List.length_take] at hi
      rw [List.getElem?_map] at e
      cases en : (ns.take 63)[i]? with
      | none => rw [en] at e; cases e
      | some n =>
        rw [en] at e
        have e2 : V.int n = x := Option.some.inj e
        subst e2
        refine ⟨rfl, ?_⟩
        refine ⟨_, rfl, .inl ⟨n, rfl, n, rfl, cs.map V.int, p1, ?_, ⟨cs ++ [if n < 0 then -n else n], ?_, ?_, ?_⟩, ?_, ?_⟩⟩
        · rw [List.length_map]
          omega
        · rw [upd_same, List.map_append]
          rfl
        · rw [List.length_append, p2]
          rfl
        · intro c hc
          rcases List.mem_append.mp hc with hc | hc
          · exact p3 c hc
          · have : c = if n < 0 then -n else n := by simpa using hc
            rw [this]
            split <;> omega
        · intro b o z
          rw [upd_ne (ne_of_none z hD0)]
          exact p4 b o z
        · rw [upd_ne nDS.symm]
          exact p5
    · rintro H' ⟨⟨cs, p1, p2, p3⟩, p4, p5⟩
      rw [List.length_map, List.length_take] at p2
      refine ⟨_, rfl, _, rfl, .ref D, cs.length, rfl, .inl ⟨_, .inl (.inl p1), by rw [List.length_map]⟩, _, _, rfl, rfl, ?_⟩
      refine ⟨by show 5 ≤ sizeLine; omega, fun h hh => ?_⟩
      have hh0 : H h = none := by
        cases z : H h with
        | none => rfl
        | some u =>
          rw [p4 h u z] at hh
          cases hh
      refine q _ h D (p4.trans (same_upd hh)) hh0 ⟨cs, 0, 0, _, 0, upd_same, ?_, by omega, p3, by omega, by omega⟩
      rw [upd_ne (ne_of_none p1 hh)]
      exact p1
def spDraw : Sp := fun vs H Q _ => ∃ (h ca : Addr) (n : Int), vs = [.ref h, .int n] ∧ 0 < n ∧ n < 1073741824 ∧ HandAt ca H h ∧ ∀ (r : Int) (H' : Hp), 0 ≤ r → r < n → HandAt ca H' h → But h H H' → Q (.int r) H'
abbrev nDraw : List Str := ["_law_hand_here", "_law_many", "_law_cell", "_law_digit", "_law_number"]
theorem sc_draw : FnScope nDraw ["_law_hand_here", "_law_many"] (defScope s__law_draw) := ⟨rfl, rfl, rfl, by decide +kernel, rfl, by decide +kernel, by decide +kernel⟩
theorem ok_draw (T : Top K mg) : Ok P w K mg base 1 "_law_draw" ["_law_hand_here", "_law_many"] spDraw := by
  obtain ⟨fd, F⟩ := fn__law_draw T
  refine ⟨⟨fd, ?_, F.bindsN fun _ _ _ _ _ _ us hl => match us, hl with | [_, _], _ => rfl⟩, g__law_draw T, F.kp⟩
  refine F.ok sc_draw (fun vs H Q E h => ?_) (fun cdv A outer s H vs Q E hr h => ?_)
  · obtain ⟨h, ca, n, rfl, _⟩ := h
    rfl
  · obtain ⟨h, ca, n, rfl, hn0, hn1, hh, q⟩ := h
    have nd := sc_draw.nd
    refine ⟨_, PSs.nox (pss_cons (ps_if (PW.pt (pw_and (pt_cmpR op_eq (pe_ix ix_list (pv 0) pe_int (fun _ _ => rfl)) pe_int (nomark _)) (pw_and1 (pt_cmpR op_lt (pe_ix ix_list (pv 0) pe_int (fun _ _ => rfl)) (pe_callB call_len (by rfl) (f_len T) PySem.boot_len (pa_cons (pe_ix ix_list (pv 0) pe_int (fun _ _ => rfl)) pa_nil)) (nomark _)))))
        (pss_cons (ps_set (i := 2) nd rfl (Or.inl rfl) (pe_ix ix_list (pe_ix ix_list (pv 0) pe_int (fun _ _ => rfl)) (pe_ix ix_list (pv 0) pe_int (fun _ _ => rfl)) (fun _ _ => rfl)))
        (pss_cons (ps_asg (pe_op op_add (pe_ix ix_list (pv 0) pe_int (fun _ _ => rfl)) pe_int) (pg_sub (pv 0) pe_int set_list))
        (pss_cons (ps_asg (pe_op op_mod (pe_callTy call_int1 (by rfl) (f_int T) boot_int (pa_cons (pe_op op_add (pe_op op_add (pe_op op_mul (pe_ix ix_list (pv 0) pe_int (fun _ _ => rfl)) pe_int) (pv 2)) pe_int) pa_nil)) pe_int) (pg_sub (pv 0) pe_int set_list))
        (pss_one (ps_if (pt_cmpR op_ge (pv 2) (pe_op op_pow pe_int pe_int) (nomark _)) (pss_one (ps_asg (pv 2) (pg_sub (pv 0) pe_int set_list))) pss_nil))))) pss_nil)
      (pss_cons (ps_if (pt_cmpR op_gt (pe_ix ix_list (pv 0) pe_int (fun _ _ => rfl)) pe_int (nomark _))
        (pss_cons (ps_set (i := 3) nd rfl (Or.inl rfl) (pe_op op_mod (pe_callTy call_int1 (by rfl) (f_int T) boot_int (pa_cons (pe_ix ix_list (pv 0) pe_int (fun _ _ => rfl)) pa_nil)) (pv 1)))
        (pss_cons (ps_asg (pe_op op_fdiv (pe_ix ix_list (pv 0) pe_int (fun _ _ => rfl)) (pv 1)) (pg_sub (pv 0) pe_int set_list))
        (pss_one (ps_ret (pv 3))))) pss_nil)
      (pss_cons (ps_asg (pe_op op_add (pe_ix ix_list (pv 0) pe_int (fun _ _ => rfl)) pe_int) (pg_sub (pv 0) pe_int set_list))
      (pss_cons (ps_set (i := 4) nd rfl (Or.inl rfl) (pe_op op_mod (pe_callTy call_int1 (by rfl) (f_int T) boot_int (pa_cons (pe_op op_mul (pe_callTy call_int1 (by rfl) (f_int T) boot_int (pa_cons (pe_op op_add (pe_ix ix_list (pv 0) pe_int (fun _ _ => rfl)) (pe_op op_mul pe_int (pe_ix ix_list (pv 0) pe_int (fun _ _ => rfl)))) pa_nil)) pe_int) pa_nil)) pe_int))
      (pss_cons (ps_set (i := 4) nd rfl (Or.inl rfl) (pe_op op_mod (pe_callTy call_int1 (by rfl) (f_int T) boot_int (pa_cons (pe_op op_mul (pv 4) (pe_op op_add (pe_op op_fdiv (pv 4) pe_int) pe_int)) pa_nil)) pe_int))
      (pss_cons (ps_set (i := 4) nd rfl (Or.inl rfl) (pe_op op_mod (pe_callTy call_int1 (by rfl) (f_int T) boot_int (pa_cons (pe_op op_mul (pv 4) (pe_op op_add (pe_op op_fdiv (pv 4) pe_int) pe_int)) pa_nil)) pe_int))
      (pss_one (ps_ret (pe_op op_mod (pe_callTy call_int1 (by rfl) (f_int T) boot_int (pa_cons (pe_op op_fdiv (pv 4) pe_int) pa_nil)) (pv 1)))))))))), ?_⟩
    obtain ⟨cs, a, l, sd, tn, h1, h2, h3, h4, h5, h6⟩ := id hh
    have hne := HandAt.ne h1 h2
    obtain ⟨k, rfl⟩ : ∃ k : Nat, a = k := ⟨a.toNat, (Int.toNat_of_nonneg h5).symm⟩
    refine ⟨_, rfl, h, _, 2, _, rfl, rfl, SqL.of h1, rfl, rfl, _, rfl, ?_⟩
    by_cases hl0 : l = 0
    case' neg =>
      rw [decide_eq_false (show ¬ V.int l = V.int 0 from fun z => hl0 (by injection z))]
      refine iteF ?_
      have hk := hh
      have kb := But.refl h H
    case' pos =>
      rw [decide_eq_true (show V.int l = V.int 0 by rw [hl0])]
      refine iteT ?_
      refine ⟨_, rfl, h, _, 1, _, rfl, rfl, SqL.of h1, rfl, _, rfl, h, _, 0, _, rfl, rfl, SqL.of h1, rfl, _, _, rfl, .inl ⟨_, SqL.of h2, rfl⟩, _, _, rfl, rfl, _, rfl, ?_⟩
      refine ite2 (fun ha => ?_) (fun ha => ?_)
    case' pos.refine_2 =>
      have hk := hh
      have kb := But.refl h H
    case' pos.refine_1 =>
      have ha2 : k < cs.length := by
        have := of_decide_eq_true ha
        rw [List.length_map] at this
        omega
      have ek : (cs.map V.int)[k]? = some (.int cs[k]) := by
        rw [List.getElem?_map, List.getElem?_eq_getElem ha2]
        rfl
      have hc0 : 0 ≤ cs[k] := h4 _ (List.getElem_mem ha2)
      refine ⟨_, rfl, h, _, 0, _, rfl, rfl, SqL.of h1, rfl, _, rfl, h, _, 1, _, rfl, rfl, SqL.of h1, rfl, ca, _, _, _, rfl, rfl, SqL.of h2, atI_nat ek, ?_⟩
      refine ⟨_, rfl, h, _, 1, _, rfl, rfl, SqL.of h1, rfl, _, _, rfl, rfl, _, rfl, h, _, 1, 1, rfl, rfl, h1, rfl, ?_⟩
      refine ⟨_, rfl, h, _, 3, _, rfl, rfl, SqL.of upd_same, rfl, _, _, rfl, rfl, .inr ⟨by decide, by decide⟩, _, rfl, _, _, rfl, rfl, _, _, rfl, rfl, .inl ⟨_, rfl, _, _, rfl, rfl, (by show (0 : Int) < _; decide), _, rfl, h, _, 3, 3, rfl, rfl, upd_same, rfl, ?_⟩⟩
      refine ⟨_, rfl, _, _, rfl, rfl, ⟨by decide, by decide, by decide⟩, _, _, rfl, rfl, _, rfl, ?_⟩
      refine ite2 (fun hg => ?_) (fun hg => ?_)
    case' pos.refine_1.refine_2 =>
      have hk : HandAt ca (upd (upd H h (.lst [.ref ca, .int ((k : Int) + 1), .int l, .int sd, .int tn])) h (.lst [.ref ca, .int ((k : Int) + 1), .int l, .int ((sd * 69621 + cs[k] + 11) % 2147483629), .int tn])) h :=
        ⟨cs, _, l, _, tn, upd_same, by rw [upd_ne hne, upd_ne hne]; exact h2, h3, h4, by omega, h6⟩
      have kb : But h H (upd (upd H h (.lst [.ref ca, .int ((k : Int) + 1), .int l, .int sd, .int tn])) h (.lst [.ref ca, .int ((k : Int) + 1), .int l, .int ((sd * 69621 + cs[k] + 11) % 2147483629), .int tn])) := but_upd.trans but_upd
    case' pos.refine_1.refine_1 =>
      refine ⟨_, rfl, _, rfl, h, _, 2, 2, rfl, rfl, upd_same, rfl, ?_⟩
      have hk : HandAt ca (upd (upd (upd H h (.lst [.ref ca, .int ((k : Int) + 1), .int l, .int sd, .int tn])) h (.lst [.ref ca, .int ((k : Int) + 1), .int l, .int ((sd * 69621 + cs[k] + 11) % 2147483629), .int tn])) h (.lst [.ref ca, .int ((k : Int) + 1), .int cs[k], .int ((sd * 69621 + cs[k] + 11) % 2147483629), .int tn])) h :=
        ⟨cs, _, cs[k], _, tn, upd_same, by rw [upd_ne hne, upd_ne hne, upd_ne hne]; exact h2, h3, h4, by omega, hc0⟩
      have kb : But h H (upd (upd (upd H h (.lst [.ref ca, .int ((k : Int) + 1), .int l, .int sd, .int tn])) h (.lst [.ref ca, .int ((k : Int) + 1), .int l, .int ((sd * 69621 + cs[k] + 11) % 2147483629), .int tn])) h (.lst [.ref ca, .int ((k : Int) + 1), .int cs[k], .int ((sd * 69621 + cs[k] + 11) % 2147483629), .int tn])) := (but_upd.trans but_upd).trans but_upd
    all_goals
      obtain ⟨cs1, a1, l1, sd1, tn1, g1, g2, g3, g4, g5, g6⟩ := hk
      have gne := HandAt.ne g1 g2
      refine ⟨_, rfl, h, _, 2, _, rfl, rfl, SqL.of g1, rfl, _, _, rfl, rfl, _, rfl, ?_⟩
      refine ite2 (fun hc => ?_) (fun hc => ?_)
      · refine ⟨_, rfl, h, _, 2, _, rfl, rfl, SqL.of g1, rfl, .inl ⟨_, rfl, _, rfl, _, _, rfl, rfl, hn0, _, rfl, h, _, 2, _, rfl, rfl, SqL.of g1, rfl, _, rfl, _, _, rfl, rfl, ⟨hn0, hn1⟩, _, rfl, h, _, 2, 2, rfl, rfl, g1, rfl, _, rfl, ?_⟩⟩
        exact q _ _ (Int.emod_nonneg _ (by omega)) (Int.emod_lt_of_pos _ hn0) ⟨cs1, a1, l1 / n, sd1, tn1, upd_same, by rw [upd_ne gne]; exact g2, g3, g4, g5, Int.ediv_nonneg g6 (Int.le_of_lt hn0)⟩ (kb.trans but_upd)
      · refine ⟨_, rfl, h, _, 4, _, rfl, rfl, SqL.of g1, rfl, _, _, rfl, rfl, _, rfl, h, _, 4, 4, rfl, rfl, g1, rfl, ?_⟩
        refine ⟨_, rfl, h, _, 3, _, rfl, rfl, SqL.of upd_same, rfl, _, rfl, h, _, 4, _, rfl, rfl, SqL.of upd_same, rfl, _, _, rfl, rfl, .inl ⟨by decide, by decide⟩, _, _, rfl, rfl, .inl ⟨_, rfl, _, _, rfl, rfl, .inr ⟨by decide, by decide⟩, .inl ⟨_, rfl, _, _, rfl, rfl, (by show (0 : Int) < _; decide), ?_⟩⟩⟩
        refine ⟨_, rfl, _, rfl, _, _, rfl, rfl, ⟨by decide, by decide⟩, _, _, rfl, rfl, _, _, rfl, rfl, .inl ⟨Int.lt_of_lt_of_le (by decide) (Int.emod_nonneg _ (by decide)), Int.lt_trans (Int.emod_lt_of_pos _ (by decide)) (by decide)⟩, .inl ⟨_, rfl, _, _, rfl, rfl, (by show (0 : Int) < _; decide), ?_⟩⟩
        refine ⟨_, rfl, _, rfl, _, _, rfl, rfl, ⟨by decide, by decide⟩, _, _, rfl, rfl, _, _, rfl, rfl, .inl ⟨Int.lt_of_lt_of_le (by decide) (Int.emod_nonneg _ (by decide)), Int.lt_trans (Int.emod_lt_of_pos _ (by decide)) (by decide)⟩, .inl ⟨_, rfl, _, _, rfl, rfl, (by show (0 : Int) < _; decide), ?_⟩⟩
        refine ⟨_, rfl, _, _, rfl, rfl, ⟨by decide, by decide⟩, .inl ⟨_, rfl, _, rfl, _, _, rfl, rfl, hn0, ?_⟩⟩
        exact q _ _ (Int.emod_nonneg _ (by omega)) (Int.emod_lt_of_pos _ hn0) ⟨cs1, a1, l1, sd1, _, upd_same, by rw [upd_ne gne]; exact g2, g3, g4, g5, g6⟩ (kb.trans but_upd)
end
end Fp

set_option Elab.async false
set_option linter.all false
set_option maxRecDepth 100000
set_option maxHeartbeats 4000000
namespace L2
open PySem PySem.Spec PyProof.Rows
theorem pe_weak {X : Cx} {e : Expr} {t t' : TE} (he : PE X e t) (h : ∀ σ H Q, t' σ H Q → t σ H Q) : PE X e t' := ⟨fun pins s σ H Q I q => he.run pins s σ H Q I (h σ H Q q)⟩
def rEq2 (K : PySem.W.Frag) : R2 := fun x y H Q => rEqD K x y H Q ∨ rEqV K x y H Q
theorem op_eq2 {X : Cx} (hu : X.A.units + 64 < cLine) : OpR X (compareOp .Eq) (rEq2 X.K) := by
  intro pins s σ H x y v u Q I rx ry h
  rcases h with h | h
  · exact op_eqD hu pins s σ H x y v u Q I rx ry h
  · exact op_eqV hu pins s σ H x y v u Q I rx ry h
theorem FunD.okH {P : Program} {w : World} {K : PySem.W.Frag} {mg : Str → Option Value} {base : Heap} {x qual : Str} {params : Arguments} {body : List Stmt} {scope : Scope} {dvs : List V} {kws : List (Str × V)} {f : Addr} {fd : FuncData} {CX : CXT} {N ps : List Str} {k : Nat} {sp : Sp} (F : FunD K x qual params body scope dvs kws f fd) (S : FnScope N ps scope) (len : ∀ vs H Q E, sp vs H Q E → vs.length = ps.length)
    (hbody : ∀ (cdv : Value) (A : Around) (outer : List Env) (s : Shared) (H : Hp) (vs : List V) (Q : VK) (E : XK) (p : Addr × Obj), L2H.Hot1 A p → L2H.RoomH k (A.deeper (envOfC qual scope s.heap.objs.size f cdv)) → sp vs H Q E →
      ∃ t, PSs (L2H.cxH CX P w K mg base N qual scope f cdv A outer s H E p) body t ∧ t { nx := fun _ H' => Q .non H', rt := Q } (start N vs) H) : L2H.FnH P w K mg base CX (k + 1) f fd ps sp := by
  obtain ⟨oc, od, dV, kV, doc, pm, an, cdv, ct, osl, rfl, lk, hcd, _, _⟩ := F.ex
  exact L2H.fn_ofH lk hcd S len fun A outer s H vs Q E p hot hr hsp => hbody cdv A outer s H vs Q E p hot hr hsp
end L2
namespace Fp
open PySem PySem.Spec PyProof.Rows L2
section
variable {P : Program} {w : World} {K : PySem.W.Frag} {mg : Str → Option Value} {base : Heap}
/-! ### own exceptions' __init__ -/
def spIni (K : PySem.W.Frag) (f : Str) : Sp := fun vs H Q _ => ∃ (a C : Addr) (y : V), vs = [.ref a, y] ∧ OexC K C ∧ PySem.W.findIn K (.ref C) f = some none ∧ H a = some (exo a C none) ∧ ∀ dx, H dx = none → dx ≠ a → Q .non (upd (upd H dx (exd dx [(f, y)])) a (exo a C (some dx)))
theorem sc_BadBag : FnScope ["self", "part"] ["self", "part"] (defScope s_BadBag__init__) := ⟨rfl, rfl, rfl, by decide +kernel, rfl, by decide +kernel, by decide +kernel⟩
theorem ini_BadBag (T : Top K mg) : ∃ fd, FnOk P w K mg base CX0 1 (He.ma K (He.ga K "BadBag") "__init__") fd ["self", "part"] (spIni K "part") ∧ Binds K fd ["self", "part"] [] := by
  obtain ⟨fd, F⟩ := fn_BadBag__init__ T
  refine ⟨fd, ?_, F.bindsN fun _ _ _ _ _ _ us hl => match us, hl with | [_, _], _ => rfl⟩
  refine F.ok sc_BadBag (fun vs H Q E h => ?_) (fun cdv A outer s H vs Q E hr h => ?_)
  · obtain ⟨a, C, y, rfl, _⟩ := h
    rfl
  · obtain ⟨a, C, y, rfl, T1, hno, e, q⟩ := h
    refine ⟨_, PSs.nox (pss_one (ps_ost (pv 0) (pv 1))), ?_⟩
    exact ⟨_, rfl, _, rfl, a, C, rfl, T1, hno, .inl ⟨e, fun dx h1 h2 => q dx h1 h2⟩⟩
theorem sc_TooLong : FnScope ["self", "most"] ["self", "most"] (defScope s_TooLong__init__) := ⟨rfl, rfl, rfl, by decide +kernel, rfl, by decide +kernel, by decide +kernel⟩
theorem ini_TooLong (T : Top K mg) : ∃ fd, FnOk P w K mg base CX0 1 (He.ma K (He.ga K "TooLong") "__init__") fd ["self", "most"] (spIni K "most") ∧ Binds K fd ["self", "most"] [] := by
  obtain ⟨fd, F⟩ := fn_TooLong__init__ T
  refine ⟨fd, ?_, F.bindsN fun _ _ _ _ _ _ us hl => match us, hl with | [_, _], _ => rfl⟩
  refine F.ok sc_TooLong (fun vs H Q E h => ?_) (fun cdv A outer s H vs Q E hr h => ?_)
  · obtain ⟨a, C, y, rfl, _⟩ := h
    rfl
  · obtain ⟨a, C, y, rfl, T1, hno, e, q⟩ := h
    refine ⟨_, PSs.nox (pss_one (ps_ost (pv 0) (pv 1))), ?_⟩
    exact ⟨_, rfl, _, rfl, a, C, rfl, T1, hno, .inl ⟨e, fun dx h1 h2 => q dx h1 h2⟩⟩
theorem sc_BadText : FnScope ["self", "line"] ["self", "line"] (defScope s_BadText__init__) := ⟨rfl, rfl, rfl, by decide +kernel, rfl, by decide +kernel, by decide +kernel⟩
theorem ini_BadText (T : Top K mg) : ∃ fd, FnOk P w K mg base CX0 1 (He.ma K (He.ga K "BadText") "__init__") fd ["self", "line"] (spIni K "line") ∧ Binds K fd ["self", "line"] [] := by
  obtain ⟨fd, F⟩ := fn_BadText__init__ T
  refine ⟨fd, ?_, F.bindsN fun _ _ _ _ _ _ us hl => match us, hl with | [_, _], _ => rfl⟩
  refine F.ok sc_BadText (fun vs H Q E h => ?_) (fun cdv A outer s H vs Q E hr h => ?_)
  · obtain ⟨a, C, y, rfl, _⟩ := h
    rfl
  · obtain ⟨a, C, y, rfl, T1, hno, e, q⟩ := h
    refine ⟨_, PSs.nox (pss_one (ps_ost (pv 0) (pv 1))), ?_⟩
    exact ⟨_, rfl, _, rfl, a, C, rfl, T1, hno, .inl ⟨e, fun dx h1 h2 => q dx h1 h2⟩⟩
theorem sc_NoName : FnScope ["self", "name"] ["self", "name"] (defScope s_NoName__init__) := ⟨rfl, rfl, rfl, by decide +kernel, rfl, by decide +kernel, by decide +kernel⟩
theorem ini_NoName (T : Top K mg) : ∃ fd, FnOk P w K mg base CX0 1 (He.ma K (He.ga K "NoName") "__init__") fd ["self", "name"] (spIni K "name") ∧ Binds K fd ["self", "name"] [] := by
  obtain ⟨fd, F⟩ := fn_NoName__init__ T
  refine ⟨fd, ?_, F.bindsN fun _ _ _ _ _ _ us hl => match us, hl with | [_, _], _ => rfl⟩
  refine F.ok sc_NoName (fun vs H Q E h => ?_) (fun cdv A outer s H vs Q E hr h => ?_)
  · obtain ⟨a, C, y, rfl, _⟩ := h
    rfl
  · obtain ⟨a, C, y, rfl, T1, hno, e, q⟩ := h
    refine ⟨_, PSs.nox (pss_one (ps_ost (pv 0) (pv 1))), ?_⟩
    exact ⟨_, rfl, _, rfl, a, C, rfl, T1, hno, .inl ⟨e, fun dx h1 h2 => q dx h1 h2⟩⟩
/-! ### what is drawn into the fields -/
def VALS (x : V) : Prop := (∃ i, x = .int i) ∨ (∃ b, x = .bl b) ∨ x = .non ∨ x = .str "" ∨ x = .str "clock"
def VALK (H : Hp) (x : V) : Prop := VALS x ∨ ∃ a, x = .ref a ∧ (H a = some (.tup [.int 1, .int 2]) ∨ H a = some (.tup []) ∨ H a = some (.lst [.int 3]) ∨ H a = some (.dK [(Sum.inr "x", .int 1)]))
theorem VALK.same {H H' : Hp} {x : V} (v : VALK H x) (k : Same H H') : VALK H' x := by
  rcases v with v | ⟨a, rfl, v⟩
  · exact .inl v
  · refine .inr ⟨a, rfl, ?_⟩
    rcases v with v | v | v | v
    · exact .inl (k _ _ v)
    · exact .inr (.inl (k _ _ v))
    · exact .inr (.inr (.inl (k _ _ v)))
    · exact .inr (.inr (.inr (k _ _ v)))
theorem VALK.dp {H : Hp} {x : V} (v : VALK H x) : (∃ d, Dp K H x d ∧ SeqAt.shaped d = true ∧ PyData.eqv d d = true) ∨ ∃ a, x = .ref a ∧ H a = some (.dK [(Sum.inr "x", .int 1)]) := by
  rcases v with v | ⟨a, rfl, v⟩
  · rcases v with ⟨i, rfl⟩ | ⟨b, rfl⟩ | rfl | rfl | rfl
    · exact .inl ⟨_, .int i, rfl, by simp [PyData.eqv]⟩
    · exact .inl ⟨_, .bl b, rfl, by cases b <;> decide +kernel⟩
    · exact .inl ⟨_, .non, rfl, by decide +kernel⟩
    · exact .inl ⟨_, .str _, by decide +kernel, by decide +kernel⟩
    · exact .inl ⟨_, .str _, by decide +kernel, by decide +kernel⟩
  · rcases v with v | v | v | v
    · exact .inl ⟨_, .tup (.inl (.inl v)) (.cons (.int 1) (.cons (.int 2) .nil)), by decide +kernel, by decide +kernel⟩
    · exact .inl ⟨_, .tup (.inl (.inl v)) .nil, by decide +kernel, by decide +kernel⟩
    · exact .inl ⟨_, .lst (SqL.of v) (.cons (.int 3) .nil), by decide +kernel, by decide +kernel⟩
    · exact .inr ⟨a, rfl, v⟩
theorem VALK.eq2 {H : Hp} {x : V} (v : VALK H x) {Q : VK} (q : Q (.bl true) H) : rEq2 K x x H Q := by
  rcases v.dp (K := K) with ⟨d, h1, h2, h3⟩ | ⟨a, rfl, h⟩
  · exact .inl ⟨d, d, h1, h1, h2, h2, by rw [h3]; exact q⟩
  · refine .inr ⟨1, by decide, .inr ⟨a, a, _, _, rfl, rfl, h, h, rfl, fun p hp => ?_⟩, q⟩
    have : p = ((Sum.inr "x" : Key), V.int 1) := by simpa using hp
    subst this
    exact ⟨V.int 1, rfl, Or.inl ⟨rfl, rfl⟩⟩
theorem VALK.isb {H : Hp} {x : V} (v : VALK H x) : ∃ t b, TyX K H x t ∧ PySem.W.kitOne K t (.type "bool") = some b := by
  rcases v with v | ⟨a, rfl, v⟩
  · rcases v with ⟨i, rfl⟩ | ⟨b, rfl⟩ | rfl | rfl | rfl
    · exact ⟨_, _, .base (.int i), kit_ty (r := false) (by decide +kernel)⟩
    · exact ⟨_, _, .base (.bl b), kit_ty (r := true) (by decide +kernel)⟩
    · exact ⟨_, _, .base .non, kit_ty (r := false) (by decide +kernel)⟩
    · exact ⟨_, _, .base (.str _), kit_ty (r := false) (by decide +kernel)⟩
    · exact ⟨_, _, .base (.str _), kit_ty (r := false) (by decide +kernel)⟩
  · rcases v with v | v | v | v
    · exact ⟨_, _, .base (.tup v), kit_ty (r := false) (by decide +kernel)⟩
    · exact ⟨_, _, .base (.tup v), kit_ty (r := false) (by decide +kernel)⟩
    · exact ⟨_, _, .base (.lst v), kit_ty (r := false) (by decide +kernel)⟩
    · exact ⟨_, _, .base (.dK v), kit_ty (r := false) (by decide +kernel)⟩
def spSame : Sp := fun vs H Q _ => ∃ x, vs = [x, x] ∧ VALK H x ∧ Q (.bl true) H
theorem sc_same : FnScope ["_law_one", "_law_other"] ["_law_one", "_law_other"] (defScope s__law_same) := ⟨rfl, rfl, rfl, by decide +kernel, rfl, by decide +kernel, by decide +kernel⟩
theorem ok_same (T : Top K mg) : Ok P w K mg base 1 "_law_same" ["_law_one", "_law_other"] spSame := by
  obtain ⟨fd, F⟩ := fn__law_same T
  refine ⟨⟨fd, ?_, F.bindsN fun _ _ _ _ _ _ us hl => match us, hl with | [_, _], _ => rfl⟩, g__law_same T, F.kp⟩
  refine F.ok sc_same (fun vs H Q E h => ?_) (fun cdv A outer s H vs Q E hr h => ?_)
  · obtain ⟨x, rfl, _⟩ := h
    rfl
  · obtain ⟨x, rfl, v, q⟩ := h
    refine ⟨_, PSs.nox (pss_one (ps_ret (pe_and (pe_cmpR (op_eq2 hr.units) (pv 0) (pv 1) (nomark _))
      (pe_one (pe_cmpR op_eq (pe_callB call_isi (by rfl) (f_isinstance T) (by decide +kernel) (pa_cons (pv 0) (pa_cons (pe_bltn (v := .ty "bool") (by rfl) (f_bool T) (by decide +kernel) rfl) pa_nil)))
        (pe_callB call_isi (by rfl) (f_isinstance T) (by decide +kernel) (pa_cons (pv 1) (pa_cons (pe_bltn (v := .ty "bool") (by rfl) (f_bool T) (by decide +kernel) rfl) pa_nil))) (nomark _)))))), ?_⟩
    obtain ⟨t, b, h1, h2⟩ := v.isb (K := K)
    refine ⟨_, rfl, _, rfl, v.eq2 ⟨true, rfl, iteT ?_⟩⟩
    refine ⟨_, rfl, x, _, t, _, b, rfl, .ty "bool", h1, h2, _, rfl, x, _, t, _, b, rfl, .ty "bool", h1, h2, by cases b <;> rfl, ?_⟩
    rw [decide_eq_true rfl]
    exact q
theorem okH_same (T : Top K mg) : ∃ fd, L2H.FnH P w K mg base CX0 1 (He.ga K "_law_same") fd ["_law_one", "_law_other"] spSame ∧ Binds K fd ["_law_one", "_law_other"] [] ∧ PySem.W.keepIn K (.ref (He.ga K "_law_same")) = true := by
  obtain ⟨fd, F⟩ := fn__law_same T
  refine ⟨fd, ?_, F.bindsN fun _ _ _ _ _ _ us hl => match us, hl with | [_, _], _ => rfl, F.kp⟩
  refine F.okH sc_same (fun vs H Q E h => ?_) (fun cdv A outer s H vs Q E p hot hr h => ?_)
  · obtain ⟨x, rfl, _⟩ := h
    rfl
  · obtain ⟨x, rfl, v, q⟩ := h
    refine ⟨_, PSs.nox (pss_one (ps_ret (pe_and (pe_cmpR (op_eq2 (by have := hr.un; show (A.deeper _).units + 64 < _; omega)) (pv 0) (pv 1) (nomark _))
      (pe_one (pe_cmpR op_eq (pe_callB call_isi (by rfl) (f_isinstance T) (by decide +kernel) (pa_cons (pv 0) (pa_cons (pe_bltn (v := .ty "bool") (by rfl) (f_bool T) (by decide +kernel) rfl) pa_nil)))
        (pe_callB call_isi (by rfl) (f_isinstance T) (by decide +kernel) (pa_cons (pv 1) (pa_cons (pe_bltn (v := .ty "bool") (by rfl) (f_bool T) (by decide +kernel) rfl) pa_nil))) (nomark _)))))), ?_⟩
    obtain ⟨t, b, h1, h2⟩ := v.isb (K := K)
    refine ⟨_, rfl, _, rfl, v.eq2 ⟨true, rfl, iteT ?_⟩⟩
    refine ⟨_, rfl, x, _, t, _, b, rfl, .ty "bool", h1, h2, _, rfl, x, _, t, _, b, rfl, .ty "bool", h1, h2, by cases b <;> rfl, ?_⟩
    rw [decide_eq_true rfl]
    exact q
end
end Fp

set_option Elab.async false
set_option linter.all false
set_option maxRecDepth 100000
set_option maxHeartbeats 4000000
namespace Fp
open PySem PySem.Spec PyProof.Rows L2
section
variable {P : Program} {w : World} {K : PySem.W.Frag} {mg : Str → Option Value} {base : Heap}
def spValue : Sp := fun vs H Q _ => ∃ (h ca : Addr), vs = [.ref h] ∧ HandAt ca H h ∧ ∀ (x : V) (H' : Hp), VALK H' x → HandAt ca H' h → But h H H' → Q x H'
theorem sc_value : FnScope ["_law_hand_here", "_law_values"] ["_law_hand_here"] (defScope s__law_value) := ⟨rfl, rfl, rfl, by decide +kernel, rfl, by decide +kernel, by decide +kernel⟩
theorem ok_value (T : Top K mg) : Ok P w K mg base 2 "_law_value" ["_law_hand_here"] spValue := by
  obtain ⟨fd, F⟩ := fn__law_value T
  refine ⟨⟨fd, ?_, F.bindsN fun _ _ _ _ _ _ us hl => match us, hl with | [_], _ => rfl⟩, g__law_value T, F.kp⟩
  refine F.ok sc_value (fun vs H Q E h => ?_) (fun cdv A outer s H vs Q E hr h => ?_)
  · obtain ⟨h, ca, rfl, _⟩ := h
    rfl
  · obtain ⟨h, ca, rfl, hh, q⟩ := h
    have nd := sc_value.nd
    have hs : sizeLine = 16777216 := sizeLine_eq
    refine ⟨_, PSs.nox (pss_cons (ps_set (i := 1) nd rfl (Or.inl rfl) (pe_lst (pa_cons pe_int (pa_cons (pe_un un_neg pe_int) (pa_cons pe_int (pa_cons (pe_op op_pow pe_int pe_int) (pa_cons pe_bl (pa_cons pe_non
      (pa_cons pe_str (pa_cons pe_str (pa_cons (pe_tup (pa_cons pe_int (pa_cons pe_int pa_nil))) (pa_cons (pe_lst (pa_cons pe_int pa_nil)) (pa_cons (pe_disp (pps_cons pe_str pe_int pps_nil) (by rfl) (by rfl) (fun z => by cases z) (by decide))
      (pa_cons (pe_tup pa_nil) (pa_cons pe_bl pa_nil)))))))))))))))
      (pss_one (ps_ret (pe_ix ix_list (pv 1) (pc (ok_draw T) hr (pa_cons (pv 0) (pa_cons pe_int pa_nil))) (fun _ _ => rfl))))), ?_⟩
    refine ⟨_, rfl, _, _, rfl, rfl, ⟨by decide, by decide⟩, ?_⟩
    refine ⟨by show 2 ≤ sizeLine; omega, fun p1 n1 => ?_⟩
    have s1 := same_upd (o := .tup [.int 1, .int 2]) n1
    have e1 : (upd H p1 (.tup [.int 1, .int 2])) p1 = some (.tup [.int 1, .int 2]) := upd_same
    generalize upd H p1 (.tup [.int 1, .int 2]) = H1 at s1 e1 ⊢
    refine ⟨by show 1 ≤ sizeLine; omega, fun p2 n2 => ?_⟩
    have s2 := s1.trans (same_upd (o := .lst [.int 3]) n2)
    replace e1 := same_upd (o := .lst [.int 3]) n2 _ _ e1
    have e2 : (upd H1 p2 (.lst [.int 3])) p2 = some (.lst [.int 3]) := upd_same
    generalize upd H1 p2 (.lst [.int 3]) = H2 at s2 e1 e2 ⊢
    refine fun p3 n3 => ⟨upd_same, kv [("x", 1)], rfl, Nat.le_of_ble_eq_true rfl, ?_⟩
    rw [upd_upd, show mergeK [] (kv [(("x" : Str), (1 : Int))]) = [((Sum.inr "x" : Key), V.int 1)] from rfl]
    have s3 := s2.trans (same_upd (o := .dK [((Sum.inr "x" : Key), V.int 1)]) n3)
    replace e1 := same_upd (o := .dK [((Sum.inr "x" : Key), V.int 1)]) n3 _ _ e1
    replace e2 := same_upd (o := .dK [((Sum.inr "x" : Key), V.int 1)]) n3 _ _ e2
    have e3 : (upd H2 p3 (.dK [((Sum.inr "x" : Key), V.int 1)])) p3 = some (.dK [((Sum.inr "x" : Key), V.int 1)]) := upd_same
    generalize upd H2 p3 (.dK [((Sum.inr "x" : Key), V.int 1)]) = H3 at s3 e1 e2 e3 ⊢
    refine ⟨by show 0 ≤ sizeLine; omega, fun p4 n4 => ?_⟩
    have s4 := s3.trans (same_upd (o := .tup []) n4)
    replace e1 := same_upd (o := .tup []) n4 _ _ e1
    replace e2 := same_upd (o := .tup []) n4 _ _ e2
    replace e3 := same_upd (o := .tup []) n4 _ _ e3
    have e4 : (upd H3 p4 (.tup [])) p4 = some (.tup []) := upd_same
    generalize upd H3 p4 (.tup []) = H4 at s4 e1 e2 e3 e4 ⊢
    refine ⟨by show 13 ≤ sizeLine; omega, fun p5 n5 => ?_⟩
    have s5 := s4.trans (same_upd (o := .lst [V.int 0, V.int (-1), V.int 7, V.int (10 ^ 30), V.bl true, V.non, V.str "", V.str "clock", V.ref p1, V.ref p2, V.ref p3, V.ref p4, V.bl false]) n5)
    have t5 := same_upd (o := .lst [V.int 0, V.int (-1), V.int 7, V.int (10 ^ 30), V.bl true, V.non, V.str "", V.str "clock", V.ref p1, V.ref p2, V.ref p3, V.ref p4, V.bl false]) n5
    have e5 : (upd H4 p5 (.lst [V.int 0, V.int (-1), V.int 7, V.int (10 ^ 30), V.bl true, V.non, V.str "", V.str "clock", V.ref p1, V.ref p2, V.ref p3, V.ref p4, V.bl false])) p5 = some (.lst [V.int 0, V.int (-1), V.int 7, V.int (10 ^ 30), V.bl true, V.non, V.str "", V.str "clock", V.ref p1, V.ref p2, V.ref p3, V.ref p4, V.bl false]) := upd_same
    replace e1 := t5 _ _ e1
    replace e2 := t5 _ _ e2
    replace e3 := t5 _ _ e3
    replace e4 := t5 _ _ e4
    refine ⟨_, rfl, _, rfl, h, ca, 13, rfl, by decide, by decide, hh.same s5, fun r H6 hr0 hr1 hh6 k6 => ?_⟩
    obtain ⟨hx, hxe⟩ := hh.lst
    have m1 : p1 ≠ h := fun e => by rw [e, hxe] at n1; cases n1
    have m2 : p2 ≠ h := fun e => by rw [e, s1 _ _ hxe] at n2; cases n2
    have m3 : p3 ≠ h := fun e => by rw [e, s2 _ _ hxe] at n3; cases n3
    have m4 : p4 ≠ h := fun e => by rw [e, s3 _ _ hxe] at n4; cases n4
    have m5 : p5 ≠ h := fun e => by rw [e, s4 _ _ hxe] at n5; cases n5
    have kk : But h H H6 := (But.of s5).trans k6
    have key : ∀ (v : V), VALK H6 v → Q v H6 := fun v hv => q v H6 hv hh6 kk
    have hr13 : r = 0 ∨ r = 1 ∨ r = 2 ∨ r = 3 ∨ r = 4 ∨ r = 5 ∨ r = 6 ∨ r = 7 ∨ r = 8 ∨ r = 9 ∨ r = 10 ∨ r = 11 ∨ r = 12 := by omega
    rcases hr13 with rfl | rfl | rfl | rfl | rfl | rfl | rfl | rfl | rfl | rfl | rfl | rfl | rfl
    · exact ⟨p5, _, 0, V.int 0, rfl, rfl, SqL.of (k6 _ _ e5 m5), rfl, key _ (.inl (.inl ⟨_, rfl⟩))⟩
    · exact ⟨p5, _, 1, V.int (-1), rfl, rfl, SqL.of (k6 _ _ e5 m5), rfl, key _ (.inl (.inl ⟨_, rfl⟩))⟩
    · exact ⟨p5, _, 2, V.int 7, rfl, rfl, SqL.of (k6 _ _ e5 m5), rfl, key _ (.inl (.inl ⟨_, rfl⟩))⟩
    · exact ⟨p5, _, 3, V.int (10 ^ 30), rfl, rfl, SqL.of (k6 _ _ e5 m5), rfl, key _ (.inl (.inl ⟨_, rfl⟩))⟩
    · exact ⟨p5, _, 4, V.bl true, rfl, rfl, SqL.of (k6 _ _ e5 m5), rfl, key _ (.inl (.inr (.inl ⟨_, rfl⟩)))⟩
    · exact ⟨p5, _, 5, V.non, rfl, rfl, SqL.of (k6 _ _ e5 m5), rfl, key _ (.inl (.inr (.inr (.inl rfl))))⟩
    · exact ⟨p5, _, 6, V.str "", rfl, rfl, SqL.of (k6 _ _ e5 m5), rfl, key _ (.inl (.inr (.inr (.inr (.inl rfl)))))⟩
    · exact ⟨p5, _, 7, V.str "clock", rfl, rfl, SqL.of (k6 _ _ e5 m5), rfl, key _ (.inl (.inr (.inr (.inr (.inr rfl)))))⟩
    · exact ⟨p5, _, 8, V.ref p1, rfl, rfl, SqL.of (k6 _ _ e5 m5), rfl, key _ (.inr ⟨p1, rfl, .inl (k6 _ _ e1 m1)⟩)⟩
    · exact ⟨p5, _, 9, V.ref p2, rfl, rfl, SqL.of (k6 _ _ e5 m5), rfl, key _ (.inr ⟨p2, rfl, .inr (.inr (.inl (k6 _ _ e2 m2)))⟩)⟩
    · exact ⟨p5, _, 10, V.ref p3, rfl, rfl, SqL.of (k6 _ _ e5 m5), rfl, key _ (.inr ⟨p3, rfl, .inr (.inr (.inr (k6 _ _ e3 m3)))⟩)⟩
    · exact ⟨p5, _, 11, V.ref p4, rfl, rfl, SqL.of (k6 _ _ e5 m5), rfl, key _ (.inr ⟨p4, rfl, .inr (.inl (k6 _ _ e4 m4))⟩)⟩
    · exact ⟨p5, _, 12, V.bl false, rfl, rfl, SqL.of (k6 _ _ e5 m5), rfl, key _ (.inl (.inr (.inl ⟨_, rfl⟩)))⟩
end
end Fp

set_option Elab.async false
set_option linter.all false
set_option maxRecDepth 100000
set_option maxHeartbeats 4000000
namespace Fp
open PySem PySem.Spec PyProof.Rows L2
theorem heS {H H' : Hp} {a C : Addr} {d : Option Addr} (h : HE H a C d) (k : Same H H') : HE H' a C d := ⟨k _ _ h.1, fun dd e => by
  obtain ⟨fs, z⟩ := h.2 dd e
  exact ⟨fs, k _ _ z⟩⟩
def kd (n m : Str) : Bool := decide (n = m) || decide (m = "BagError")
def kinds (n : Str) : List Bool := [kd n "BadBag", kd n "TooLong", kd n "BadText", kd n "NoName", kd n "UnlikeClocks", kd n "NoNumber", kd n "NoWord", kd n "NoBags", kd n "IsNothing", kd n "NoRow", kd n "NotLevel", kd n "NoPart", kd n "NoLot", kd n "NoOrder", kd n "NoWay", kd n "NoPlace", kd n "NoKnot", kd n "IsNumber", kd n "NoStock", kd n "NoAlphabet", kd n "NoLetters", kd n "NoClock", kd n "NoBag", kd n "Full", kd n "NothingDone", kd n "NoLine"]
section
variable {P : Program} {w : World} {K : PySem.W.Frag} {mg : Str → Option Value} {base : Heap}
def spKinds (K : PySem.W.Frag) : Sp := fun vs H Q _ => ∃ (a : Addr) (n : Str) (d : Option Addr), vs = [.ref a] ∧ n ∈ excs ∧ HE H a (He.ga K n) d ∧ ∀ (p : Addr) (H' : Hp), Same H H' → H p = none → H' p = some (.lst ((kinds n).map V.bl)) → Q (.ref p) H'
theorem sc_kinds : FnScope ["_law_e", "_law_found"] ["_law_e"] (defScope s__law_kinds) := ⟨rfl, rfl, rfl, by decide +kernel, rfl, by decide +kernel, by decide +kernel⟩
theorem back_none {H H' : Hp} {p : Addr} (k : Same H H') (h : H' p = none) : H p = none := by
  cases e : H p with
  | none => rfl
  | some o =>
    rw [k _ _ e] at h
    cases h
theorem ok_kinds (T : Top K mg) : Ok P w K mg base 1 "_law_kinds" ["_law_e"] (spKinds K) := by
  obtain ⟨fd, F⟩ := fn__law_kinds T
  refine ⟨⟨fd, ?_, F.bindsN fun _ _ _ _ _ _ us hl => match us, hl with | [_], _ => rfl⟩, g__law_kinds T, F.kp⟩
  refine F.ok sc_kinds (fun vs H Q E h => ?_) (fun cdv A outer s H vs Q E hr h => ?_)
  · obtain ⟨a, n, d, rfl, _⟩ := h
    rfl
  · obtain ⟨a, n, d, rfl, hn, he, q⟩ := h
    have nd := sc_kinds.nd
    have hs : sizeLine = 16777216 := sizeLine_eq
    have s0 := Same.refl H
    refine ⟨_, PSs.nox (pss_cons (ps_set (i := 1) nd rfl (Or.inl rfl) (pe_lst (pa_cons (pe_callB call_isV (by rfl) (f_isinstance T) (by decide +kernel) (pa_cons (pv 0) (pa_cons (pe_glob (v := .ref (He.ga K "BadBag")) (by rfl) (g_BadBag T) rfl) pa_nil))) (pa_cons (pe_callB call_isV (by rfl) (f_isinstance T) (by decide +kernel) (pa_cons (pv 0) (pa_cons (pe_glob (v := .ref (He.ga K "TooLong")) (by rfl) (g_TooLong T) rfl) pa_nil))) (pa_cons (pe_callB call_isV (by rfl) (f_isinstance T) (by decide +kernel) (pa_cons (pv 0) (pa_cons (pe_glob (v := .ref (He.ga K "BadText")) (by rfl) (g_BadText T) rfl) pa_nil))) (pa_cons (pe_callB call_isV (by rfl) (f_isinstance T) (by decide +kernel) (pa_cons (pv 0) (pa_cons (pe_glob (v := .ref (He.ga K "NoName")) (by rfl) (g_NoName T) rfl) pa_nil))) pa_nil))))))
      (pss_cons (ps_set (i := 1) nd rfl (Or.inl rfl) (pe_op op_cat (pv 1) (pe_lst (pa_cons (pe_callB call_isV (by rfl) (f_isinstance T) (by decide +kernel) (pa_cons (pv 0) (pa_cons (pe_glob (v := .ref (He.ga K "UnlikeClocks")) (by rfl) (g_UnlikeClocks T) rfl) pa_nil))) (pa_cons (pe_callB call_isV (by rfl) (f_isinstance T) (by decide +kernel) (pa_cons (pv 0) (pa_cons (pe_glob (v := .ref (He.ga K "NoNumber")) (by rfl) (g_NoNumber T) rfl) pa_nil))) (pa_cons (pe_callB call_isV (by rfl) (f_isinstance T) (by decide +kernel) (pa_cons (pv 0) (pa_cons (pe_glob (v := .ref (He.ga K "NoWord")) (by rfl) (g_NoWord T) rfl) pa_nil))) (pa_cons (pe_callB call_isV (by rfl) (f_isinstance T) (by decide +kernel) (pa_cons (pv 0) (pa_cons (pe_glob (v := .ref (He.ga K "NoBags")) (by rfl) (g_NoBags T) rfl) pa_nil))) pa_nil)))))))
      (pss_cons (ps_set (i := 1) nd rfl (Or.inl rfl) (pe_op op_cat (pv 1) (pe_lst (pa_cons (pe_callB call_isV (by rfl) (f_isinstance T) (by decide +kernel) (pa_cons (pv 0) (pa_cons (pe_glob (v := .ref (He.ga K "IsNothing")) (by rfl) (g_IsNothing T) rfl) pa_nil))) (pa_cons (pe_callB call_isV (by rfl) (f_isinstance T) (by decide +kernel) (pa_cons (pv 0) (pa_cons (pe_glob (v := .ref (He.ga K "NoRow")) (by rfl) (g_NoRow T) rfl) pa_nil))) (pa_cons (pe_callB call_isV (by rfl) (f_isinstance T) (by decide +kernel) (pa_cons (pv 0) (pa_cons (pe_glob (v := .ref (He.ga K "NotLevel")) (by rfl) (g_NotLevel T) rfl) pa_nil))) (pa_cons (pe_callB call_isV (by rfl) (f_isinstance T) (by decide +kernel) (pa_cons (pv 0) (pa_cons (pe_glob (v := .ref (He.ga K "NoPart")) (by rfl) (g_NoPart T) rfl) pa_nil))) pa_nil)))))))
      (pss_cons (ps_set (i := 1) nd rfl (Or.inl rfl) (pe_op op_cat (pv 1) (pe_lst (pa_cons (pe_callB call_isV (by rfl) (f_isinstance T) (by decide +kernel) (pa_cons (pv 0) (pa_cons (pe_glob (v := .ref (He.ga K "NoLot")) (by rfl) (g_NoLot T) rfl) pa_nil))) (pa_cons (pe_callB call_isV (by rfl) (f_isinstance T) (by decide +kernel) (pa_cons (pv 0) (pa_cons (pe_glob (v := .ref (He.ga K "NoOrder")) (by rfl) (g_NoOrder T) rfl) pa_nil))) (pa_cons (pe_callB call_isV (by rfl) (f_isinstance T) (by decide +kernel) (pa_cons (pv 0) (pa_cons (pe_glob (v := .ref (He.ga K "NoWay")) (by rfl) (g_NoWay T) rfl) pa_nil))) (pa_cons (pe_callB call_isV (by rfl) (f_isinstance T) (by decide +kernel) (pa_cons (pv 0) (pa_cons (pe_glob (v := .ref (He.ga K "NoPlace")) (by rfl) (g_NoPlace T) rfl) pa_nil))) pa_nil)))))))
      (pss_cons (ps_set (i := 1) nd rfl (Or.inl rfl) (pe_op op_cat (pv 1) (pe_lst (pa_cons (pe_callB call_isV (by rfl) (f_isinstance T) (by decide +kernel) (pa_cons (pv 0) (pa_cons (pe_glob (v := .ref (He.ga K "NoKnot")) (by rfl) (g_NoKnot T) rfl) pa_nil))) (pa_cons (pe_callB call_isV (by rfl) (f_isinstance T) (by decide +kernel) (pa_cons (pv 0) (pa_cons (pe_glob (v := .ref (He.ga K "IsNumber")) (by rfl) (g_IsNumber T) rfl) pa_nil))) (pa_cons (pe_callB call_isV (by rfl) (f_isinstance T) (by decide +kernel) (pa_cons (pv 0) (pa_cons (pe_glob (v := .ref (He.ga K "NoStock")) (by rfl) (g_NoStock T) rfl) pa_nil))) (pa_cons (pe_callB call_isV (by rfl) (f_isinstance T) (by decide +kernel) (pa_cons (pv 0) (pa_cons (pe_glob (v := .ref (He.ga K "NoAlphabet")) (by rfl) (g_NoAlphabet T) rfl) pa_nil))) pa_nil)))))))
      (pss_cons (ps_set (i := 1) nd rfl (Or.inl rfl) (pe_op op_cat (pv 1) (pe_lst (pa_cons (pe_callB call_isV (by rfl) (f_isinstance T) (by decide +kernel) (pa_cons (pv 0) (pa_cons (pe_glob (v := .ref (He.ga K "NoLetters")) (by rfl) (g_NoLetters T) rfl) pa_nil))) (pa_cons (pe_callB call_isV (by rfl) (f_isinstance T) (by decide +kernel) (pa_cons (pv 0) (pa_cons (pe_glob (v := .ref (He.ga K "NoClock")) (by rfl) (g_NoClock T) rfl) pa_nil))) (pa_cons (pe_callB call_isV (by rfl) (f_isinstance T) (by decide +kernel) (pa_cons (pv 0) (pa_cons (pe_glob (v := .ref (He.ga K "NoBag")) (by rfl) (g_NoBag T) rfl) pa_nil))) (pa_cons (pe_callB call_isV (by rfl) (f_isinstance T) (by decide +kernel) (pa_cons (pv 0) (pa_cons (pe_glob (v := .ref (He.ga K "Full")) (by rfl) (g_Full T) rfl) pa_nil))) pa_nil)))))))
      (pss_cons (ps_set (i := 1) nd rfl (Or.inl rfl) (pe_op op_cat (pv 1) (pe_lst (pa_cons (pe_callB call_isV (by rfl) (f_isinstance T) (by decide +kernel) (pa_cons (pv 0) (pa_cons (pe_glob (v := .ref (He.ga K "NothingDone")) (by rfl) (g_NothingDone T) rfl) pa_nil))) (pa_cons (pe_callB call_isV (by rfl) (f_isinstance T) (by decide +kernel) (pa_cons (pv 0) (pa_cons (pe_glob (v := .ref (He.ga K "NoLine")) (by rfl) (g_NoLine T) rfl) pa_nil))) pa_nil)))))
      (pss_one (ps_ret (pv 1)))))))))), ?_⟩
    refine ⟨_, rfl, a, He.ga K n, d, _, .ref (He.ga K "BadBag"), kd n "BadBag", rfl, he, x_cls T hn, fun _ z => z, x_kit T hn (m := "BadBag") (by decide +kernel), ?_⟩
    refine ⟨_, rfl, a, He.ga K n, d, _, .ref (He.ga K "TooLong"), kd n "TooLong", rfl, he, x_cls T hn, fun _ z => z, x_kit T hn (m := "TooLong") (by decide +kernel), ?_⟩
    refine ⟨_, rfl, a, He.ga K n, d, _, .ref (He.ga K "BadText"), kd n "BadText", rfl, he, x_cls T hn, fun _ z => z, x_kit T hn (m := "BadText") (by decide +kernel), ?_⟩
    refine ⟨_, rfl, a, He.ga K n, d, _, .ref (He.ga K "NoName"), kd n "NoName", rfl, he, x_cls T hn, fun _ z => z, x_kit T hn (m := "NoName") (by decide +kernel), ?_⟩
    refine ⟨by show 4 ≤ sizeLine; omega, fun p0 n0 => ?_⟩
    have s1 := s0.trans (same_upd (o := (.lst [V.bl (kd n "BadBag"), V.bl (kd n "TooLong"), V.bl (kd n "BadText"), V.bl (kd n "NoName")])) n0)
    have f0 : H p0 = none := back_none s0 n0
    replace he := heS he (same_upd (o := (.lst [V.bl (kd n "BadBag"), V.bl (kd n "TooLong"), V.bl (kd n "BadText"), V.bl (kd n "NoName")])) n0)
    have e0 : (upd H p0 (.lst [V.bl (kd n "BadBag"), V.bl (kd n "TooLong"), V.bl (kd n "BadText"), V.bl (kd n "NoName")])) p0 = some (.lst [V.bl (kd n "BadBag"), V.bl (kd n "TooLong"), V.bl (kd n "BadText"), V.bl (kd n "NoName")]) := upd_same
    generalize upd H p0 (.lst [V.bl (kd n "BadBag"), V.bl (kd n "TooLong"), V.bl (kd n "BadText"), V.bl (kd n "NoName")]) = A0 at s1 he e0 ⊢
    have g0 := e0
    refine ⟨_, rfl, ?_⟩
    refine ⟨_, rfl, a, He.ga K n, d, _, .ref (He.ga K "UnlikeClocks"), kd n "UnlikeClocks", rfl, he, x_cls T hn, fun _ z => z, x_kit T hn (m := "UnlikeClocks") (by decide +kernel), ?_⟩
    refine ⟨_, rfl, a, He.ga K n, d, _, .ref (He.ga K "NoNumber"), kd n "NoNumber", rfl, he, x_cls T hn, fun _ z => z, x_kit T hn (m := "NoNumber") (by decide +kernel), ?_⟩
    refine ⟨_, rfl, a, He.ga K n, d, _, .ref (He.ga K "NoWord"), kd n "NoWord", rfl, he, x_cls T hn, fun _ z => z, x_kit T hn (m := "NoWord") (by decide +kernel), ?_⟩
    refine ⟨_, rfl, a, He.ga K n, d, _, .ref (He.ga K "NoBags"), kd n "NoBags", rfl, he, x_cls T hn, fun _ z => z, x_kit T hn (m := "NoBags") (by decide +kernel), ?_⟩
    refine ⟨by show 4 ≤ sizeLine; omega, fun p1 n1 => ?_⟩
    have s2 := s1.trans (same_upd (o := (.lst [V.bl (kd n "UnlikeClocks"), V.bl (kd n "NoNumber"), V.bl (kd n "NoWord"), V.bl (kd n "NoBags")])) n1)
    have f1 : H p1 = none := back_none s1 n1
    replace he := heS he (same_upd (o := (.lst [V.bl (kd n "UnlikeClocks"), V.bl (kd n "NoNumber"), V.bl (kd n "NoWord"), V.bl (kd n "NoBags")])) n1)
    have e1 : (upd A0 p1 (.lst [V.bl (kd n "UnlikeClocks"), V.bl (kd n "NoNumber"), V.bl (kd n "NoWord"), V.bl (kd n "NoBags")])) p1 = some (.lst [V.bl (kd n "UnlikeClocks"), V.bl (kd n "NoNumber"), V.bl (kd n "NoWord"), V.bl (kd n "NoBags")]) := upd_same
    replace g0 := same_upd (o := (.lst [V.bl (kd n "UnlikeClocks"), V.bl (kd n "NoNumber"), V.bl (kd n "NoWord"), V.bl (kd n "NoBags")])) n1 _ _ g0
    generalize upd A0 p1 (.lst [V.bl (kd n "UnlikeClocks"), V.bl (kd n "NoNumber"), V.bl (kd n "NoWord"), V.bl (kd n "NoBags")]) = A1 at s2 he e1 g0 ⊢
    refine ⟨p0, p1, _, _, rfl, rfl, g0, e1, by show 4 + 4 ≤ sizeLine; omega, fun q1 m1 => ?_⟩
    have t1 := s2.trans (same_upd (o := (.lst (([V.bl (kd n "BadBag"), V.bl (kd n "TooLong"), V.bl (kd n "BadText"), V.bl (kd n "NoName")] ++ [V.bl (kd n "UnlikeClocks"), V.bl (kd n "NoNumber"), V.bl (kd n "NoWord"), V.bl (kd n "NoBags")])))) m1)
    have h1 : H q1 = none := back_none s2 m1
    replace he := heS he (same_upd (o := (.lst (([V.bl (kd n "BadBag"), V.bl (kd n "TooLong"), V.bl (kd n "BadText"), V.bl (kd n "NoName")] ++ [V.bl (kd n "UnlikeClocks"), V.bl (kd n "NoNumber"), V.bl (kd n "NoWord"), V.bl (kd n "NoBags")])))) m1)
    have g1 : (upd A1 q1 (.lst (([V.bl (kd n "BadBag"), V.bl (kd n "TooLong"), V.bl (kd n "BadText"), V.bl (kd n "NoName")] ++ [V.bl (kd n "UnlikeClocks"), V.bl (kd n "NoNumber"), V.bl (kd n "NoWord"), V.bl (kd n "NoBags")])))) q1 = some (.lst (([V.bl (kd n "BadBag"), V.bl (kd n "TooLong"), V.bl (kd n "BadText"), V.bl (kd n "NoName")] ++ [V.bl (kd n "UnlikeClocks"), V.bl (kd n "NoNumber"), V.bl (kd n "NoWord"), V.bl (kd n "NoBags")]))) := upd_same

    generalize upd A1 q1 (.lst (([V.bl (kd n "BadBag"), V.bl (kd n "TooLong"), V.bl (kd n "BadText"), V.bl (kd n "NoName")] ++ [V.bl (kd n "UnlikeClocks"), V.bl (kd n "NoNumber"), V.bl (kd n "NoWord"), V.bl (kd n "NoBags")]))) = B1 at t1 he g1 ⊢
    clear s2
    have s2 := t1
    refine ⟨_, rfl, ?_⟩
    refine ⟨_, rfl, a, He.ga K n, d, _, .ref (He.ga K "IsNothing"), kd n "IsNothing", rfl, he, x_cls T hn, fun _ z => z, x_kit T hn (m := "IsNothing") (by decide +kernel), ?_⟩
    refine ⟨_, rfl, a, He.ga K n, d, _, .ref (He.ga K "NoRow"), kd n "NoRow", rfl, he, x_cls T hn, fun _ z => z, x_kit T hn (m := "NoRow") (by decide +kernel), ?_⟩
    refine ⟨_, rfl, a, He.ga K n, d, _, .ref (He.ga K "NotLevel"), kd n "NotLevel", rfl, he, x_cls T hn, fun _ z => z, x_kit T hn (m := "NotLevel") (by decide +kernel), ?_⟩
    refine ⟨_, rfl, a, He.ga K n, d, _, .ref (He.ga K "NoPart"), kd n "NoPart", rfl, he, x_cls T hn, fun _ z => z, x_kit T hn (m := "NoPart") (by decide +kernel), ?_⟩
    refine ⟨by show 4 ≤ sizeLine; omega, fun p2 n2 => ?_⟩
    have s3 := s2.trans (same_upd (o := (.lst [V.bl (kd n "IsNothing"), V.bl (kd n "NoRow"), V.bl (kd n "NotLevel"), V.bl (kd n "NoPart")])) n2)
    have f2 : H p2 = none := back_none s2 n2
    replace he := heS he (same_upd (o := (.lst [V.bl (kd n "IsNothing"), V.bl (kd n "NoRow"), V.bl (kd n "NotLevel"), V.bl (kd n "NoPart")])) n2)
    have e2 : (upd B1 p2 (.lst [V.bl (kd n "IsNothing"), V.bl (kd n "NoRow"), V.bl (kd n "NotLevel"), V.bl (kd n "NoPart")])) p2 = some (.lst [V.bl (kd n "IsNothing"), V.bl (kd n "NoRow"), V.bl (kd n "NotLevel"), V.bl (kd n "NoPart")]) := upd_same
    replace g1 := same_upd (o := (.lst [V.bl (kd n "IsNothing"), V.bl (kd n "NoRow"), V.bl (kd n "NotLevel"), V.bl (kd n "NoPart")])) n2 _ _ g1
    generalize upd B1 p2 (.lst [V.bl (kd n "IsNothing"), V.bl (kd n "NoRow"), V.bl (kd n "NotLevel"), V.bl (kd n "NoPart")]) = A2 at s3 he e2 g1 ⊢
    refine ⟨q1, p2, _, _, rfl, rfl, g1, e2, by show 8 + 4 ≤ sizeLine; omega, fun q2 m2 => ?_⟩
    have t2 := s3.trans (same_upd (o := (.lst ((([V.bl (kd n "BadBag"), V.bl (kd n "TooLong"), V.bl (kd n "BadText"), V.bl (kd n "NoName")] ++ [V.bl (kd n "UnlikeClocks"), V.bl (kd n "NoNumber"), V.bl (kd n "NoWord"), V.bl (kd n "NoBags")]) ++ [V.bl (kd n "IsNothing"), V.bl (kd n "NoRow"), V.bl (kd n "NotLevel"), V.bl (kd n "NoPart")])))) m2)
    have h2 : H q2 = none := back_none s3 m2
    replace he := heS he (same_upd (o := (.lst ((([V.bl (kd n "BadBag"), V.bl (kd n "TooLong"), V.bl (kd n "BadText"), V.bl (kd n "NoName")] ++ [V.bl (kd n "UnlikeClocks"), V.bl (kd n "NoNumber"), V.bl (kd n "NoWord"), V.bl (kd n "NoBags")]) ++ [V.bl (kd n "IsNothing"), V.bl (kd n "NoRow"), V.bl (kd n "NotLevel"), V.bl (kd n "NoPart")])))) m2)
    have g2 : (upd A2 q2 (.lst ((([V.bl (kd n "BadBag"), V.bl (kd n "TooLong"), V.bl (kd n "BadText"), V.bl (kd n "NoName")] ++ [V.bl (kd n "UnlikeClocks"), V.bl (kd n "NoNumber"), V.bl (kd n "NoWord"), V.bl (kd n "NoBags")]) ++ [V.bl (kd n "IsNothing"), V.bl (kd n "NoRow"), V.bl (kd n "NotLevel"), V.bl (kd n "NoPart")])))) q2 = some (.lst ((([V.bl (kd n "BadBag"), V.bl (kd n "TooLong"), V.bl (kd n "BadText"), V.bl (kd n "NoName")] ++ [V.bl (kd n "UnlikeClocks"), V.bl (kd n "NoNumber"), V.bl (kd n "NoWord"), V.bl (kd n "NoBags")]) ++ [V.bl (kd n "IsNothing"), V.bl (kd n "NoRow"), V.bl (kd n "NotLevel"), V.bl (kd n "NoPart")]))) := upd_same

    generalize upd A2 q2 (.lst ((([V.bl (kd n "BadBag"), V.bl (kd n "TooLong"), V.bl (kd n "BadText"), V.bl (kd n "NoName")] ++ [V.bl (kd n "UnlikeClocks"), V.bl (kd n "NoNumber"), V.bl (kd n "NoWord"), V.bl (kd n "NoBags")]) ++ [V.bl (kd n "IsNothing"), V.bl (kd n "NoRow"), V.bl (kd n "NotLevel"), V.bl (kd n "NoPart")]))) = B2 at t2 he g2 ⊢
    clear s3
    have s3 := t2
    refine ⟨_, rfl, ?_⟩
    refine ⟨_, rfl, a, He.ga K n, d, _, .ref (He.ga K "NoLot"), kd n "NoLot", rfl, he, x_cls T hn, fun _ z => z, x_kit T hn (m := "NoLot") (by decide +kernel), ?_⟩
    refine ⟨_, rfl, a, He.ga K n, d, _, .ref (He.ga K "NoOrder"), kd n "NoOrder", rfl, he, x_cls T hn, fun _ z => z, x_kit T hn (m := "NoOrder") (by decide +kernel), ?_⟩
    refine ⟨_, rfl, a, He.ga K n, d, _, .ref (He.ga K "NoWay"), kd n "NoWay", rfl, he, x_cls T hn, fun _ z => z, x_kit T hn (m := "NoWay") (by decide +kernel), ?_⟩
    refine ⟨_, rfl, a, He.ga K n, d, _, .ref (He.ga K "NoPlace"), kd n "NoPlace", rfl, he, x_cls T hn, fun _ z => z, x_kit T hn (m := "NoPlace") (by decide +kernel), ?_⟩
    refine ⟨by show 4 ≤ sizeLine; omega, fun p3 n3 => ?_⟩
    have s4 := s3.trans (same_upd (o := (.lst [V.bl (kd n "NoLot"), V.bl (kd n "NoOrder"), V.bl (kd n "NoWay"), V.bl (kd n "NoPlace")])) n3)
    have f3 : H p3 = none := back_none s3 n3
    replace he := heS he (same_upd (o := (.lst [V.bl (kd n "NoLot"), V.bl (kd n "NoOrder"), V.bl (kd n "NoWay"), V.bl (kd n "NoPlace")])) n3)
    have e3 : (upd B2 p3 (.lst [V.bl (kd n "NoLot"), V.bl (kd n "NoOrder"), V.bl (kd n "NoWay"), V.bl (kd n "NoPlace")])) p3 = some (.lst [V.bl (kd n "NoLot"), V.bl (kd n "NoOrder"), V.bl (kd n "NoWay"), V.bl (kd n "NoPlace")]) := upd_same
    replace g2 := same_upd (o := (.lst [V.bl (kd n "NoLot"), V.bl (kd n "NoOrder"), V.bl (kd n "NoWay"), V.bl (kd n "NoPlace")])) n3 _ _ g2
    generalize upd B2 p3 (.lst [V.bl (kd n "NoLot"), V.bl (kd n "NoOrder"), V.bl (kd n "NoWay"), V.bl (kd n "NoPlace")]) = A3 at s4 he e3 g2 ⊢
    refine ⟨q2, p3, _, _, rfl, rfl, g2, e3, by show 12 + 4 ≤ sizeLine; omega, fun q3 m3 => ?_⟩
    have t3 := s4.trans (same_upd (o := (.lst (((([V.bl (kd n "BadBag"), V.bl (kd n "TooLong"), V.bl (kd n "BadText"), V.bl (kd n "NoName")] ++ [V.bl (kd n "UnlikeClocks"), V.bl (kd n "NoNumber"), V.bl (kd n "NoWord"), V.bl (kd n "NoBags")]) ++ [V.bl (kd n "IsNothing"), V.bl (kd n "NoRow"), V.bl (kd n "NotLevel"), V.bl (kd n "NoPart")]) ++ [V.bl (kd n "NoLot"), V.bl (kd n "NoOrder"), V.bl (kd n "NoWay"), V.bl (kd n "NoPlace")])))) m3)
    have h3 : H q3 = none := back_none s4 m3
    replace he := heS he (same_upd (o := (.lst (((([V.bl (kd n "BadBag"), V.bl (kd n "TooLong"), V.bl (kd n "BadText"), V.bl (kd n "NoName")] ++ [V.bl (kd n "UnlikeClocks"), V.bl (kd n "NoNumber"), V.bl (kd n "NoWord"), V.bl (kd n "NoBags")]) ++ [V.bl (kd n "IsNothing"), V.bl (kd n "NoRow"), V.bl (kd n "NotLevel"), V.bl (kd n "NoPart")]) ++ [V.bl (kd n "NoLot"), V.bl (kd n "NoOrder"), V.bl (kd n "NoWay"), V.bl (kd n "NoPlace")])))) m3)
    have g3 : (upd A3 q3 (.lst (((([V.bl (kd n "BadBag"), V.bl (kd n "TooLong"), V.bl (kd n "BadText"), V.bl (kd n "NoName")] ++ [V.bl (kd n "UnlikeClocks"), V.bl (kd n "NoNumber"), V.bl (kd n "NoWord"), V.bl (kd n "NoBags")]) ++ [V.bl (kd n "IsNothing"), V.bl (kd n "NoRow"), V.bl (kd n "NotLevel"), V.bl (kd n "NoPart")]) ++ [V.bl (kd n "NoLot"), V.bl (kd n "NoOrder"), V.bl (kd n "NoWay"), V.bl (kd n "NoPlace")])))) q3 = some (.lst (((([V.bl (kd n "BadBag"), V.bl (kd n "TooLong"), V.bl (kd n "BadText"), V.bl (kd n "NoName")] ++ [V.bl (kd n "UnlikeClocks"), V.bl (kd n "NoNumber"), V.bl (kd n "NoWord"), V.bl (kd n "NoBags")]) ++ [V.bl (kd n "IsNothing"), V.bl (kd n "NoRow"), V.bl (kd n "NotLevel"), V.bl (kd n "NoPart")]) ++ [V.bl (kd n "NoLot"), V.bl (kd n "NoOrder"), V.bl (kd n "NoWay"), V.bl (kd n "NoPlace")]))) := upd_same

    generalize upd A3 q3 (.lst (((([V.bl (kd n "BadBag"), V.bl (kd n "TooLong"), V.bl (kd n "BadText"), V.bl (kd n "NoName")] ++ [V.bl (kd n "UnlikeClocks"), V.bl (kd n "NoNumber"), V.bl (kd n "NoWord"), V.bl (kd n "NoBags")]) ++ [V.bl (kd n "IsNothing"), V.bl (kd n "NoRow"), V.bl (kd n "NotLevel"), V.bl (kd n "NoPart")]) ++ [V.bl (kd n "NoLot"), V.bl (kd n "NoOrder"), V.bl (kd n "NoWay"), V.bl (kd n "NoPlace")]))) = B3 at t3 he g3 ⊢
    clear s4
    have s4 := t3
    refine ⟨_, rfl, ?_⟩
    refine ⟨_, rfl, a, He.ga K n, d, _, .ref (He.ga K "NoKnot"), kd n "NoKnot", rfl, he, x_cls T hn, fun _ z => z, x_kit T hn (m := "NoKnot") (by decide +kernel), ?_⟩
    refine ⟨_, rfl, a, He.ga K n, d, _, .ref (He.ga K "IsNumber"), kd n "IsNumber", rfl, he, x_cls T hn, fun _ z => z, x_kit T hn (m := "IsNumber") (by decide +kernel), ?_⟩
    refine ⟨_, rfl, a, He.ga K n, d, _, .ref (He.ga K "NoStock"), kd n "NoStock", rfl, he, x_cls T hn, fun _ z => z, x_kit T hn (m := "NoStock") (by decide +kernel), ?_⟩
    refine ⟨_, rfl, a, He.ga K n, d, _, .ref (He.ga K "NoAlphabet"), kd n "NoAlphabet", rfl, he, x_cls T hn, fun _ z => z, x_kit T hn (m := "NoAlphabet") (by decide +kernel), ?_⟩
    refine ⟨by show 4 ≤ sizeLine; omega, fun p4 n4 => ?_⟩
    have s5 := s4.trans (same_upd (o := (.lst [V.bl (kd n "NoKnot"), V.bl (kd n "IsNumber"), V.bl (kd n "NoStock"), V.bl (kd n "NoAlphabet")])) n4)
    have f4 : H p4 = none := back_none s4 n4
    replace he := heS he (same_upd (o := (.lst [V.bl (kd n "NoKnot"), V.bl (kd n "IsNumber"), V.bl (kd n "NoStock"), V.bl (kd n "NoAlphabet")])) n4)
    have e4 : (upd B3 p4 (.lst [V.bl (kd n "NoKnot"), V.bl (kd n "IsNumber"), V.bl (kd n "NoStock"), V.bl (kd n "NoAlphabet")])) p4 = some (.lst [V.bl (kd n "NoKnot"), V.bl (kd n "IsNumber"), V.bl (kd n "NoStock"), V.bl (kd n "NoAlphabet")]) := upd_same
    replace g3 := same_upd (o := (.lst [V.bl (kd n "NoKnot"), V.bl (kd n "IsNumber"), V.bl (kd n "NoStock"), V.bl (kd n "NoAlphabet")])) n4 _ _ g3
    generalize upd B3 p4 (.lst [V.bl (kd n "NoKnot"), V.bl (kd n "IsNumber"), V.bl (kd n "NoStock"), V.bl (kd n "NoAlphabet")]) = A4 at s5 he e4 g3 ⊢
    refine ⟨q3, p4, _, _, rfl, rfl, g3, e4, by show 16 + 4 ≤ sizeLine; omega, fun q4 m4 => ?_⟩
    have t4 := s5.trans (same_upd (o := (.lst ((((([V.bl (kd n "BadBag"), V.bl (kd n "TooLong"), V.bl (kd n "BadText"), V.bl (kd n "NoName")] ++ [V.bl (kd n "UnlikeClocks"), V.bl (kd n "NoNumber"), V.bl (kd n "NoWord"), V.bl (kd n "NoBags")]) ++ [V.bl (kd n "IsNothing"), V.bl (kd n "NoRow"), V.bl (kd n "NotLevel"), V.bl (kd n "NoPart")]) ++ [V.bl (kd n "NoLot"), V.bl (kd n "NoOrder"), V.bl (kd n "NoWay"), V.bl (kd n "NoPlace")]) ++ [V.bl (kd n "NoKnot"), V.bl (kd n "IsNumber"), V.bl (kd n "NoStock"), V.bl (kd n "NoAlphabet")])))) m4)
    have h4 : H q4 = none := back_none s5 m4
    replace he := heS he (same_upd (o := (.lst ((((([V.bl (kd n "BadBag"), V.bl (kd n "TooLong"), V.bl (kd n "BadText"), V.bl (kd n "NoName")] ++ [V.bl (kd n "UnlikeClocks"), V.bl (kd n "NoNumber"), V.bl (kd n "NoWord"), V.bl (kd n "NoBags")]) ++ [V.bl (kd n "IsNothing"), V.bl (kd n "NoRow"), V.bl (kd n "NotLevel"), V.bl (kd n "NoPart")]) ++ [V.bl (kd n "NoLot"), V.bl (kd n "NoOrder"), V.bl (kd n "NoWay"), V.bl (kd n "NoPlace")]) ++ [V.bl (kd n "NoKnot"), V.bl (kd n "IsNumber"), V.bl (kd n "NoStock"), V.bl (kd n "NoAlphabet")])))) m4)
    have g4 : (upd A4 q4 (.lst ((((([V.bl (kd n "BadBag"), V.bl (kd n "TooLong"), V.bl (kd n "BadText"), V.bl (kd n "NoName")] ++ [V.bl (kd n "UnlikeClocks"), V.bl (kd n "NoNumber"), V.bl (kd n "NoWord"), V.bl (kd n "NoBags")]) ++ [V.bl (kd n "IsNothing"), V.bl (kd n "NoRow"), V.bl (kd n "NotLevel"), V.bl (kd n "NoPart")]) ++ [V.bl (kd n "NoLot"), V.bl (kd n "NoOrder"), V.bl (kd n "NoWay"), V.bl (kd n "NoPlace")]) ++ [V.bl (kd n "NoKnot"), V.bl (kd n "IsNumber"), V.bl (kd n "NoStock"), V.bl (kd n "NoAlphabet")])))) q4 = some (.lst ((((([V.bl (kd n "BadBag"), V.bl (kd n "TooLong"), V.bl (kd n "BadText"), V.bl (kd n "NoName")] ++ [V.bl (kd n "UnlikeClocks"), V.bl (kd n "NoNumber"), V.bl (kd n "NoWord"), V.bl (kd n "NoBags")]) ++ [V.bl (kd n "IsNothing"), V.bl (kd n "NoRow"), V.bl (kd n "NotLevel"), V.bl (kd n "NoPart")]) ++ [V.bl (kd n "NoLot"), V.bl (kd n "NoOrder"), V.bl (kd n "NoWay"), V.bl (kd n "NoPlace")]) ++ [V.bl (kd n "NoKnot"), V.bl (kd n "IsNumber"), V.bl (kd n "NoStock"), V.bl (kd n "NoAlphabet")]))) := upd_same

    generalize upd A4 q4 (.lst ((((([V.bl (kd n "BadBag"), V.bl (kd n "TooLong"), V.bl (kd n "BadText"), V.bl (kd n "NoName")] ++ [V.bl (kd n "UnlikeClocks"), V.bl (kd n "NoNumber"), V.bl (kd n "NoWord"), V.bl (kd n "NoBags")]) ++ [V.bl (kd n "IsNothing"), V.bl (kd n "NoRow"), V.bl (kd n "NotLevel"), V.bl (kd n "NoPart")]) ++ [V.bl (kd n "NoLot"), V.bl (kd n "NoOrder"), V.bl (kd n "NoWay"), V.bl (kd n "NoPlace")]) ++ [V.bl (kd n "NoKnot"), V.bl (kd n "IsNumber"), V.bl (kd n "NoStock"), V.bl (kd n "NoAlphabet")]))) = B4 at t4 he g4 ⊢
    clear s5
    have s5 := t4
    refine ⟨_, rfl, ?_⟩
    refine ⟨_, rfl, a, He.ga K n, d, _, .ref (He.ga K "NoLetters"), kd n "NoLetters", rfl, he, x_cls T hn, fun _ z => z, x_kit T hn (m := "NoLetters") (by decide +kernel), ?_⟩
    refine ⟨_, rfl, a, He.ga K n, d, _, .ref (He.ga K "NoClock"), kd n "NoClock", rfl, he, x_cls T hn, fun _ z => z, x_kit T hn (m := "NoClock") (by decide +kernel), ?_⟩
    refine ⟨_, rfl, a, He.ga K n, d, _, .ref (He.ga K "NoBag"), kd n "NoBag", rfl, he, x_cls T hn, fun _ z => z, x_kit T hn (m := "NoBag") (by decide +kernel), ?_⟩
    refine ⟨_, rfl, a, He.ga K n, d, _, .ref (He.ga K "Full"), kd n "Full", rfl, he, x_cls T hn, fun _ z => z, x_kit T hn (m := "Full") (by decide +kernel), ?_⟩
    refine ⟨by show 4 ≤ sizeLine; omega, fun p5 n5 => ?_⟩
    have s6 := s5.trans (same_upd (o := (.lst [V.bl (kd n "NoLetters"), V.bl (kd n "NoClock"), V.bl (kd n "NoBag"), V.bl (kd n "Full")])) n5)
    have f5 : H p5 = none := back_none s5 n5
    replace he := heS he (same_upd (o := (.lst [V.bl (kd n "NoLetters"), V.bl (kd n "NoClock"), V.bl (kd n "NoBag"), V.bl (kd n "Full")])) n5)
    have e5 : (upd B4 p5 (.lst [V.bl (kd n "NoLetters"), V.bl (kd n "NoClock"), V.bl (kd n "NoBag"), V.bl (kd n "Full")])) p5 = some (.lst [V.bl (kd n "NoLetters"), V.bl (kd n "NoClock"), V.bl (kd n "NoBag"), V.bl (kd n "Full")]) := upd_same
    replace g4 := same_upd (o := (.lst [V.bl (kd n "NoLetters"), V.bl (kd n "NoClock"), V.bl (kd n "NoBag"), V.bl (kd n "Full")])) n5 _ _ g4
    generalize upd B4 p5 (.lst [V.bl (kd n "NoLetters"), V.bl (kd n "NoClock"), V.bl (kd n "NoBag"), V.bl (kd n "Full")]) = A5 at s6 he e5 g4 ⊢
    refine ⟨q4, p5, _, _, rfl, rfl, g4, e5, by show 20 + 4 ≤ sizeLine; omega, fun q5 m5 => ?_⟩
    have t5 := s6.trans (same_upd (o := (.lst (((((([V.bl (kd n "BadBag"), V.bl (kd n "TooLong"), V.bl (kd n "BadText"), V.bl (kd n "NoName")] ++ [V.bl (kd n "UnlikeClocks"), V.bl (kd n "NoNumber"), V.bl (kd n "NoWord"), V.bl (kd n "NoBags")]) ++ [V.bl (kd n "IsNothing"), V.bl (kd n "NoRow"), V.bl (kd n "NotLevel"), V.bl (kd n "NoPart")]) ++ [V.bl (kd n "NoLot"), V.bl (kd n "NoOrder"), V.bl (kd n "NoWay"), V.bl (kd n "NoPlace")]) ++ [V.bl (kd n "NoKnot"), V.bl (kd n "IsNumber"), V.bl (kd n "NoStock"), V.bl (kd n "NoAlphabet")]) ++ [V.bl (kd n "NoLetters"), V.bl (kd n "NoClock"), V.bl (kd n "NoBag"), V.bl (kd n "Full")])))) m5)
    have h5 : H q5 = none := back_none s6 m5
    replace he := heS he (same_upd (o := (.lst (((((([V.bl (kd n "BadBag"), V.bl (kd n "TooLong"), V.bl (kd n "BadText"), V.bl (kd n "NoName")] ++ [V.bl (kd n "UnlikeClocks"), V.bl (kd n "NoNumber"), V.bl (kd n "NoWord"), V.bl (kd n "NoBags")]) ++ [V.bl (kd n "IsNothing"), V.bl (kd n "NoRow"), V.bl (kd n "NotLevel"), V.bl (kd n "NoPart")]) ++ [V.bl (kd n "NoLot"), V.bl (kd n "NoOrder"), V.bl (kd n "NoWay"), V.bl (kd n "NoPlace")]) ++ [V.bl (kd n "NoKnot"), V.bl (kd n "IsNumber"), V.bl (kd n "NoStock"), V.bl (kd n "NoAlphabet")]) ++ [V.bl (kd n "NoLetters"), V.bl (kd n "NoClock"), V.bl (kd n "NoBag"), V.bl (kd n "Full")])))) m5)
    have g5 : (upd A5 q5 (.lst (((((([V.bl (kd n "BadBag"), V.bl (kd n "TooLong"), V.bl (kd n "BadText"), V.bl (kd n "NoName")] ++ [V.bl (kd n "UnlikeClocks"), V.bl (kd n "NoNumber"), V.bl (kd n "NoWord"), V.bl (kd n "NoBags")]) ++ [V.bl (kd n "IsNothing"), V.bl (kd n "NoRow"), V.bl (kd n "NotLevel"), V.bl (kd n "NoPart")]) ++ [V.bl (kd n "NoLot"), V.bl (kd n "NoOrder"), V.bl (kd n "NoWay"), V.bl (kd n "NoPlace")]) ++ [V.bl (kd n "NoKnot"), V.bl (kd n "IsNumber"), V.bl (kd n "NoStock"), V.bl (kd n "NoAlphabet")]) ++ [V.bl (kd n "NoLetters"), V.bl (kd n "NoClock"), V.bl (kd n "NoBag"), V.bl (kd n "Full")])))) q5 = some (.lst (((((([V.bl (kd n "BadBag"), V.bl (kd n "TooLong"), V.bl (kd n "BadText"), V.bl (kd n "NoName")] ++ [V.bl (kd n "UnlikeClocks"), V.bl (kd n "NoNumber"), V.bl (kd n "NoWord"), V.bl (kd n "NoBags")]) ++ [V.bl (kd n "IsNothing"), V.bl (kd n "NoRow"), V.bl (kd n "NotLevel"), V.bl (kd n "NoPart")]) ++ [V.bl (kd n "NoLot"), V.bl (kd n "NoOrder"), V.bl (kd n "NoWay"), V.bl (kd n "NoPlace")]) ++ [V.bl (kd n "NoKnot"), V.bl (kd n "IsNumber"), V.bl (kd n "NoStock"), V.bl (kd n "NoAlphabet")]) ++ [V.bl (kd n "NoLetters"), V.bl (kd n "NoClock"), V.bl (kd n "NoBag"), V.bl (kd n "Full")]))) := upd_same

    generalize upd A5 q5 (.lst (((((([V.bl (kd n "BadBag"), V.bl (kd n "TooLong"), V.bl (kd n "BadText"), V.bl (kd n "NoName")] ++ [V.bl (kd n "UnlikeClocks"), V.bl (kd n "NoNumber"), V.bl (kd n "NoWord"), V.bl (kd n "NoBags")]) ++ [V.bl (kd n "IsNothing"), V.bl (kd n "NoRow"), V.bl (kd n "NotLevel"), V.bl (kd n "NoPart")]) ++ [V.bl (kd n "NoLot"), V.bl (kd n "NoOrder"), V.bl (kd n "NoWay"), V.bl (kd n "NoPlace")]) ++ [V.bl (kd n "NoKnot"), V.bl (kd n "IsNumber"), V.bl (kd n "NoStock"), V.bl (kd n "NoAlphabet")]) ++ [V.bl (kd n "NoLetters"), V.bl (kd n "NoClock"), V.bl (kd n "NoBag"), V.bl (kd n "Full")]))) = B5 at t5 he g5 ⊢
    clear s6
    have s6 := t5
    refine ⟨_, rfl, ?_⟩
    refine ⟨_, rfl, a, He.ga K n, d, _, .ref (He.ga K "NothingDone"), kd n "NothingDone", rfl, he, x_cls T hn, fun _ z => z, x_kit T hn (m := "NothingDone") (by decide +kernel), ?_⟩
    refine ⟨_, rfl, a, He.ga K n, d, _, .ref (He.ga K "NoLine"), kd n "NoLine", rfl, he, x_cls T hn, fun _ z => z, x_kit T hn (m := "NoLine") (by decide +kernel), ?_⟩
    refine ⟨by show 2 ≤ sizeLine; omega, fun p6 n6 => ?_⟩
    have s7 := s6.trans (same_upd (o := (.lst [V.bl (kd n "NothingDone"), V.bl (kd n "NoLine")])) n6)
    have f6 : H p6 = none := back_none s6 n6
    replace he := heS he (same_upd (o := (.lst [V.bl (kd n "NothingDone"), V.bl (kd n "NoLine")])) n6)
    have e6 : (upd B5 p6 (.lst [V.bl (kd n "NothingDone"), V.bl (kd n "NoLine")])) p6 = some (.lst [V.bl (kd n "NothingDone"), V.bl (kd n "NoLine")]) := upd_same
    replace g5 := same_upd (o := (.lst [V.bl (kd n "NothingDone"), V.bl (kd n "NoLine")])) n6 _ _ g5
    generalize upd B5 p6 (.lst [V.bl (kd n "NothingDone"), V.bl (kd n "NoLine")]) = A6 at s7 he e6 g5 ⊢
    refine ⟨q5, p6, _, _, rfl, rfl, g5, e6, by show 24 + 2 ≤ sizeLine; omega, fun q6 m6 => ?_⟩
    have t6 := s7.trans (same_upd (o := (.lst ((((((([V.bl (kd n "BadBag"), V.bl (kd n "TooLong"), V.bl (kd n "BadText"), V.bl (kd n "NoName")] ++ [V.bl (kd n "UnlikeClocks"), V.bl (kd n "NoNumber"), V.bl (kd n "NoWord"), V.bl (kd n "NoBags")]) ++ [V.bl (kd n "IsNothing"), V.bl (kd n "NoRow"), V.bl (kd n "NotLevel"), V.bl (kd n "NoPart")]) ++ [V.bl (kd n "NoLot"), V.bl (kd n "NoOrder"), V.bl (kd n "NoWay"), V.bl (kd n "NoPlace")]) ++ [V.bl (kd n "NoKnot"), V.bl (kd n "IsNumber"), V.bl (kd n "NoStock"), V.bl (kd n "NoAlphabet")]) ++ [V.bl (kd n "NoLetters"), V.bl (kd n "NoClock"), V.bl (kd n "NoBag"), V.bl (kd n "Full")]) ++ [V.bl (kd n "NothingDone"), V.bl (kd n "NoLine")])))) m6)
    have h6 : H q6 = none := back_none s7 m6
    replace he := heS he (same_upd (o := (.lst ((((((([V.bl (kd n "BadBag"), V.bl (kd n "TooLong"), V.bl (kd n "BadText"), V.bl (kd n "NoName")] ++ [V.bl (kd n "UnlikeClocks"), V.bl (kd n "NoNumber"), V.bl (kd n "NoWord"), V.bl (kd n "NoBags")]) ++ [V.bl (kd n "IsNothing"), V.bl (kd n "NoRow"), V.bl (kd n "NotLevel"), V.bl (kd n "NoPart")]) ++ [V.bl (kd n "NoLot"), V.bl (kd n "NoOrder"), V.bl (kd n "NoWay"), V.bl (kd n "NoPlace")]) ++ [V.bl (kd n "NoKnot"), V.bl (kd n "IsNumber"), V.bl (kd n "NoStock"), V.bl (kd n "NoAlphabet")]) ++ [V.bl (kd n "NoLetters"), V.bl (kd n "NoClock"), V.bl (kd n "NoBag"), V.bl (kd n "Full")]) ++ [V.bl (kd n "NothingDone"), V.bl (kd n "NoLine")])))) m6)
    have g6 : (upd A6 q6 (.lst ((((((([V.bl (kd n "BadBag"), V.bl (kd n "TooLong"), V.bl (kd n "BadText"), V.bl (kd n "NoName")] ++ [V.bl (kd n "UnlikeClocks"), V.bl (kd n "NoNumber"), V.bl (kd n "NoWord"), V.bl (kd n "NoBags")]) ++ [V.bl (kd n "IsNothing"), V.bl (kd n "NoRow"), V.bl (kd n "NotLevel"), V.bl (kd n "NoPart")]) ++ [V.bl (kd n "NoLot"), V.bl (kd n "NoOrder"), V.bl (kd n "NoWay"), V.bl (kd n "NoPlace")]) ++ [V.bl (kd n "NoKnot"), V.bl (kd n "IsNumber"), V.bl (kd n "NoStock"), V.bl (kd n "NoAlphabet")]) ++ [V.bl (kd n "NoLetters"), V.bl (kd n "NoClock"), V.bl (kd n "NoBag"), V.bl (kd n "Full")]) ++ [V.bl (kd n "NothingDone"), V.bl (kd n "NoLine")])))) q6 = some (.lst ((((((([V.bl (kd n "BadBag"), V.bl (kd n "TooLong"), V.bl (kd n "BadText"), V.bl (kd n "NoName")] ++ [V.bl (kd n "UnlikeClocks"), V.bl (kd n "NoNumber"), V.bl (kd n "NoWord"), V.bl (kd n "NoBags")]) ++ [V.bl (kd n "IsNothing"), V.bl (kd n "NoRow"), V.bl (kd n "NotLevel"), V.bl (kd n "NoPart")]) ++ [V.bl (kd n "NoLot"), V.bl (kd n "NoOrder"), V.bl (kd n "NoWay"), V.bl (kd n "NoPlace")]) ++ [V.bl (kd n "NoKnot"), V.bl (kd n "IsNumber"), V.bl (kd n "NoStock"), V.bl (kd n "NoAlphabet")]) ++ [V.bl (kd n "NoLetters"), V.bl (kd n "NoClock"), V.bl (kd n "NoBag"), V.bl (kd n "Full")]) ++ [V.bl (kd n "NothingDone"), V.bl (kd n "NoLine")]))) := upd_same

    generalize upd A6 q6 (.lst ((((((([V.bl (kd n "BadBag"), V.bl (kd n "TooLong"), V.bl (kd n "BadText"), V.bl (kd n "NoName")] ++ [V.bl (kd n "UnlikeClocks"), V.bl (kd n "NoNumber"), V.bl (kd n "NoWord"), V.bl (kd n "NoBags")]) ++ [V.bl (kd n "IsNothing"), V.bl (kd n "NoRow"), V.bl (kd n "NotLevel"), V.bl (kd n "NoPart")]) ++ [V.bl (kd n "NoLot"), V.bl (kd n "NoOrder"), V.bl (kd n "NoWay"), V.bl (kd n "NoPlace")]) ++ [V.bl (kd n "NoKnot"), V.bl (kd n "IsNumber"), V.bl (kd n "NoStock"), V.bl (kd n "NoAlphabet")]) ++ [V.bl (kd n "NoLetters"), V.bl (kd n "NoClock"), V.bl (kd n "NoBag"), V.bl (kd n "Full")]) ++ [V.bl (kd n "NothingDone"), V.bl (kd n "NoLine")]))) = B6 at t6 he g6 ⊢
    clear s7
    have s7 := t6
    exact ⟨_, rfl, q q6 B6 s7 h6 g6⟩
end
end Fp

set_option Elab.async false
set_option linter.all false
set_option maxRecDepth 100000
set_option maxHeartbeats 8000000
namespace Fp
open PySem PySem.Spec PyProof.Rows L2
theorem takesN {X : Cx} : L2N.Takes X (fun _ _ _ _ => False) := fun _ _ x => by
  obtain ⟨_, _, _, _, _, _, _, _, _, _, _, _, _, _, _, _, z⟩ := x
  exact z.elim
/-- what stood stays behind a raise -/
theorem mk_same {H : Hp} {a dx : Addr} {o u v z : HO} (h1 : H a = none) (h2 : H dx = none) : Same H (upd (L2.del (upd (upd (upd H a o) dx u) a v) a) dx z) := fun b w e => by
  have n1 : b ≠ a := fun q => by rw [q, h1] at e; cases e
  have n2 : b ≠ dx := fun q => by rw [q, h2] at e; cases e
  rw [upd_ne n2, L2.del_ne n1, upd_ne n1, upd_ne n2, upd_ne n1]
  exact e
section
variable {P : Program} {w : World} {K : PySem.W.Frag} {mg : Str → Option Value} {base : Heap}
def spCaught : Sp := fun vs H Q _ => ∃ x y, vs = [x, y] ∧ VALK H x ∧ VALK H y ∧ ∀ (p : Addr) (H' : Hp), Same H H' → H p = none → H' p = some (.lst [.bl true, .bl true, .bl true]) → Q (.ref p) H'
abbrev nCaught : List Str := ["_law_one", "_law_other", "_law_found", "_law_e"]
theorem sc_caught : FnScope nCaught ["_law_one", "_law_other"] (defScope s__law_caught) := ⟨rfl, rfl, rfl, by decide +kernel, rfl, by decide +kernel, by decide +kernel⟩
def tRz (K : PySem.W.Frag) (n f : Str) (i : Nat) : WX → TS := fun W _ σ H => tMkO (He.ga K n) (spIni K f) [] (tCons (tVar i) tNil) σ H fun cls d H' => W cls d σ H'
def tSu (K : PySem.W.Frag) (n f : Str) (i : Nat) (a : Addr) (cls : Value) (d : Option Addr) : TS := tDrop (tBM K "list" rAppend (tVar 2) (tCons (tAndV (tCB (rIsD K cls d a) (tCons (tVar 3) (tCons (tC (.ref (He.ga K n))) tNil)))
  (tCallS spSame (fun _ => E0) (tCons (tXf a cls d (He.ga K n) f (tVar 3)) (tCons (tVar i) tNil)))) tNil))
def tSu2 (K : PySem.W.Frag) (n m : Str) (a : Addr) (cls : Value) (d : Option Addr) : TS := tDrop (tBM K "list" rAppend (tVar 2) (tCons (tAndV (tCB (rIsD K cls d a) (tCons (tVar 3) (tCons (tC (.ref (He.ga K n))) tNil)))
  (tNotV (tCB (rIsD K cls d a) (tCons (tVar 3) (tCons (tC (.ref (He.ga K m))) tNil))))) tNil))
def tSu3 (K : PySem.W.Frag) (n f : Str) (i : Nat) (a : Addr) (cls : Value) (d : Option Addr) : TS := tDrop (tBM K "list" rAppend (tVar 2) (tCons (tCallS spSame (fun _ => E0) (tCons (tXf a cls d (He.ga K n) f (tVar 3)) (tCons (tVar i) tNil))) tNil))
theorem ok_caught (T : Top K mg) : Ok P w K mg base 3 "_law_caught" ["_law_one", "_law_other"] spCaught := by
  obtain ⟨fd, F⟩ := fn__law_caught T
  refine ⟨⟨fd, ?_, F.bindsN fun _ _ _ _ _ _ us hl => match us, hl with | [_, _], _ => rfl⟩, g__law_caught T, F.kp⟩
  refine F.ok sc_caught (fun vs H Q E h => ?_) (fun cdv A outer s H vs Q E hr h => ?_)
  · obtain ⟨x, y, rfl, _⟩ := h
    rfl
  · obtain ⟨x, y, rfl, vx, vy, q⟩ := h
    have nd := sc_caught.nd
    have hs : sizeLine = 16777216 := sizeLine_eq
    obtain ⟨fdS, FS, bS, kS⟩ := okH_same (P := P) (w := w) (base := base) T
    obtain ⟨fd1, F1, b1⟩ := ini_BadBag (P := P) (w := w) (base := base) T
    obtain ⟨fd2, F2, b2⟩ := ini_TooLong (P := P) (w := w) (base := base) T
    have m1 : (("BadBag" : Str), ("part" : Str)) ∈ inis := by decide +kernel
    have m2 : (("TooLong" : Str), ("most" : Str)) ∈ inis := by decide +kernel
    have hrH := L2H.roomH_of (hr.mono (show 1 ≤ 2 by decide))
    refine ⟨_, PSs.nox (pss_cons (ps_set (i := 2) nd rfl (Or.inl rfl) (pe_lst pa_nil))
      (pss_cons (L2N.ps_try_as (i := 3) (tb := tRz K "BadBag" "part" 0) (ts := tSu K "BadBag" "part" 0) rfl rfl nd rfl rfl ⟨rfl, by decide, .inl (g_BagError T)⟩ takesN
        (fun W pn xe tk _ => pss_one (L2N.ps_raise rfl tk (pmk_oexN (x_oex T m1) (x_ini T m1).1 (x_ini T m1).2 F1 hr b1 (fun _ _ _ _ _ _ _ z => z.elim) rfl (g_BadBag T) (pa_cons (pv 0) pa_nil))))
        (fun a oe cls d pn hz hf => pss_one (ps_expr (pe_bm PySem.F.plainAttrs_list PySem.F.slot_list_append PySem.F.type_list_append mt_append (pv 2) (pa_cons
          (pe_and (pe_callB (call_isD hz.zc hf) (by rfl) (f_isinstance T) (by decide +kernel) (pa_cons (pv 3) (pa_cons (pe_glob (v := .ref (He.ga K "BadBag")) (by rfl) (g_BadBag T) rfl) pa_nil)))
            (pe_one (L2H.pe_callH FS ⟨hrH.dp, hrH.un⟩ (hot_suite hz hf) (by rfl) (g__law_same T) kS bS (fun _ _ _ _ _ _ _ z => z.elim) (pa_cons (pe_xf (x_cls T (n := "BadBag") (by decide +kernel)).xf (x_no T m1) hz.zc hf (pv 3)) (pa_cons (pv 0) pa_nil))))) pa_nil)))))
      (pss_cons (L2N.ps_try_as (i := 3) (tb := fun W _ σ H => W (.ref (He.ga K "NothingDone")) none σ H) (ts := tSu2 K "NothingDone" "IsNothing") rfl rfl nd rfl rfl ⟨rfl, by decide, .inl (g_BagError T)⟩ takesN
        (fun W pn xe tk _ => pss_one (L2N.ps_raise rfl tk (pmk_own0N PySem.F.excBase_ValueError (e_NothingDone T).1 (g_NothingDone T) (e_NothingDone T).2.1 (raises_own (e_NothingDone T).2.2.1 (e_NothingDone T).2.2.2) rfl)))
        (fun a oe cls d pn hz hf => pss_one (ps_expr (pe_bm PySem.F.plainAttrs_list PySem.F.slot_list_append PySem.F.type_list_append mt_append (pv 2) (pa_cons
          (pe_and (pe_callB (call_isD hz.zc hf) (by rfl) (f_isinstance T) (by decide +kernel) (pa_cons (pv 3) (pa_cons (pe_glob (v := .ref (He.ga K "NothingDone")) (by rfl) (g_NothingDone T) rfl) pa_nil)))
            (pe_one (pe_not (pe_callB (call_isD hz.zc hf) (by rfl) (f_isinstance T) (by decide +kernel) (pa_cons (pv 3) (pa_cons (pe_glob (v := .ref (He.ga K "IsNothing")) (by rfl) (g_IsNothing T) rfl) pa_nil)))))) pa_nil)))))
      (pss_cons (L2N.ps_try_as (i := 3) (tb := tRz K "TooLong" "most" 1) (ts := tSu3 K "TooLong" "most" 1) rfl rfl nd rfl rfl ⟨rfl, by decide, .inl (g_TooLong T)⟩ takesN
        (fun W pn xe tk _ => pss_one (L2N.ps_raise rfl tk (pmk_oexN (x_oex T m2) (x_ini T m2).1 (x_ini T m2).2 F2 hr b2 (fun _ _ _ _ _ _ _ z => z.elim) rfl (g_TooLong T) (pa_cons (pv 1) pa_nil))))
        (fun a oe cls d pn hz hf => pss_one (ps_expr (pe_bm PySem.F.plainAttrs_list PySem.F.slot_list_append PySem.F.type_list_append mt_append (pv 2) (pa_cons
          (L2H.pe_callH FS ⟨hrH.dp, hrH.un⟩ (hot_suite hz hf) (by rfl) (g__law_same T) kS bS (fun _ _ _ _ _ _ _ z => z.elim) (pa_cons (pe_xf (x_cls T (n := "TooLong") (by decide +kernel)).xf (x_no T m2) hz.zc hf (pv 3)) (pa_cons (pv 1) pa_nil))) pa_nil)))))
      (pss_one (ps_ret (pv 2))))))), ?_⟩
    refine ⟨by show 0 ≤ sizeLine; omega, fun p np => ?_⟩
    have s1 := same_upd (o := .lst []) np
    have e1 : (upd H p (.lst [])) p = some (.lst []) := upd_same
    generalize upd H p (.lst []) = H1 at s1 e1 ⊢
    -- BadBag
    refine ⟨_, rfl, by show 1 ≤ 1000; decide, fun a ha => ⟨a, He.ga K "BadBag", x, rfl, x_oex T m1, x_no T m1, upd_same, fun dx h1 h2 => ⟨rfl, dx, [("part", x)], upd_same, by rw [upd_ne h2, upd_same], by rw [upd_ne h2] at h1; exact h1, ?_⟩⟩⟩
    have h1' : H1 dx = none := by rw [upd_ne h2] at h1; exact h1
    have s2 := mk_same (o := exo a (He.ga K "BadBag") none) (u := exd dx [("part", x)]) (v := exo a (He.ga K "BadBag") (some dx)) (z := .xd [("part", x)]) ha h1'
    have e2 : (upd (L2.del (upd (upd (upd H1 a (exo a (He.ga K "BadBag") none)) dx (exd dx [("part", x)])) a (exo a (He.ga K "BadBag") (some dx))) a) dx (.xd [("part", x)])) dx = some (.xd [("part", x)]) := upd_same
    generalize upd (L2.del (upd (upd (upd H1 a (exo a (He.ga K "BadBag") none)) dx (exd dx [("part", x)])) a (exo a (He.ga K "BadBag") (some dx))) a) dx (.xd [("part", x)]) = H2 at s2 e2 ⊢
    refine ⟨true, x_exm T (n := "BadBag") (m := "BagError") (by decide +kernel), fun _ e ne => ?_, fun z => nomatch z⟩
    refine ⟨_, rfl, .inl ⟨rfl, _, SqL.of (s2 _ _ e1)⟩, _, rfl, He.ga K "BadBag", _, .ref (He.ga K "BadBag"), true, rfl, rfl, fun dd z => ?_, x_cls T (by decide +kernel), fun _ z => z, (x_kit T (n := "BadBag") (m := "BadBag") (by decide +kernel) (by decide +kernel)).trans (by decide +kernel), true, rfl, iteT ?_⟩
    · cases z
      exact ⟨_, e2⟩
    refine ⟨_, rfl, rfl, rfl, dx, _, x, rfl, e2, rfl, _, rfl, x, rfl, (vx.same s1).same s2, ?_⟩
    refine ⟨p, [], _, rfl, rfl, s2 _ _ e1, by show 0 < sizeLine; omega, ?_⟩
    have w2 := s1.trans s2
    have bp : But p H1 (upd H2 p (.lst ([] ++ [V.bl true]))) := (But.of s2).trans but_upd
    have e3 : (upd H2 p (.lst ([] ++ [V.bl true]))) p = some (.lst [.bl true]) := upd_same
    have s3 : Same H (upd H2 p (.lst ([] ++ [V.bl true]))) := fun b o z => by
      rw [upd_ne (ne_of_none z np)]
      exact w2 _ _ z
    generalize upd H2 p (.lst ([] ++ [V.bl true])) = H3 at e3 s3 ⊢
    clear bp
    -- NothingDone
    refine ⟨true, x_exm T (n := "NothingDone") (m := "BagError") (by decide +kernel), fun _ e ne => ?_, fun z => nomatch z⟩
    refine ⟨_, rfl, .inl ⟨rfl, _, SqL.of e3⟩, _, rfl, He.ga K "NothingDone", _, .ref (He.ga K "NothingDone"), true, rfl, rfl, fun dd z => (nomatch z), x_cls T (by decide +kernel), fun _ z => z, (x_kit T (n := "NothingDone") (m := "NothingDone") (by decide +kernel) (by decide +kernel)).trans (by decide +kernel), true, rfl, iteT ?_⟩
    refine ⟨_, rfl, He.ga K "NothingDone", _, .ref (He.ga K "IsNothing"), false, rfl, rfl, fun dd z => (nomatch z), x_cls T (by decide +kernel), fun _ z => z, (x_kit T (n := "NothingDone") (m := "IsNothing") (by decide +kernel) (by decide +kernel)).trans (by decide +kernel), false, rfl, ?_⟩
    refine ⟨p, _, _, rfl, rfl, e3, by show 1 < sizeLine; omega, ?_⟩
    have e4 : (upd H3 p (.lst ([.bl true] ++ [V.bl (!false)]))) p = some (.lst [.bl true, .bl true]) := upd_same
    have s4 : Same H (upd H3 p (.lst ([.bl true] ++ [V.bl (!false)]))) := fun b o z => by
      rw [upd_ne (ne_of_none z np)]
      exact s3 _ _ z
    generalize upd H3 p (.lst ([.bl true] ++ [V.bl (!false)])) = H4 at e4 s4 ⊢
    -- TooLong
    refine ⟨_, rfl, by show 1 ≤ 1000; decide, fun a2 ha2 => ⟨a2, He.ga K "TooLong", y, rfl, x_oex T m2, x_no T m2, upd_same, fun dx h1 h2 => ⟨rfl, dx, [("most", y)], upd_same, by rw [upd_ne h2, upd_same], by rw [upd_ne h2] at h1; exact h1, ?_⟩⟩⟩
    have h1' : H4 dx = none := by rw [upd_ne h2] at h1; exact h1
    have s5 := mk_same (o := exo a2 (He.ga K "TooLong") none) (u := exd dx [("most", y)]) (v := exo a2 (He.ga K "TooLong") (some dx)) (z := .xd [("most", y)]) ha2 h1'
    have e5 : (upd (L2.del (upd (upd (upd H4 a2 (exo a2 (He.ga K "TooLong") none)) dx (exd dx [("most", y)])) a2 (exo a2 (He.ga K "TooLong") (some dx))) a2) dx (.xd [("most", y)])) dx = some (.xd [("most", y)]) := upd_same
    generalize upd (L2.del (upd (upd (upd H4 a2 (exo a2 (He.ga K "TooLong") none)) dx (exd dx [("most", y)])) a2 (exo a2 (He.ga K "TooLong") (some dx))) a2) dx (.xd [("most", y)]) = H5 at s5 e5 ⊢
    refine ⟨true, x_exm T (n := "TooLong") (m := "TooLong") (by decide +kernel), fun _ e ne => ?_, fun z => nomatch z⟩
    refine ⟨_, rfl, .inl ⟨rfl, _, SqL.of (s5 _ _ e4)⟩, _, rfl, rfl, rfl, dx, _, y, rfl, e5, rfl, _, rfl, y, rfl, (vy.same s4).same s5, ?_⟩
    refine ⟨p, _, _, rfl, rfl, s5 _ _ e4, by show 2 < sizeLine; omega, ?_⟩
    refine ⟨_, rfl, q p _ (fun b o z => ?_) np upd_same⟩
    rw [upd_ne (ne_of_none z np)]
    exact s5 _ _ (s4 _ _ z)
end
end Fp

set_option Elab.async false
set_option linter.all false
set_option maxRecDepth 100000
set_option maxHeartbeats 8000000
namespace Fp
open PySem PySem.Spec PyProof.Rows L2
theorem same_ini {H : Hp} {a dx : Addr} {o u v : HO} (h1 : H a = none) (h2 : H dx = none) : Same H (upd (upd (upd H a o) dx u) a v) := fun b w e => by
  have n1 : b ≠ a := fun q => by rw [q, h1] at e; cases e
  have n2 : b ≠ dx := fun q => by rw [q, h2] at e; cases e
  rw [upd_ne n1, upd_ne n2, upd_ne n1]
  exact e
theorem ini_step {K : PySem.W.Frag} {C : Addr} {f : Str} {y : V} {H1 : Hp} {Q : VK} (T1 : OexC K C) (hno : PySem.W.findIn K (.ref C) f = some none)
    (q : ∀ (a dx : Addr) (H' : Hp), Same H1 H' → H1 a = none → H' a = some (exo a C (some dx)) → H' dx = some (exd dx [(f, y)]) → Q (.ref a) H') :
    [y].length ≤ 1000 ∧ ∀ a, H1 a = none → spIni K f (.ref a :: [y]) (upd H1 a (exo a C none)) (fun v H2 => v = .non ∧ Q (.ref a) H2) (fun _ _ _ => False) :=
  ⟨by show 1 ≤ 1000; decide, fun a ha => ⟨a, C, y, rfl, T1, hno, upd_same, fun dx h1 h2 => ⟨rfl, by
    have h1' : H1 dx = none := by rw [upd_ne h2] at h1; exact h1
    exact q a dx _ (same_ini ha h1') ha upd_same (by rw [upd_ne h2, upd_same])⟩⟩⟩
section
variable {X : Cx} {e : Expr} {es : List Expr} {ta : TA} {p pos : Pos}
def tOwn (C : Addr) : TE := fun _ H Q => ∀ (a : Addr) (H' : Hp), Same H H' → H a = none → H' a = some (exo a C none) → Q (.ref a) H'
theorem pe_o0 {x : Str} (q : PySem.W.excIn X.K (He.ga X.K x) He.veBase "ValueError.__new__" = true) (gC : X.mg x = some (.ref (He.ga X.K x))) (kC : PySem.W.keepIn X.K (.ref (He.ga X.K x)) = true) (hg : Gl X x) (hdb : (x == ("__debug__" : Str)) = false := by decide) :
    PE X (.Call (.Name x p) [] [] pos) (tOwn (He.ga X.K x)) :=
  pe_weak (pe_own0V PySem.F.excBase_ValueError q gC kC hg hdb) fun σ H Q h a ha => h a _ (same_upd ha) ha upd_same
def tIni (C : Addr) (f : Str) (i : Nat) : TE := fun σ H Q => ∃ y, σ[i]? = some (some y) ∧ ∀ (a dx : Addr) (H' : Hp), Same H H' → H a = none → H' a = some (exo a C (some dx)) → H' dx = some (exd dx [(f, y)]) → Q (.ref a) H'
theorem pe_oexI {x f : Str} {fI : Addr} {i : Nat} {fd : FuncData} (T : OexC X.K (He.ga X.K x)) (hno : PySem.W.findIn X.K (.ref (He.ga X.K x)) f = some none) (iC : PySem.W.findIn X.K (.ref (He.ga X.K x)) "__init__" = some (some (.ref fI))) (tI : PySem.W.typeIn X.K (.ref fI) = some (.type "function"))
    (F1 : FnOk X.prog X.w X.K X.mg X.base CX0 1 fI fd ["self", f] (spIni X.K f)) (hr : Room 2 X.A) (hb : Binds X.K fd ["self", f] []) (hg : Gl X x) (hm : X.mg x = some (.ref (He.ga X.K x))) (ha : PE X e (tVar i))
    (hdb : (x == ("__debug__" : Str)) = false := by decide) (he : starEach [e] X.env = (false, eval e X.env) :: starEach [] X.env := by rfl) (hpl : (backTo pos (starEach [] X.env)).any (·.1) = false := by rfl) :
    PE X (.Call (.Name x p) [e] [] pos) (tIni (He.ga X.K x) f i) :=
  pe_weak (pe_oexV T iC tI F1 hr hb (fun _ _ _ _ _ _ _ z => z.elim) hg hm (pa_cons ha pa_nil (hs := he)) hdb he hpl) fun σ H Q ⟨y, hy, q⟩ => ⟨y, hy, ini_step T hno q⟩
end
/-- a row of exceptions -/
def Al (K : PySem.W.Frag) (H : Hp) (xs : List V) (ns : List Str) : Prop := Paired (fun x n => ∃ a d, x = .ref a ∧ HE H a (He.ga K n) d) xs ns
theorem Al.same {K : PySem.W.Frag} {H H' : Hp} {xs : List V} {ns : List Str} (h : Al K H xs ns) (k : Same H H') : Al K H' xs ns := Paired.mapP h fun x n ⟨a, d, e, z⟩ => ⟨a, d, e, heS z k⟩
theorem Al.one {K : PySem.W.Frag} {H H' : Hp} {xs : List V} {ns : List Str} {a : Addr} {n : Str} {d : Option Addr} (h : Al K H xs ns) (k : Same H H') (z : HE H' a (He.ga K n) d) : Al K H' (xs ++ [.ref a]) (ns ++ [n]) := Paired.snoc (h.same k) ⟨a, d, rfl, z⟩
theorem Al.app {K : PySem.W.Frag} {H : Hp} : ∀ {xs ys : List V} {ns ms : List Str}, Al K H xs ns → Al K H ys ms → Al K H (xs ++ ys) (ns ++ ms)
  | _, _, _, _, .nil, h => h
  | _, _, _, _, .cons a b, h => .cons a (Al.app b h)
theorem Al.at {K : PySem.W.Frag} {H : Hp} {xs : List V} {ns : List Str} (h : Al K H xs ns) : ∀ {i : Nat} {x : V}, xs[i]? = some x → ∃ a n d, x = .ref a ∧ ns[i]? = some n ∧ HE H a (He.ga K n) d := by
  induction h with
  | nil =>
    intro i x e
    simp at e
  | @cons u n us ms z _ ih =>
    intro i x e
    cases i with
    | zero =>
      obtain ⟨a, d, e1, z⟩ := z
      have := Option.some.inj e
      subst this
      exact ⟨a, n, d, e1, rfl, z⟩
    | succ i => exact ih e
theorem vk_but {ca : Addr} {H H' : Hp} {h : Addr} {x : V} (v : VALK H x) (hh : HandAt ca H h) (k : But h H H') : VALK H' x := by
  obtain ⟨cs, a, l, sd, tn, h1, _⟩ := hh
  have ne : ∀ {b : Addr} {o : HO}, H b = some o → o ≠ .lst [.ref ca, .int a, .int l, .int sd, .int tn] → b ≠ h := fun e n z => by
    rw [z, h1] at e
    exact n (Option.some.inj e).symm
  rcases v with v | ⟨a, rfl, v⟩
  · exact .inl v
  · refine .inr ⟨a, rfl, ?_⟩
    rcases v with v | v | v | v
    · exact .inl (k _ _ v (ne v (by simp)))
    · exact .inr (.inl (k _ _ v (ne v (by simp))))
    · exact .inr (.inr (.inl (k _ _ v (ne v (by simp)))))
    · exact .inr (.inr (.inr (k _ _ v (ne v (by simp)))))
def made : List Str := ["BadBag", "TooLong", "BadText", "NoName", "UnlikeClocks", "NoNumber", "NoWord", "NoBags", "IsNothing", "NoRow", "NotLevel", "NoPart", "NoLot", "NoOrder", "NoWay", "NoPlace", "NoKnot", "IsNumber", "NoStock", "NoAlphabet", "NoLetters", "NoClock", "NoBag", "Full", "NothingDone", "NoLine"]
theorem made_ok : ∀ n ∈ made, n ∈ excs ∧ (kinds n).count true = 1 := by decide +kernel
theorem kinds0 : inV (.bl true) ((kinds "BagError").map V.bl) = false ∧ ((kinds "BagError").map V.bl).all flatV = true := by decide +kernel
section
variable {P : Program} {w : World} {K : PySem.W.Frag} {mg : Str → Option Value} {base : Heap}
def spLaw (K : PySem.W.Frag) : Sp := fun vs H Q _ => ∃ (a : Addr) (ns : List Int), vs = [.ref a] ∧ SqL K H a (ns.map V.int) ∧ ∀ H', Q (.bl true) H'
abbrev nLaw : List Str := ["_law_script", "_law_hand_here", "_law_one", "_law_other", "_law_made", "_law_error", "_law_fields", "_law_field"]
theorem sc_law : FnScope nLaw ["_law_script"] (defScope s_law) := ⟨rfl, rfl, rfl, by decide +kernel, rfl, by decide +kernel, by decide +kernel⟩
theorem ok_law (T : Top K mg) {fd : FuncData} (F : FnP K "law" "law" s_law (He.fAd K ("law", none)) fd) : FnOk P w K mg base CX0 5 (He.ga K "law") fd ["_law_script"] (spLaw K) := by
  refine F.ok sc_law (fun vs H Q E h => ?_) (fun cdv A outer s H vs Q E hr h => ?_)
  · obtain ⟨a, ns, rfl, _⟩ := h
    rfl
  · obtain ⟨sa, ns, rfl, hS, q⟩ := h
    have nd := sc_law.nd
    have hs : sizeLine = 16777216 := sizeLine_eq
    have hr1 : Room 1 _ := hr.mono (by decide)
    have hr2 : Room 2 _ := hr.mono (by decide)
    have hr3 : Room 3 _ := hr.mono (by decide)
    obtain ⟨fd_BadBag, F_BadBag, b_BadBag⟩ := ini_BadBag (P := P) (w := w) (base := base) T
    have m_BadBag : (("BadBag" : Str), ("part" : Str)) ∈ inis := by decide +kernel
    obtain ⟨fd_TooLong, F_TooLong, b_TooLong⟩ := ini_TooLong (P := P) (w := w) (base := base) T
    have m_TooLong : (("TooLong" : Str), ("most" : Str)) ∈ inis := by decide +kernel
    obtain ⟨fd_BadText, F_BadText, b_BadText⟩ := ini_BadText (P := P) (w := w) (base := base) T
    have m_BadText : (("BadText" : Str), ("line" : Str)) ∈ inis := by decide +kernel
    obtain ⟨fd_NoName, F_NoName, b_NoName⟩ := ini_NoName (P := P) (w := w) (base := base) T
    have m_NoName : (("NoName" : Str), ("name" : Str)) ∈ inis := by decide +kernel
    refine ⟨_, PSs.nox (pss_cons (ps_set (i := 1) nd rfl (Or.inl rfl) (pc (ok_hand T) hr1 (pa_cons (pv 0) pa_nil)))
      (pss_cons (ps_set (i := 2) nd rfl (Or.inr rfl) (pc (ok_value T) hr2 (pa_cons (pv 1) pa_nil)))
      (pss_cons (ps_set (i := 3) nd rfl (Or.inl rfl) (pc (ok_value T) hr2 (pa_cons (pv 1) pa_nil)))
      (pss_cons (ps_set (i := 4) nd rfl (Or.inl rfl) (pe_lst (pa_cons (pe_oexI (x_oex T m_BadBag) (x_no T m_BadBag) (x_ini T m_BadBag).1 (x_ini T m_BadBag).2 F_BadBag hr2 b_BadBag rfl (g_BadBag T) (pv 2)) (pa_cons (pe_oexI (x_oex T m_TooLong) (x_no T m_TooLong) (x_ini T m_TooLong).1 (x_ini T m_TooLong).2 F_TooLong hr2 b_TooLong rfl (g_TooLong T) (pv 2)) (pa_cons (pe_oexI (x_oex T m_BadText) (x_no T m_BadText) (x_ini T m_BadText).1 (x_ini T m_BadText).2 F_BadText hr2 b_BadText rfl (g_BadText T) (pv 2)) (pa_cons (pe_oexI (x_oex T m_NoName) (x_no T m_NoName) (x_ini T m_NoName).1 (x_ini T m_NoName).2 F_NoName hr2 b_NoName rfl (g_NoName T) (pv 2)) (pa_cons (pe_o0 (e_UnlikeClocks T).1 (g_UnlikeClocks T) (e_UnlikeClocks T).2.1 (by rfl)) (pa_cons (pe_o0 (e_NoNumber T).1 (g_NoNumber T) (e_NoNumber T).2.1 (by rfl)) (pa_cons (pe_o0 (e_NoWord T).1 (g_NoWord T) (e_NoWord T).2.1 (by rfl)) pa_nil)))))))))
      (pss_cons (ps_set (i := 4) nd rfl (Or.inl rfl) (pe_op op_cat (pv 4) (pe_lst (pa_cons (pe_o0 (e_NoBags T).1 (g_NoBags T) (e_NoBags T).2.1 (by rfl)) (pa_cons (pe_o0 (e_IsNothing T).1 (g_IsNothing T) (e_IsNothing T).2.1 (by rfl)) (pa_cons (pe_o0 (e_NoRow T).1 (g_NoRow T) (e_NoRow T).2.1 (by rfl)) (pa_cons (pe_o0 (e_NotLevel T).1 (g_NotLevel T) (e_NotLevel T).2.1 (by rfl)) (pa_cons (pe_o0 (e_NoPart T).1 (g_NoPart T) (e_NoPart T).2.1 (by rfl)) (pa_cons (pe_o0 (e_NoLot T).1 (g_NoLot T) (e_NoLot T).2.1 (by rfl)) (pa_cons (pe_o0 (e_NoOrder T).1 (g_NoOrder T) (e_NoOrder T).2.1 (by rfl)) (pa_cons (pe_o0 (e_NoWay T).1 (g_NoWay T) (e_NoWay T).2.1 (by rfl)) pa_nil)))))))))))
      (pss_cons (ps_set (i := 4) nd rfl (Or.inl rfl) (pe_op op_cat (pv 4) (pe_lst (pa_cons (pe_o0 (e_NoPlace T).1 (g_NoPlace T) (e_NoPlace T).2.1 (by rfl)) (pa_cons (pe_o0 (e_NoKnot T).1 (g_NoKnot T) (e_NoKnot T).2.1 (by rfl)) (pa_cons (pe_o0 (e_IsNumber T).1 (g_IsNumber T) (e_IsNumber T).2.1 (by rfl)) (pa_cons (pe_o0 (e_NoStock T).1 (g_NoStock T) (e_NoStock T).2.1 (by rfl)) (pa_cons (pe_o0 (e_NoAlphabet T).1 (g_NoAlphabet T) (e_NoAlphabet T).2.1 (by rfl)) (pa_cons (pe_o0 (e_NoLetters T).1 (g_NoLetters T) (e_NoLetters T).2.1 (by rfl)) (pa_cons (pe_o0 (e_NoClock T).1 (g_NoClock T) (e_NoClock T).2.1 (by rfl)) (pa_cons (pe_o0 (e_NoBag T).1 (g_NoBag T) (e_NoBag T).2.1 (by rfl)) pa_nil)))))))))))
      (pss_cons (ps_set (i := 4) nd rfl (Or.inl rfl) (pe_op op_cat (pv 4) (pe_lst (pa_cons (pe_o0 (e_Full T).1 (g_Full T) (e_Full T).2.1 (by rfl)) (pa_cons (pe_o0 (e_NothingDone T).1 (g_NothingDone T) (e_NothingDone T).2.1 (by rfl)) (pa_cons (pe_o0 (e_NoLine T).1 (g_NoLine T) (e_NoLine T).2.1 (by rfl)) pa_nil))))))
      (pss_cons (ps_for PassesOwn.never rfl (pi_list (pv 4)) (pg_name (i := 5) nd rfl (Or.inl rfl)) (pss_one (ps_if (PW.pt (pw_or (pt_not (pt_val (pe_callB call_isV (by rfl) (f_isinstance T) (by decide +kernel) (pa_cons (pv 5) (pa_cons (pe_glob (v := .ref (He.ga K "BagError")) (by rfl) (g_BagError T) rfl) pa_nil))))) (pw_or (pt_not (pt_val (pe_callB call_isV (by rfl) (f_isinstance T) (by decide +kernel) (pa_cons (pv 5) (pa_cons (pe_bltn (v := .ty "ValueError") (by rfl) (f_ValueError T) (by decide +kernel) rfl) pa_nil))))) (pw_or1 (pt_cmpR op_ne (pe_bm PySem.F.plainAttrs_list PySem.F.slot_list_count PySem.F.type_list_count mt_lcountB (pc (ok_kinds T) hr1 (pa_cons (pv 5) pa_nil)) (pa_cons pe_bl pa_nil)) pe_int (nomark _)))))) (pss_one (ps_ret pe_bl)) pss_nil)))
      (pss_cons (ps_if (PW.pt (pw_or (pt_cmpR op_ne (pe_callB call_len (by rfl) (f_len T) PySem.boot_len (pa_cons (pv 4) pa_nil)) pe_int (nomark _)) (pw_or (pt_cmpR op_in_seq pe_bl (pc (ok_kinds T) hr1 (pa_cons (pe_o0 (e_BagError T).1 (g_BagError T) (e_BagError T).2.1 (by rfl)) pa_nil)) (by rfl)) (pw_or1 (pt_not (pt_val (pe_callB call_isV (by rfl) (f_isinstance T) (by decide +kernel) (pa_cons (pe_o0 (e_BagError T).1 (g_BagError T) (e_BagError T).2.1 (by rfl)) (pa_cons (pe_bltn (v := .ty "ValueError") (by rfl) (f_ValueError T) (by decide +kernel) rfl) pa_nil))))))))) (pss_one (ps_ret pe_bl)) pss_nil)
      (pss_cons (ps_if (pt_cmpR (op_neD hr.units) (pc (ok_caught T) hr3 (pa_cons (pv 2) (pa_cons (pv 3) pa_nil))) (pe_lst (pa_cons pe_bl (pa_cons pe_bl (pa_cons pe_bl pa_nil)))) (nomark _)) (pss_one (ps_ret pe_bl)) pss_nil)
      (pss_cons (ps_set (i := 6) nd rfl (Or.inl rfl) (pe_lst (pa_cons (pe_xfV (pe_oexI (x_oex T m_BadBag) (x_no T m_BadBag) (x_ini T m_BadBag).1 (x_ini T m_BadBag).2 F_BadBag hr2 b_BadBag rfl (g_BadBag T) (pv 2))) (pa_cons (pe_xfV (pe_oexI (x_oex T m_TooLong) (x_no T m_TooLong) (x_ini T m_TooLong).1 (x_ini T m_TooLong).2 F_TooLong hr2 b_TooLong rfl (g_TooLong T) (pv 2))) (pa_cons (pe_xfV (pe_oexI (x_oex T m_BadText) (x_no T m_BadText) (x_ini T m_BadText).1 (x_ini T m_BadText).2 F_BadText hr2 b_BadText rfl (g_BadText T) (pv 2))) (pa_cons (pe_xfV (pe_oexI (x_oex T m_NoName) (x_no T m_NoName) (x_ini T m_NoName).1 (x_ini T m_NoName).2 F_NoName hr2 b_NoName rfl (g_NoName T) (pv 2))) pa_nil))))))
      (pss_one (ps_ret (pe_callB (cr_all rfl) (by rfl) (f_all T) (by decide +kernel) (pa_cons (pe_lc (te := tCall spSame [] E0 (tCons (tVar 7) (tCons (tVar 2) tNil))) (own := [("_law_field", 7)]) (g := gName 7) (tt := tYes) rfl nd (pi_list (pv 6)) (blkOk_by (N := nLaw) (sc := defScope s_law) (by decide +kernel)) (fun _ _ _ _ _ => pg_name (i := 7) nd rfl (Or.inl rfl)) (fun _ _ _ _ _ => pts_nil) (fun _ _ _ _ _ => pc (ok_same T) hr1 (pa_cons (pv 7) (pa_cons (pv 2) pa_nil)))) pa_nil))))))))))))))), ?_⟩
    refine ⟨_, rfl, sa, ns, rfl, hS, fun H1 h ca s1 nh hh1 => ?_⟩
    refine ⟨_, rfl, h, ca, rfl, hh1, fun x H2 vx hh2 k2 => ?_⟩
    refine ⟨_, rfl, h, ca, rfl, hh2, fun y H3 vy hh3 k3 => ?_⟩
    have vx3 := vk_but vx hh2 k3
    have S0 := Same.refl H3
    clear k2 hh1 hh2 s1 nh vx
    refine ⟨_, rfl, fun a0 d0 A0 t0 u0 e0 g0 => ?_⟩
    have al0 : Al K A0 [V.ref a0] ["BadBag"] := Al.one (Paired.nil : Al K H3 [] []) t0 ⟨e0, fun dd z => by cases z; exact ⟨_, g0⟩⟩
    replace S0 := S0.trans t0
    refine ⟨_, rfl, fun a1 d1 A1 t1 u1 e1 g1 => ?_⟩
    have al1 : Al K A1 [V.ref a0, V.ref a1] ["BadBag", "TooLong"] := Al.one al0 t1 ⟨e1, fun dd z => by cases z; exact ⟨_, g1⟩⟩
    replace S0 := S0.trans t1
    refine ⟨_, rfl, fun a2 d2 A2 t2 u2 e2 g2 => ?_⟩
    have al2 : Al K A2 [V.ref a0, V.ref a1, V.ref a2] ["BadBag", "TooLong", "BadText"] := Al.one al1 t2 ⟨e2, fun dd z => by cases z; exact ⟨_, g2⟩⟩
    replace S0 := S0.trans t2
    refine ⟨_, rfl, fun a3 d3 A3 t3 u3 e3 g3 => ?_⟩
    have al3 : Al K A3 [V.ref a0, V.ref a1, V.ref a2, V.ref a3] ["BadBag", "TooLong", "BadText", "NoName"] := Al.one al2 t3 ⟨e3, fun dd z => by cases z; exact ⟨_, g3⟩⟩
    replace S0 := S0.trans t3
    refine fun a4 A4 t4 u4 e4 => ?_
    have al4 : Al K A4 [V.ref a0, V.ref a1, V.ref a2, V.ref a3, V.ref a4] ["BadBag", "TooLong", "BadText", "NoName", "UnlikeClocks"] := Al.one al3 t4 ⟨e4, fun dd z => nomatch z⟩
    replace S0 := S0.trans t4
    refine fun a5 A5 t5 u5 e5 => ?_
    have al5 : Al K A5 [V.ref a0, V.ref a1, V.ref a2, V.ref a3, V.ref a4, V.ref a5] ["BadBag", "TooLong", "BadText", "NoName", "UnlikeClocks", "NoNumber"] := Al.one al4 t5 ⟨e5, fun dd z => nomatch z⟩
    replace S0 := S0.trans t5
    refine fun a6 A6 t6 u6 e6 => ?_
    have al6 : Al K A6 [V.ref a0, V.ref a1, V.ref a2, V.ref a3, V.ref a4, V.ref a5, V.ref a6] ["BadBag", "TooLong", "BadText", "NoName", "UnlikeClocks", "NoNumber", "NoWord"] := Al.one al5 t6 ⟨e6, fun dd z => nomatch z⟩
    replace S0 := S0.trans t6
    refine ⟨by show 7 ≤ sizeLine; omega, fun L0 n0 => ?_⟩
    have t := same_upd (o := (.lst [V.ref a0, V.ref a1, V.ref a2, V.ref a3, V.ref a4, V.ref a5, V.ref a6])) n0
    have eL0 : (upd A6 L0 (.lst [V.ref a0, V.ref a1, V.ref a2, V.ref a3, V.ref a4, V.ref a5, V.ref a6])) L0 = some (.lst [V.ref a0, V.ref a1, V.ref a2, V.ref a3, V.ref a4, V.ref a5, V.ref a6]) := upd_same
    have alL0 := al6.same t
    replace S0 := S0.trans t
    generalize upd A6 L0 (.lst [V.ref a0, V.ref a1, V.ref a2, V.ref a3, V.ref a4, V.ref a5, V.ref a6]) = B0 at t S0 eL0 alL0 ⊢
    clear t
    have eM := eL0
    have alM := alL0
    refine ⟨_, rfl, ?_⟩
    refine fun a7 A7 t7 u7 e7 => ?_
    have al7 : Al K A7 [V.ref a7] ["NoBags"] := Al.one (Paired.nil : Al K B0 [] []) t7 ⟨e7, fun dd z => nomatch z⟩
    replace S0 := S0.trans t7
    replace eM := t7 _ _ eM
    replace alM := alM.same t7
    refine fun a8 A8 t8 u8 e8 => ?_
    have al8 : Al K A8 [V.ref a7, V.ref a8] ["NoBags", "IsNothing"] := Al.one al7 t8 ⟨e8, fun dd z => nomatch z⟩
    replace S0 := S0.trans t8
    replace eM := t8 _ _ eM
    replace alM := alM.same t8
    refine fun a9 A9 t9 u9 e9 => ?_
    have al9 : Al K A9 [V.ref a7, V.ref a8, V.ref a9] ["NoBags", "IsNothing", "NoRow"] := Al.one al8 t9 ⟨e9, fun dd z => nomatch z⟩
    replace S0 := S0.trans t9
    replace eM := t9 _ _ eM
    replace alM := alM.same t9
    refine fun a10 A10 t10 u10 e10 => ?_
    have al10 : Al K A10 [V.ref a7, V.ref a8, V.ref a9, V.ref a10] ["NoBags", "IsNothing", "NoRow", "NotLevel"] := Al.one al9 t10 ⟨e10, fun dd z => nomatch z⟩
    replace S0 := S0.trans t10
    replace eM := t10 _ _ eM
    replace alM := alM.same t10
    refine fun a11 A11 t11 u11 e11 => ?_
    have al11 : Al K A11 [V.ref a7, V.ref a8, V.ref a9, V.ref a10, V.ref a11] ["NoBags", "IsNothing", "NoRow", "NotLevel", "NoPart"] := Al.one al10 t11 ⟨e11, fun dd z => nomatch z⟩
    replace S0 := S0.trans t11
    replace eM := t11 _ _ eM
    replace alM := alM.same t11
    refine fun a12 A12 t12 u12 e12 => ?_
    have al12 : Al K A12 [V.ref a7, V.ref a8, V.ref a9, V.ref a10, V.ref a11, V.ref a12] ["NoBags", "IsNothing", "NoRow", "NotLevel", "NoPart", "NoLot"] := Al.one al11 t12 ⟨e12, fun dd z => nomatch z⟩
    replace S0 := S0.trans t12
    replace eM := t12 _ _ eM
    replace alM := alM.same t12
    refine fun a13 A13 t13 u13 e13 => ?_
    have al13 : Al K A13 [V.ref a7, V.ref a8, V.ref a9, V.ref a10, V.ref a11, V.ref a12, V.ref a13] ["NoBags", "IsNothing", "NoRow", "NotLevel", "NoPart", "NoLot", "NoOrder"] := Al.one al12 t13 ⟨e13, fun dd z => nomatch z⟩
    replace S0 := S0.trans t13
    replace eM := t13 _ _ eM
    replace alM := alM.same t13
    refine fun a14 A14 t14 u14 e14 => ?_
    have al14 : Al K A14 [V.ref a7, V.ref a8, V.ref a9, V.ref a10, V.ref a11, V.ref a12, V.ref a13, V.ref a14] ["NoBags", "IsNothing", "NoRow", "NotLevel", "NoPart", "NoLot", "NoOrder", "NoWay"] := Al.one al13 t14 ⟨e14, fun dd z => nomatch z⟩
    replace S0 := S0.trans t14
    replace eM := t14 _ _ eM
    replace alM := alM.same t14
    refine ⟨by show 8 ≤ sizeLine; omega, fun L1 n1 => ?_⟩
    have t := same_upd (o := (.lst [V.ref a7, V.ref a8, V.ref a9, V.ref a10, V.ref a11, V.ref a12, V.ref a13, V.ref a14])) n1
    have eL1 : (upd A14 L1 (.lst [V.ref a7, V.ref a8, V.ref a9, V.ref a10, V.ref a11, V.ref a12, V.ref a13, V.ref a14])) L1 = some (.lst [V.ref a7, V.ref a8, V.ref a9, V.ref a10, V.ref a11, V.ref a12, V.ref a13, V.ref a14]) := upd_same
    have alL1 := al14.same t
    replace S0 := S0.trans t
    replace eM := t _ _ eM
    replace alM := alM.same t
    generalize upd A14 L1 (.lst [V.ref a7, V.ref a8, V.ref a9, V.ref a10, V.ref a11, V.ref a12, V.ref a13, V.ref a14]) = B1 at t S0 eL1 alL1 eM alM ⊢
    clear t
    refine ⟨L0, L1, _, _, rfl, rfl, eM, eL1, by show 7 + 8 ≤ sizeLine; omega, fun M1 m1 => ?_⟩
    have t := same_upd (o := .lst ([V.ref a0, V.ref a1, V.ref a2, V.ref a3, V.ref a4, V.ref a5, V.ref a6] ++ [V.ref a7, V.ref a8, V.ref a9, V.ref a10, V.ref a11, V.ref a12, V.ref a13, V.ref a14])) m1
    have alM1 := (alM.app alL1).same t
    have eM1 : (upd B1 M1 (.lst ([V.ref a0, V.ref a1, V.ref a2, V.ref a3, V.ref a4, V.ref a5, V.ref a6] ++ [V.ref a7, V.ref a8, V.ref a9, V.ref a10, V.ref a11, V.ref a12, V.ref a13, V.ref a14]))) M1 = some (.lst ([V.ref a0, V.ref a1, V.ref a2, V.ref a3, V.ref a4, V.ref a5, V.ref a6] ++ [V.ref a7, V.ref a8, V.ref a9, V.ref a10, V.ref a11, V.ref a12, V.ref a13, V.ref a14])) := upd_same
    replace S0 := S0.trans t
    generalize upd B1 M1 (.lst ([V.ref a0, V.ref a1, V.ref a2, V.ref a3, V.ref a4, V.ref a5, V.ref a6] ++ [V.ref a7, V.ref a8, V.ref a9, V.ref a10, V.ref a11, V.ref a12, V.ref a13, V.ref a14])) = C1 at t S0 eM1 alM1 ⊢
    clear t eM alM
    have eM := eM1
    have alM := alM1
    clear eM1 alM1
    refine ⟨_, rfl, ?_⟩
    refine fun a15 A15 t15 u15 e15 => ?_
    have al15 : Al K A15 [V.ref a15] ["NoPlace"] := Al.one (Paired.nil : Al K C1 [] []) t15 ⟨e15, fun dd z => nomatch z⟩
    replace S0 := S0.trans t15
    replace eM := t15 _ _ eM
    replace alM := alM.same t15
    refine fun a16 A16 t16 u16 e16 => ?_
    have al16 : Al K A16 [V.ref a15, V.ref a16] ["NoPlace", "NoKnot"] := Al.one al15 t16 ⟨e16, fun dd z => nomatch z⟩
    replace S0 := S0.trans t16
    replace eM := t16 _ _ eM
    replace alM := alM.same t16
    refine fun a17 A17 t17 u17 e17 => ?_
    have al17 : Al K A17 [V.ref a15, V.ref a16, V.ref a17] ["NoPlace", "NoKnot", "IsNumber"] := Al.one al16 t17 ⟨e17, fun dd z => nomatch z⟩
    replace S0 := S0.trans t17
    replace eM := t17 _ _ eM
    replace alM := alM.same t17
    refine fun a18 A18 t18 u18 e18 => ?_
    have al18 : Al K A18 [V.ref a15, V.ref a16, V.ref a17, V.ref a18] ["NoPlace", "NoKnot", "IsNumber", "NoStock"] := Al.one al17 t18 ⟨e18, fun dd z => nomatch z⟩
    replace S0 := S0.trans t18
    replace eM := t18 _ _ eM
    replace alM := alM.same t18
    refine fun a19 A19 t19 u19 e19 => ?_
    have al19 : Al K A19 [V.ref a15, V.ref a16, V.ref a17, V.ref a18, V.ref a19] ["NoPlace", "NoKnot", "IsNumber", "NoStock", "NoAlphabet"] := Al.one al18 t19 ⟨e19, fun dd z => nomatch z⟩
    replace S0 := S0.trans t19
    replace eM := t19 _ _ eM
    replace alM := alM.same t19
    refine fun a20 A20 t20 u20 e20 => ?_
    have al20 : Al K A20 [V.ref a15, V.ref a16, V.ref a17, V.ref a18, V.ref a19, V.ref a20] ["NoPlace", "NoKnot", "IsNumber", "NoStock", "NoAlphabet", "NoLetters"] := Al.one al19 t20 ⟨e20, fun dd z => nomatch z⟩
    replace S0 := S0.trans t20
    replace eM := t20 _ _ eM
    replace alM := alM.same t20
    refine fun a21 A21 t21 u21 e21 => ?_
    have al21 : Al K A21 [V.ref a15, V.ref a16, V.ref a17, V.ref a18, V.ref a19, V.ref a20, V.ref a21] ["NoPlace", "NoKnot", "IsNumber", "NoStock", "NoAlphabet", "NoLetters", "NoClock"] := Al.one al20 t21 ⟨e21, fun dd z => nomatch z⟩
    replace S0 := S0.trans t21
    replace eM := t21 _ _ eM
    replace alM := alM.same t21
    refine fun a22 A22 t22 u22 e22 => ?_
    have al22 : Al K A22 [V.ref a15, V.ref a16, V.ref a17, V.ref a18, V.ref a19, V.ref a20, V.ref a21, V.ref a22] ["NoPlace", "NoKnot", "IsNumber", "NoStock", "NoAlphabet", "NoLetters", "NoClock", "NoBag"] := Al.one al21 t22 ⟨e22, fun dd z => nomatch z⟩
    replace S0 := S0.trans t22
    replace eM := t22 _ _ eM
    replace alM := alM.same t22
    refine ⟨by show 8 ≤ sizeLine; omega, fun L2 n2 => ?_⟩
    have t := same_upd (o := (.lst [V.ref a15, V.ref a16, V.ref a17, V.ref a18, V.ref a19, V.ref a20, V.ref a21, V.ref a22])) n2
    have eL2 : (upd A22 L2 (.lst [V.ref a15, V.ref a16, V.ref a17, V.ref a18, V.ref a19, V.ref a20, V.ref a21, V.ref a22])) L2 = some (.lst [V.ref a15, V.ref a16, V.ref a17, V.ref a18, V.ref a19, V.ref a20, V.ref a21, V.ref a22]) := upd_same
    have alL2 := al22.same t
    replace S0 := S0.trans t
    replace eM := t _ _ eM
    replace alM := alM.same t
    generalize upd A22 L2 (.lst [V.ref a15, V.ref a16, V.ref a17, V.ref a18, V.ref a19, V.ref a20, V.ref a21, V.ref a22]) = B2 at t S0 eL2 alL2 eM alM ⊢
    clear t
    refine ⟨M1, L2, _, _, rfl, rfl, eM, eL2, by show 15 + 8 ≤ sizeLine; omega, fun M2 m2 => ?_⟩
    have t := same_upd (o := .lst (([V.ref a0, V.ref a1, V.ref a2, V.ref a3, V.ref a4, V.ref a5, V.ref a6] ++ [V.ref a7, V.ref a8, V.ref a9, V.ref a10, V.ref a11, V.ref a12, V.ref a13, V.ref a14]) ++ [V.ref a15, V.ref a16, V.ref a17, V.ref a18, V.ref a19, V.ref a20, V.ref a21, V.ref a22])) m2
    have alM2 := (alM.app alL2).same t
    have eM2 : (upd B2 M2 (.lst (([V.ref a0, V.ref a1, V.ref a2, V.ref a3, V.ref a4, V.ref a5, V.ref a6] ++ [V.ref a7, V.ref a8, V.ref a9, V.ref a10, V.ref a11, V.ref a12, V.ref a13, V.ref a14]) ++ [V.ref a15, V.ref a16, V.ref a17, V.ref a18, V.ref a19, V.ref a20, V.ref a21, V.ref a22]))) M2 = some (.lst (([V.ref a0, V.ref a1, V.ref a2, V.ref a3, V.ref a4, V.ref a5, V.ref a6] ++ [V.ref a7, V.ref a8, V.ref a9, V.ref a10, V.ref a11, V.ref a12, V.ref a13, V.ref a14]) ++ [V.ref a15, V.ref a16, V.ref a17, V.ref a18, V.ref a19, V.ref a20, V.ref a21, V.ref a22])) := upd_same
    replace S0 := S0.trans t
    generalize upd B2 M2 (.lst (([V.ref a0, V.ref a1, V.ref a2, V.ref a3, V.ref a4, V.ref a5, V.ref a6] ++ [V.ref a7, V.ref a8, V.ref a9, V.ref a10, V.ref a11, V.ref a12, V.ref a13, V.ref a14]) ++ [V.ref a15, V.ref a16, V.ref a17, V.ref a18, V.ref a19, V.ref a20, V.ref a21, V.ref a22])) = C2 at t S0 eM2 alM2 ⊢
    clear t eM alM
    have eM := eM2
    have alM := alM2
    clear eM2 alM2
    refine ⟨_, rfl, ?_⟩
    refine fun a23 A23 t23 u23 e23 => ?_
    have al23 : Al K A23 [V.ref a23] ["Full"] := Al.one (Paired.nil : Al K C2 [] []) t23 ⟨e23, fun dd z => nomatch z⟩
    replace S0 := S0.trans t23
    replace eM := t23 _ _ eM
    replace alM := alM.same t23
    refine fun a24 A24 t24 u24 e24 => ?_
    have al24 : Al K A24 [V.ref a23, V.ref a24] ["Full", "NothingDone"] := Al.one al23 t24 ⟨e24, fun dd z => nomatch z⟩
    replace S0 := S0.trans t24
    replace eM := t24 _ _ eM
    replace alM := alM.same t24
    refine fun a25 A25 t25 u25 e25 => ?_
    have al25 : Al K A25 [V.ref a23, V.ref a24, V.ref a25] ["Full", "NothingDone", "NoLine"] := Al.one al24 t25 ⟨e25, fun dd z => nomatch z⟩
    replace S0 := S0.trans t25
    replace eM := t25 _ _ eM
    replace alM := alM.same t25
    refine ⟨by show 3 ≤ sizeLine; omega, fun L3 n3 => ?_⟩
    have t := same_upd (o := (.lst [V.ref a23, V.ref a24, V.ref a25])) n3
    have eL3 : (upd A25 L3 (.lst [V.ref a23, V.ref a24, V.ref a25])) L3 = some (.lst [V.ref a23, V.ref a24, V.ref a25]) := upd_same
    have alL3 := al25.same t
    replace S0 := S0.trans t
    replace eM := t _ _ eM
    replace alM := alM.same t
    generalize upd A25 L3 (.lst [V.ref a23, V.ref a24, V.ref a25]) = B3 at t S0 eL3 alL3 eM alM ⊢
    clear t
    refine ⟨M2, L3, _, _, rfl, rfl, eM, eL3, by show 23 + 3 ≤ sizeLine; omega, fun M3 m3 => ?_⟩
    have t := same_upd (o := .lst ((([V.ref a0, V.ref a1, V.ref a2, V.ref a3, V.ref a4, V.ref a5, V.ref a6] ++ [V.ref a7, V.ref a8, V.ref a9, V.ref a10, V.ref a11, V.ref a12, V.ref a13, V.ref a14]) ++ [V.ref a15, V.ref a16, V.ref a17, V.ref a18, V.ref a19, V.ref a20, V.ref a21, V.ref a22]) ++ [V.ref a23, V.ref a24, V.ref a25])) m3
    have alM3 := (alM.app alL3).same t
    have eM3 : (upd B3 M3 (.lst ((([V.ref a0, V.ref a1, V.ref a2, V.ref a3, V.ref a4, V.ref a5, V.ref a6] ++ [V.ref a7, V.ref a8, V.ref a9, V.ref a10, V.ref a11, V.ref a12, V.ref a13, V.ref a14]) ++ [V.ref a15, V.ref a16, V.ref a17, V.ref a18, V.ref a19, V.ref a20, V.ref a21, V.ref a22]) ++ [V.ref a23, V.ref a24, V.ref a25]))) M3 = some (.lst ((([V.ref a0, V.ref a1, V.ref a2, V.ref a3, V.ref a4, V.ref a5, V.ref a6] ++ [V.ref a7, V.ref a8, V.ref a9, V.ref a10, V.ref a11, V.ref a12, V.ref a13, V.ref a14]) ++ [V.ref a15, V.ref a16, V.ref a17, V.ref a18, V.ref a19, V.ref a20, V.ref a21, V.ref a22]) ++ [V.ref a23, V.ref a24, V.ref a25])) := upd_same
    replace S0 := S0.trans t
    generalize upd B3 M3 (.lst ((([V.ref a0, V.ref a1, V.ref a2, V.ref a3, V.ref a4, V.ref a5, V.ref a6] ++ [V.ref a7, V.ref a8, V.ref a9, V.ref a10, V.ref a11, V.ref a12, V.ref a13, V.ref a14]) ++ [V.ref a15, V.ref a16, V.ref a17, V.ref a18, V.ref a19, V.ref a20, V.ref a21, V.ref a22]) ++ [V.ref a23, V.ref a24, V.ref a25])) = C3 at t S0 eM3 alM3 ⊢
    clear t eM alM
    have eM := eM3
    have alM := alM3
    clear eM3 alM3
    generalize ((([V.ref a0, V.ref a1, V.ref a2, V.ref a3, V.ref a4, V.ref a5, V.ref a6] ++ [V.ref a7, V.ref a8, V.ref a9, V.ref a10, V.ref a11, V.ref a12, V.ref a13, V.ref a14]) ++ [V.ref a15, V.ref a16, V.ref a17, V.ref a18, V.ref a19, V.ref a20, V.ref a21, V.ref a22]) ++ [V.ref a23, V.ref a24, V.ref a25]) = XS at eM alM
    replace alM : Al K C3 XS made := alM
    have hlen : XS.length = 26 := Paired.length alM
    generalize C3 = G at S0 eM alM ⊢
    generalize M3 = M at eM ⊢
    -- the walk
    refine ⟨_, rfl, M, rfl, ⟨_, SqL.of eM⟩, ?_⟩
    refine for_it (walk_list (xs := XS)) (fun i σ H' => (∃ v5 v6 v7 : Option V, σ = [some (.ref sa), some (.ref h), some x, some y, some (.ref M), v5, v6, v7]) ∧ Same G H')
      ⟨⟨none, none, none, rfl⟩, Same.refl G⟩ (fun i σ H' _ hP => SqL.of (hP.2 _ _ eM)) ?_ ?_
    · rintro i e σ G1 G1' hi ⟨⟨v5, v6, v7, rfl⟩, z1⟩ ⟨rfl, ex⟩
      obtain ⟨a, n, d, rfl, en, he⟩ := (alM.same z1).at ex
      obtain ⟨hn, hc⟩ := made_ok n (List.mem_of_getElem? en)
      refine ⟨_, rfl, a, He.ga K n, d, _, .ref (He.ga K "BagError"), true, rfl, he, x_cls T hn, fun _ z => z, (x_kit T hn (m := "BagError") (by decide +kernel)).trans (by rw [decide_eq_true (rfl : ("BagError" : Str) = "BagError"), Bool.or_true]), true, rfl, iteF ?_⟩
      refine ⟨_, rfl, a, He.ga K n, d, _, .type "ValueError", true, rfl, he, x_cls T hn, fun _ z => z, x_ve T hn, true, rfl, iteF ?_⟩
      refine ⟨_, rfl, a, n, d, rfl, hn, he, fun p G2 s2 np e2 => ?_⟩
      refine ⟨.inl ⟨rfl, _, SqL.of e2⟩, p, kinds n, true, rfl, rfl, SqL.of e2, ?_⟩
      rw [hc]
      refine ⟨rfl, _, rfl, iteF ?_⟩
      exact ⟨⟨_, _, _, rfl⟩, z1.trans s2⟩
    rintro σ G1 ⟨⟨v5, v6, v7, rfl⟩, z1⟩
    replace eM := z1 _ _ eM
    replace vx3 := (vx3.same S0).same z1
    replace vy := (vy.same S0).same z1
    refine ⟨_, rfl, .ref M, 26, rfl, .inl ⟨XS, .inl (.inl eM), hlen.symm⟩, rfl, _, rfl, iteF ?_⟩
    refine fun a G2 t2 u2 e2 => ⟨a, "BagError", none, rfl, by decide +kernel, ⟨e2, fun dd z => nomatch z⟩, fun p G3 t3 u3 e3 => ⟨p, _, rfl, .inl (SqL.of e3), rfl, kinds0.2, ?_⟩⟩
    refine ⟨_, rfl, ?_⟩
    rw [if_neg Bool.false_ne_true, kinds0.1]
    refine iteF ?_
    refine fun a4 G4 t4 u4 e4 => ⟨a4, He.ga K "BagError", none, _, .type "ValueError", true, rfl, ⟨e4, fun dd z => nomatch z⟩, x_cls T (by decide +kernel), fun _ z => z, x_ve T (by decide +kernel), true, rfl, iteF ?_⟩
    have S4 := (t2.trans t3).trans t4
    replace vx3 := vx3.same S4
    replace vy := vy.same S4
    refine ⟨_, rfl, _, rfl, x, y, rfl, vx3, vy, fun p5 G5 t5 u5 e5 => ⟨by show 3 ≤ sizeLine; omega, fun p6 u6 => ?_⟩⟩
    have t6 := same_upd (o := .lst [.bl true, .bl true, .bl true]) u6
    have e6 : (upd G5 p6 (.lst [.bl true, .bl true, .bl true])) p6 = some (.lst [.bl true, .bl true, .bl true]) := upd_same
    replace e5 := t6 _ _ e5
    replace vx3 := (vx3.same t5).same t6
    generalize upd G5 p6 (.lst [.bl true, .bl true, .bl true]) = G6 at e5 e6 vx3 t6 ⊢
    refine ⟨_, _, .lst (SqL.of e5) (.cons (.bl true) (.cons (.bl true) (.cons (.bl true) .nil))), .lst (SqL.of e6) (.cons (.bl true) (.cons (.bl true) (.cons (.bl true) .nil))), by decide +kernel, by decide +kernel, ?_⟩
    refine ⟨_, rfl, ?_⟩
    rw [show (!PyData.eqv (.list [.bool true, .bool true, .bool true]) (.list [.bool true, .bool true, .bool true])) = false by decide +kernel]
    refine iteF ?_
    refine ⟨_, rfl, fun b0 dx0 F0 t0 u0 e0 g0 => ⟨b0, He.ga K "BadBag", dx0, _, x, rfl, e0, g0, (x_cls T (n := "BadBag") (by decide +kernel)).xf, x_no T m_BadBag, rfl, ?_⟩⟩
    replace vx3 := vx3.same t0
    refine ⟨_, rfl, fun b1 dx1 F1 t1 u1 e1 g1 => ⟨b1, He.ga K "TooLong", dx1, _, x, rfl, e1, g1, (x_cls T (n := "TooLong") (by decide +kernel)).xf, x_no T m_TooLong, rfl, ?_⟩⟩
    replace vx3 := vx3.same t1
    refine ⟨_, rfl, fun b2 dx2 F2 t2 u2 e2 g2 => ⟨b2, He.ga K "BadText", dx2, _, x, rfl, e2, g2, (x_cls T (n := "BadText") (by decide +kernel)).xf, x_no T m_BadText, rfl, ?_⟩⟩
    replace vx3 := vx3.same t2
    refine ⟨_, rfl, fun b3 dx3 F3 t3 u3 e3 g3 => ⟨b3, He.ga K "NoName", dx3, _, x, rfl, e3, g3, (x_cls T (n := "NoName") (by decide +kernel)).xf, x_no T m_NoName, rfl, ?_⟩⟩
    replace vx3 := vx3.same t3
    refine ⟨by show 4 ≤ sizeLine; omega, fun L n => ?_⟩
    replace vx3 := vx3.same (same_upd (o := .lst [x, x, x, x]) n)
    have eL : (upd F3 L (.lst [x, x, x, x])) L = some (.lst [x, x, x, x]) := upd_same
    generalize upd F3 L (.lst [x, x, x, x]) = GF at vx3 eL ⊢
    refine ⟨_, rfl, L, rfl, ⟨_, SqL.of eL⟩, fun D hD => ?_⟩
    refine lc_it (walk_list (xs := [x, x, x, x])) (fun i H' => H' D = some (.lst ((List.replicate i true).map V.bl)) ∧ Same GF H') ⟨upd_same, same_upd hD⟩ (fun i H' _ hP => SqL.of (hP.2 _ _ eL)) ?_ ?_
    · rintro i e K1 K2 hi ⟨p1, p2⟩ ⟨rfl, ex⟩
      have hi : i < 4 := hi
      have exx : e = x := by
        match i, ex with
        | 0, e => exact (Option.some.inj e).symm
        | 1, e => exact (Option.some.inj e).symm
        | 2, e => exact (Option.some.inj e).symm
        | 3, e => exact (Option.some.inj e).symm
      subst exx
      refine ⟨rfl, ?_⟩
      refine ⟨_, rfl, _, rfl, e, rfl, vx3.same p2, ?_⟩
      refine ⟨_, p1, ?_, ?_, ?_⟩
      · rw [List.length_map, List.length_replicate]
        omega
      · rw [upd_same, List.replicate_succ', List.map_append]
        rfl
      · intro b o z
        rw [upd_ne (ne_of_none z hD)]
        exact p2 b o z
    · rintro H' ⟨p1, p2⟩
      refine ⟨D, List.replicate 4 true, rfl, SqL.of p1, ?_⟩
      exact q _
end
end Fp

set_option Elab.async false
set_option linter.all false
set_option maxRecDepth 100000
set_option maxHeartbeats 8000000
open PySem PySem.W PySem.Calls PyProof.Rows
theorem PySem.Challenge.cw_frontparts_k07_errors_of_the_package_holds : PySem.Challenge.rw_frontparts_k07_errors_of_the_package.Holds := by
  w_on; o_law
  refine HandSHeadRun.head_any (r := OpenLaw.row PySem.Challenge.rw_frontparts_k07_errors_of_the_package) (q := view (OpenLaw.row PySem.Challenge.rw_frontparts_k07_errors_of_the_package).prog [35]) (H := Fp.hk) (ob := Fp.ob) (M := 20000) (loose := Fp.loose) (d := HandSHeadRun.topDef (OpenLaw.row PySem.Challenge.rw_frontparts_k07_errors_of_the_package).prog 35) (kwd := []) Fp.ob_eq
    (by kernel_rfl) (fun s => by kernel_rfl) Fp.run (by kernel_rfl) (by kernel_rfl) (by kernel_rfl) (by rfl) (by first | assumption | decide +kernel) (by decide +kernel) ⟨rfl, rfl, rfl, rfl, rfl, by decide +kernel⟩ ?hw ?hc
  case hw => w_witness2
  case hc =>
    refine L2.walk_ofE (l := PySem.Challenge.rw_frontparts_k07_errors_of_the_package) (n := 63) (k := 5) (x := "_law_script") (CX := L2.CX0) rfl (by decide) (by kernel_rfl) ⟨rfl, by decide, by decide⟩ ?F (fun _ _ _ _ z => z)
    intro w mg fa h Y G hmg0
    obtain ⟨K, KX, c⟩ := Y
    have hmg : mg ("law" : PySem.Str) = some (.ref fa) := by
      have e : (HandSHeadRun.topDef (OpenLaw.row PySem.Challenge.rw_frontparts_k07_errors_of_the_package).prog 35).name = ("law" : PySem.Str) := by kernel_rfl
      rw [← e]
      exact hmg0
    have T := Fp.top_of KX G c
    obtain ⟨fd, F⟩ := Fp.fn_law T
    have e := hmg.symm.trans (Fp.g_law T)
    cases e
    have b := L2.FunD.bindsA (ps := ["_law_script"]) F fun _ _ _ _ _ _ us hl => match us, hl with | [_], _ => rfl
    exact ⟨K, fd, Fp.spLaw K, KX, fun s v => b s [v] rfl, fun H a ns hl _ hS => ⟨a, ns, rfl, hS, fun _ => rfl⟩, fun base _ _ => Fp.ok_law T F⟩
