import PyProof.Rows.All
import Wide.All
import OpenK.AllK
import Wide.FinOn
import HandS.ForMost
import HandS.More
import HandS.OwnEq
import HandS.IsInst
import HandS.WordsExc
import HandS.Defaults
import HandS.SortKw
import KE.SortData
import KE.SortKeyHeap
import HandS.StrMore
import HandS.Walk
import HandS.Style
import KE.KDictPairs
import HandS.HeadHook1
import HandS.HeadHook2
import HandS.HeadHook3
import HandS.HeadHook4
import KE.KExcIs
import HandS.ExcInit
import HandS.ExcIs
import HandS.ExcField
import HandS.ExcValue
import HandS.DeepEq
import HandS.HotCalls
import Wide.Once
import KE.KStateDown
import Lean
import HandS.Head0
import HandS.Head1
import HandS.Head2
import HandS.Head3
import HandS.HeadEnd
import KE.DataEq
import PyProof.ReprRoads
import KE.KLam
import HandS.Lambda
import HandS.NestedK
import HandS.TryOnly
import PyProof.ReprLen
import HandS.Text
import PyProof.MeetsStr3
import HandS.Codes
import HandS.FStr
import KE.KRevSl
import HandS.DictComp
import PyProof.StrLawsTight
import PyProof.StrLawsChain
import HandS.TryMany
import HandS.EndTab
import PySem.Challenge.RW_frontparts_k84_wrong_lines_of_rows
set_option Elab.async false
set_option linter.all false
set_option maxRecDepth 100000
set_option maxHeartbeats 2000000
/-! == and != of an instance by an own __eq__, whatever stands at the right -/
namespace Fp
open PySem PySem.Spec PyProof.Rows PySem.SeqAt
section
variable {M : Model} {prog : Program} {w : World} {A : Around} {E : Value → Shared → Prop} {s : Shared} {K : PySem.W.Frag} {x C f : Addr} {ox : Obj} {od : Option Obj} {b tb : Value}
theorem ifBound_objNe {args : List Value} {Q : Option Value → Shared → Prop} (X : K.In s.heap) (I : PySem.W.InstAt s.heap x ox C od) (hs : PySem.W.findIn K (.ref C) "__ne__" = some (some (.builtin "object.__ne__")))
    (h : wpAny M A (call (.builtin "object.__ne__") (.ref x :: args)) (fun v => Q (some v)) E s) : wpAny M A (callSpecialIfBound? (.ref x) "__ne__" args) Q E s := by
  simp only [callSpecialIfBound?, bindSpecialIfBound?]
  refine wpAny_holding (wpAny_bind (wpAny_bind (wpAny_bind (I.type.here ((PySem.W.looks_findIn X hs).here ?_)))))
  refine wpAny_bind (wpAny_askSetting (wpAny_ite ?_))
  have fin : wpAny M A (call (.builtin "object.__ne__") ([.ref x] ++ args) >>= fun v => pure (some v)) Q E s := wpAny_bind (wpAny_mono h (fun v s' h' => wpAny_pure h') fun _ _ h' => h')
  split
  · exact wpAny_bind (wpAny_of_eq (F.cmp_object.ne.bind _) (wpAny_pure (by exact fin)))
  · exact wpAny_tryCatch (wpAny_bind (wpAny_of_eq (F.cmp_object.ne.bind _) (wpAny_pure (by exact fin))))
theorem entry_ne {Q : Fin → Shared → Prop} (hu : A.units < cLine) (X : K.In s.heap) (I : PySem.W.InstAt s.heap x ox C od) (hs : PySem.W.findIn K (.ref C) "__eq__" = some (some (.ref f))) (hf : PySem.W.isFn K (.ref f) = true)
    (hcall : wpAny (model prog w) A (call (.ref f) [.ref x, b]) (fun v s' => ∃ r, v = .bool r ∧ Q (.done (.ret (.bool (!r)))) s') E s) :
    wpAny (model prog w) A (Builtin.«object.__ne__» ⟨[.ref x, b], []⟩) Q E s := by
  unfold Builtin.«object.__ne__»
  repeat (first
    | with_reducible refine wpAny_cRoomFor hu ?_
    | (refine wpAny_bind (m := callSpecialIfBound? (.ref x) (Str.ofString "__eq__") [b])
        (PySem.W.ifBound_K X I hs hf (wpAny_mono hcall (fun r s' hr => by
          obtain ⟨b, rfl, hq⟩ := hr
          repeat (first | exact hq | exact wpAny_pure hq | exact wpAny_truthy_bool hq | (refine wpAny_bind (m := truthy (.bool _)) (wpAny_truthy_bool ?_)) | wp_step)) fun _ _ e => e)))
    | wp_step)
theorem cmpNe_K {Q : Value → Shared → Prop} (hu : A.units + 1 < cLine) (X : K.In s.heap) (I : PySem.W.InstAt s.heap x ox C od) (hb : PySem.W.Looks (model prog w) s.heap (typeOf b) tb) (hn : PySem.W.notFirst K C tb = true)
    (hne : PySem.W.findIn K (.ref C) "__ne__" = some (some (.builtin "object.__ne__"))) (hs : PySem.W.findIn K (.ref C) "__eq__" = some (some (.ref f))) (hf : PySem.W.isFn K (.ref f) = true) (hm : PySem.W.mroIn K C (.type "object") = some true)
    (h : wpAny (model prog w) A.in1 (call (.ref f) [.ref x, b]) (fun v s' => ∃ r, v = .bool r ∧ Q (.bool (!r)) s') E s) : wpAny (model prog w) A (richCompare .NotEq (.ref x) b) Q E s := by
  have one : wpAny (model prog w) A (tryCompare (.ref x) "__ne__" b) (fun r s' => ∃ v, r = some v ∧ Q v s') E s := by
    unfold tryCompare
    refine wpAny_bind (ifBound_objNe X I hne ?_)
    refine wpAny_call (codeAny_call_builtin F.cmp_object.ne.plain F.cmpEntry_ne (PySem.W.check_slot F.cmpKind_ne F.cmpSplit_ne (I.type.andThen (PySem.W.looks_mroIn X hm)) (F.cmpArgs_ne _ _)
      (entry_ne (A := A.in1) (show A.in1.units < cLine from hu) X I hs hf (wpAny_mono h (fun v s' hv => ?_) fun _ _ e => e))))
    obtain ⟨r, rfl, hq⟩ := hv
    exact ⟨r, rfl, wpAny_pure ⟨_, rfl, hq⟩⟩
  unfold richCompare
  simp only [oneThing_ref]
  refine wpAny_holding (wpAny_bind (wpAny_cRoomFor (Nat.lt_of_succ_lt hu) ?_))
  rw [show cmpInfo .NotEq = (("!=", "__ne__", "__ne__") : String × Str × Str) from rfl]
  dsimp only
  refine wpAny_bind (I.type.here (wpAny_bind (hb.here ?_)))
  split
  · rename_i q
    have e : PySem.W.subIn K tb (.ref C) = some false := by
      rcases Bool.or_eq_true_iff.mp hn with e | e
      · rw [beq_iff_eq.mp e] at q; simp at q
      · exact beq_iff_eq.mp e
    refine wpAny_bind ((PySem.W.looks_subIn X e).here ?_)
    simp only [Bool.false_eq_true, if_false]
    refine wpAny_bind (wpAny_mono one (fun r s' z => ?_) fun _ _ e => e)
    obtain ⟨v, rfl, hq⟩ := z
    exact wpAny_pure hq
  · refine wpAny_bind (wpAny_pure ?_)
    simp only [Bool.false_eq_true, if_false]
    refine wpAny_bind (wpAny_mono one (fun r s' z => ?_) fun _ _ e => e)
    obtain ⟨v, rfl, hq⟩ := z
    exact wpAny_pure hq
end
end Fp
namespace L2
open PySem PySem.Spec PyProof.Rows
def rOwnEq (K : PySem.W.Frag) (C : Addr) (sp : Sp) : R2 := fun x y H Q => ∃ a dx fs t, x = .ref a ∧ H a = some (.ins C dx fs) ∧ TyX K H y t ∧ PySem.W.notFirst K C t = true ∧ sp [x, y] H (fun v H' => ∃ r, v = .bl r ∧ Q (.bl r) H') (fun _ _ _ => False)
def rOwnNe (K : PySem.W.Frag) (C : Addr) (sp : Sp) : R2 := fun x y H Q => ∃ a dx fs t, x = .ref a ∧ H a = some (.ins C dx fs) ∧ TyX K H y t ∧ PySem.W.notFirst K C t = true ∧ sp [x, y] H (fun v H' => ∃ r, v = .bl r ∧ Q (.bl (!r)) H') (fun _ _ _ => False)
section
variable {X : Cx} {C f : Addr} {fd : FuncData} {ps : List Str} {sp : Sp} {n : Nat}
theorem op_ownEq (F : FnOk X.prog X.w X.K X.mg X.base CX0 n f fd ps sp) (hs : PySem.W.findIn X.K (.ref C) "__eq__" = some (some (.ref f))) (hf : PySem.W.isFn X.K (.ref f) = true) (hb : Binds X.K fd ps []) (hr : Room n X.A) :
    OpR X (compareOp .Eq) (rOwnEq X.K C sp) := by
  intro pins s σ H x y v u Q I rx ry hq
  obtain ⟨a, dx, fs, t, rfl, ha, ty, hn, hsp⟩ := hq
  cases rx
  obtain ⟨mA, J, _⟩ := ins_get I.hok ha
  obtain ⟨od, J, _⟩ := J.look
  obtain ⟨P, Z, p, _⟩ := kit_of I ry ty
  obtain ⟨m, hF⟩ := I.fr
  show wpAny (model X.prog X.w) X.A (richCompare .Eq _ u) (EP X pins σ Q) X.xe s
  refine PySem.W.cmp_K (op := .Eq) (tb := t) hr.units0 hF I.ok.mod.kin J (Z.ty _ _ I.kIn p) hn hs hf ?_
  have hl := F.len _ _ _ _ hsp
  have r2 : Vals [V.ref a, y] [Value.ref a, u] := .cons rfl (.cons ry .nil)
  refine wpAny_call (codeAny_mono (F.run X.A X.stack s H ⟨[.ref a, u], []⟩ [.ref a, u] [.ref a, y] _ (fun _ _ _ => False) hr I.env0 (by
    have := hb s [.ref a, u] I.kIn (by simpa using hl)
    simpa using this) r2 hsp) fun r s' hq => ?_)
  cases r with
  | error e => exact pass0 pins σ H s e s' I hq
  | ok fl =>
    cases fl with
    | ret w =>
      obtain ⟨z, H', I', rz, r, ez, q⟩ := I.after hq
      subst ez
      cases rz
      exact ⟨.bl r, H', I', rfl, q⟩
    | next => exact False.elim hq
    | brk => exact False.elim hq
    | cont => exact False.elim hq
theorem op_ownNe (F : FnOk X.prog X.w X.K X.mg X.base CX0 n f fd ps sp) (hne : PySem.W.findIn X.K (.ref C) "__ne__" = some (some (.builtin "object.__ne__"))) (hs : PySem.W.findIn X.K (.ref C) "__eq__" = some (some (.ref f))) (hf : PySem.W.isFn X.K (.ref f) = true)
    (hm : PySem.W.mroIn X.K C (.type "object") = some true) (hb : Binds X.K fd ps []) (hr : Room (n + 1) X.A) :
    OpR X (compareOp .NotEq) (rOwnNe X.K C sp) := by
  intro pins s σ H x y v u Q I rx ry hq
  obtain ⟨a, dx, fs, t, rfl, ha, ty, hn, hsp⟩ := hq
  cases rx
  obtain ⟨mA, J, _⟩ := ins_get I.hok ha
  obtain ⟨od, J, _⟩ := J.look
  obtain ⟨P, Z, p, _⟩ := kit_of I ry ty
  show wpAny (model X.prog X.w) X.A (richCompare .NotEq _ u) (EP X pins σ Q) X.xe s
  have hu : X.A.units + 1 < cLine := hr.in1.units0
  refine Fp.cmpNe_K (tb := t) hu I.kIn J (Z.ty _ _ I.kIn p) hn hne hs hf hm ?_
  have hl := F.len _ _ _ _ hsp
  have r2 : Vals [V.ref a, y] [Value.ref a, u] := .cons rfl (.cons ry .nil)
  refine wpAny_call (codeAny_mono (F.run X.A.in1 X.stack s H ⟨[.ref a, u], []⟩ [.ref a, u] [.ref a, y] _ (fun _ _ _ => False) hr.in1 I.env0.in1 (by
    have := hb s [.ref a, u] I.kIn (by simpa using hl)
    simpa using this) r2 hsp) fun r s' hq => ?_)
  cases r with
  | error e => exact pass0 pins σ H s e s' I hq
  | ok fl =>
    cases fl with
    | ret w =>
      obtain ⟨z, H', I', rz, r, ez, q⟩ := I.after hq
      subst ez
      cases rz
      exact ⟨r, rfl, .bl (!r), H', I', rfl, q⟩
    | next => exact False.elim hq
    | brk => exact False.elim hq
    | cont => exact False.elim hq
end
end L2

set_option Elab.async false
set_option linter.all false
set_option maxRecDepth 100000
set_option maxHeartbeats 2000000
/-! sorted(d, key=rank_of) of a dict of texts; sorted of tuples of an int and a text -/
namespace Fp
open PySem PySem.W PySem.Spec PyProof.Rows
/-- a word's rank -/
def rk (w : Str) : PyData := .tuple [.int (-(w.length : Int)), .str w]
def leR : Str → Str → Bool := dataLe false rk
def rkA (p : Pos) : Arguments := { posonlyargs := [], args := [{ arg := "word", annotation := none, pos := p }], vararg := none, kwonlyargs := [], kw_defaults := [], kwarg := none, defaults := [] }
def rkB (p1 p2 p3 p4 p5 p6 p7 : Pos) : List Stmt := [.Return (some (.Tuple [.UnaryOp .USub (.Call (.Name "len" p1) [.Name "word" p2] [] p3) p4, .Name "word" p5] 0 p6)) p7]
def rkS : Scope := { kind := .function, names := [(PySem.Str.ofString "word", .local), (PySem.Str.ofString "len", .globalImplicit)], isGenerator := false, isCoroutine := false, more := [] }
theorem ldC {M : Model} {s : Shared} {name : Str} {scope : Scope} {L a : Addr} {cd : Value} {m : Str → Option Value} {x : Str} {pos : Pos} {v : Value} {Q : Value → Shared → Prop} {A : Around} {E : Value → Shared → Prop} (hn : s.heap.Ns L m) (hv : m x = some v) (h : Q v s)
    (hk : scope.kind = .function := by rfl) (hl : (envOfC name scope L a cd).kindOf x = some .local := by rfl) (hd : (x == ("__debug__" : Str)) = false := by decide) :
    wpAny M A (eval (.Name x pos) (envOfC name scope L a cd)) Q E s := wpAny_Name (wpAny_loadName_local hk hl hn hv h) hd
section
variable {prog : Program} {w : World} {A : Around} {E : Value → Shared → Prop} {s : Shared} {K : Frag} {mg : Str → Option Value} {base : Heap} {fR : Addr} {fd : FuncData} {p0 p1 p2 p3 p4 p5 p6 p7 : Pos}
theorem rank_call (F : L2.FunD K "rank_of" "rank_of" (rkA p0) (rkB p1 p2 p3 p4 p5 p6 p7) rkS [] [] fR fd) (Mo : L2.Mod K mg base) (kb : ∀ b o, base.get? b = some o → s.heap.get? b = some o) (hlen : mg "len" = none) (hroom : A.depth + 1 < recursionLimit)
    {w0 : Str} {t : Tok} (hw : w0.length ≤ sizeLine) : wpAny (model prog w) A (call (.ref fR) [.str w0 t]) (KeyPure (rk w0) s) E s := by
  obtain ⟨oc, od, dV, kV, doc, pm, an, cdv, ct, osl, rfl, lk, hcd, hD, _⟩ := F.ex
  obtain rfl : dV = .none := by
    rcases hD with ⟨_, e⟩ | ⟨e, _⟩
    · exact e
    · exact absurd rfl e
  have X : K.In s.heap := Mo.kin.keeps kb
  refine wpAny_call (Att.call_fn (binds := [("word", .str w0 t)]) X (Mo.nolimit.keeps kb) lk hcd (Nat.lt_of_succ_lt hroom) (BindsTo.of_eq (by first | rfl | with_unfolding_all rfl)) (by first | rfl | decide | with_unfolding_all rfl) (fun s₁ IC => ?_) rfl rfl rfl)
  obtain ⟨h₁, tk₁, rfl⟩ := IC.toInCall.same
  have k : ∀ b o, s.heap.get? b = some o → h₁.get? b = some o := IC.toInCall.keep
  have hn := IC.toInCall.ns
  obtain ⟨mb, b1, b2⟩ := Mo.blt
  show wpAny _ _ (execs _ _) _ _ _
  refine wpAny_execs_cons (wpAny_Return_some (wpAny_Tuple_spliced ?_))
  show wpAny _ _ (spliced ((false, eval _ _) :: backTo p6 (starEach [_] _))) _ _ _
  refine Calls.spliced_cons (wpAny_UnaryOp ?_)
  refine wpAny_Call_Name_kw (Calls.Name_function_global rfl rfl (Calls.loadGlobal_builtin (Mo.glob.keeps fun b o e => k b o (kb b o e)) hlen (b1.keeps fun b o e => k b o (kb b o e)) ((b2 "len" (by decide)).trans boot_len) ?_) (by decide))
  refine callWith_builtin1 (spliced_more (ldC (v := .str w0 t) hn (by first | rfl | with_unfolding_all rfl | kernel_rfl) (spliced_none ?_))) rfl rfl
  have hs : sizeLine = 16777216 := sizeLine_eq
  have hl63 := L2.line63
  refine len_str (by omega) (neg_int ?_)
  show wpAny _ _ (spliced ((false, eval _ _) :: backTo p6 (starEach [] _))) _ _ _
  refine Calls.spliced_cons (ldC (v := .str w0 t) hn (by first | rfl | with_unfolding_all rfl | kernel_rfl) (Calls.spliced_nil ?_))
  refine ⟨by show 2 ≤ sizeLine; rw [sizeLine_eq]; decide, ?_⟩
  refine ⟨_, _, rfl, fun b o e => Heap.get?_push_of_some _ (k b o e), ?_⟩
  exact Reads.tuple (Heap.get?_push_size _ rfl) rfl rfl (by
    first
    | exact ReadsAll.cons (Reads.int _ _) (ReadsAll.cons (Reads.str _ _) ReadsAll.nil)
    | (have := ReadsAll.cons (h := Heap.push h₁ _) (Reads.int (-(w0.length : Int)) _) (ReadsAll.cons (Reads.str w0 t) ReadsAll.nil); simpa using this))
end
theorem alike_rk (a b : Str) : alike (rk a) (rk b) = true := by simp [rk, alike, alikeAll]
theorem rk_all (ws : List Str) : AllAlike (ws.map rk) := AllAlike.of alike_rk
theorem rk_sortable (ws : List Str) : Sortable (ws.map rk) := Sortable.tuples fun _ => ⟨_, _, rfl⟩
theorem rk_depth (w : Str) : (rk w).depth ≤ 2 := by simp [rk, PyData.depth, PyData.depthAll]
theorem vals_strs : ∀ {us : List Value} {ws : List Str}, EachIs (fun v w => ∃ t, v = Value.str w t) us ws → L2.Vals (ws.map L2.V.str) us
  | _, _, .nil => .nil
  | _, _, .cons h t => .cons h (vals_strs t)
theorem strs_each : ∀ {us : List Value} {ks : List Str}, us.length = ks.length → (∀ (j : Nat) (v : Value), us[j]? = some v → ∃ (x : Str) (t : Tok), ks[j]? = some x ∧ v = Value.str x t) → EachIs (fun v w => ∃ t, v = Value.str w t) us ks
  | [], [], _, _ => .nil
  | u :: us, k :: ks, hl, h => by
    obtain ⟨x, t, e1, e2⟩ := h 0 u rfl
    have e1' : k = x := Option.some.inj e1
    subst e1'
    refine .cons ⟨t, e2⟩ (strs_each (by simpa using hl) fun j v e => ?_)
    obtain ⟨x, t, a, b⟩ := h (j + 1) v (by simpa using e)
    exact ⟨x, t, by simpa using a, b⟩
  | [], _ :: _, hl, _ => by simp at hl
  | _ :: _, [], hl, _ => by simp at hl
/-- a pair of an int and a text, at an address -/
abbrev IS : Type := Addr × Int × Str
def enIS (p : IS) : PyData := .tuple [.int p.2.1, .str p.2.2]
def leIS : IS → IS → Bool := dataLe false enIS
theorem is_all (ws : List IS) : AllAlike (ws.map enIS) := AllAlike.of fun a b => by simp [enIS, alike, alikeAll]
theorem is_sortable (ws : List IS) : Sortable (ws.map enIS) := Sortable.tuples fun _ => ⟨_, _, rfl⟩
theorem is_depth (w : IS) : (enIS w).depth ≤ 2 := by simp [enIS, PyData.depth, PyData.depthAll]
theorem refs_each : ∀ {ps : List IS} {us : List Value}, L2.Vals (ps.map fun p => L2.V.ref p.1) us → EachIs (fun v p => v = Value.ref p.1) us ps
  | [], _, h => by cases h; exact .nil
  | p :: ps, _, h => by
    cases h with
    | cons r t => exact .cons r (refs_each t)
theorem each_refs : ∀ {us : List Value} {ps : List IS}, EachIs (fun v p => v = Value.ref p.1) us ps → L2.Vals (ps.map fun p => L2.V.ref p.1) us
  | _, _, .nil => .nil
  | _, _, .cons h t => .cons h (each_refs t)
end Fp
namespace L2
open PySem PySem.Spec PyProof.Rows
def rSortRk (fR : Addr) : List V → List V → Hp → VK → Prop := fun vs zs H Q => ∃ (a : Addr) (kvs : List (Key × V)) (ws : List Str), vs = [.ref a] ∧ zs = [.ref fR] ∧ Rd H a (.dK kvs) ∧ kvs.map (·.1) = ws.map Sum.inr ∧ (∀ w ∈ ws, w.length ≤ sizeLine) ∧
  ∀ p, H p = none → Q (.ref p) (upd H p (.lst ((ws.mergeSort Fp.leR).map V.str)))
section
variable {X : Cx} {fR : Addr} {fd : FuncData} {p0 p1 p2 p3 p4 p5 p6 p7 : Pos}
/-- sorted(d, key=rank_of) -/
theorem cr_sortRk (hcalm : X.calm = true) (F : FunD X.K "rank_of" "rank_of" (Fp.rkA p0) (Fp.rkB p1 p2 p3 p4 p5 p6 p7) Fp.rkS [] [] fR fd) (hlen : X.mg "len" = none) (hr : Room 1 X.A) : CallRK X (.builtin "sorted") [Str.ofString "key"] (rSortRk fR) := by
  intro pins s σ H vs zs us ws Q I r rz h
  obtain ⟨a, kvs, ks, rfl, rfl, hd, hks, hwl, q⟩ := h
  obtain rfl := Vals.ref1 r
  obtain ⟨w1, rfl, e1⟩ := vals1 rz
  obtain rfl : w1 = Value.ref fR := e1
  obtain ⟨z, lo, vs, rel, dd⟩ := dk_rd I.hok hd
  obtain ⟨ep, hat⟩ := dd.dictAt
  have hkeys : vs.map (·.1) = ks.map Sum.inr := rel.keys.symm.trans hks
  have hl : vs.length = ks.length := by
    have e := congrArg List.length hkeys
    rw [List.length_map, List.length_map] at e
    exact e
  have hlk : kvs.length = ks.length := by
    have e := congrArg List.length hks
    rw [List.length_map, List.length_map] at e
    exact e
  have h16 : vs.length ≤ sizeLine := by rw [hl, ← hlk]; exact z
  refine PyProof.Rows.call_function_entry_kw PyProof.Rows.kind_sorted PyProof.Rows.plain_sorted PyProof.Rows.entry_sorted (PyProof.Rows.ksk_s1 _ _) ?_
  unfold Builtin.«sorted»
  refine wpAny_bind (m := checkCount "sorted" 1 1 _) (wpAny_pure ?_)
  refine wpAny_bind (PySem.W.kdu_collect (A := X.A.in1) (PySem.W.kdl_dict (knd := mixKind X.prog X.w) (kvs := vs) (ep := ep) lo) (I.ok.hd hcalm) hat h16 fun h' tk acc hk hacc => ?_)
  have hal : acc.toList.length = ks.length := by rw [Array.length_toList, hacc.1, hl]
  have hS : PySem.W.EachIs (fun v w => ∃ t, v = Value.str w t) acc.toList ks := Fp.strs_each hal fun j v e => by
    obtain ⟨k, x, e1, e2⟩ := hacc.2 j v (by rw [← Array.getElem?_toList]; exact e)
    have e3 : (vs.map (·.1))[j]? = some k := by rw [List.getElem?_map, e1]; all_goals rfl
    rw [hkeys, List.getElem?_map] at e3
    cases e4 : ks[j]? with
    | none => rw [e4] at e3; cases e3
    | some y =>
      rw [e4] at e3
      have e5 : Sum.inr y = k := Option.some.inj e3
      subst e5
      obtain ⟨t, ev⟩ := Value.isStrOf_shape (x := y) (v := v) e2
      exact ⟨y, t, rfl, ev⟩
  have I1 : Inv X pins σ H { s with heap := h', toks := tk } := I.kept hk
  refine wpAny_bind (wpAny_newList ?_ (by rw [hal, ← hlk]; exact z))
  have hoL : (h'.push (seqObj "list" acc.toList.toArray 0)).get? h'.objs.size = some (seqObj "list" acc.toList.toArray 0) := Heap.get?_push_size _ rfl
  show wpAny _ _ _ _ _ { s with heap := h'.push (seqObj "list" acc.toList.toArray 0), toks := tk }
  refine wpAny_bind (wpAny_holding (wpAny_call_entry_kw slot_list_sort ⟨_, hoL, rfl⟩ entry_list_sort ?body (PyProof.Rows.ksk_l1 _ _)))
  case body =>
    show wpAny (model X.prog X.w) X.A.in1.in1 (Builtin.«list.sort» ⟨[.ref h'.objs.size], [(Str.ofString "key", .ref fR)]⟩) _ _ _
    rw [ksk_t1]
    have hun := hr.un
    have hdp := hr.dp
    refine PySem.W.keyH_tree (kz := ks.map Fp.rk) (s := { s with heap := h'.push (seqObj "list" acc.toList.toArray 0), toks := tk }) hoL (by rw [List.length_map]; exact hal.symm) (by rw [hal, ← hlk]; exact z) (Fp.rk_all ks) (Fp.rk_sortable ks)
      (fun d hd => by
        obtain ⟨w, _, rfl⟩ := List.mem_map.mp hd
        have := Fp.rk_depth w
        show X.A.units + 1 + 1 + _ < _
        omega)
      (PySem.W.keyH_turns (s := { s with heap := h'.push (seqObj "list" acc.toList.toArray 0), toks := tk }) hS fun v x hR hx h tk2 kp => ?_) fun h2 tk2 out c kp hD ko => ⟨_, rfl, ?_⟩
    · obtain ⟨t, rfl⟩ := hR
      refine Fp.rank_call (s := { s with heap := h, toks := tk2 }) F I.ok.mod (fun b o e => ?_) hlen ?_ (hwl x hx)
      · have e1 : s.heap.get? b = some o := I.bk b o e
        have e2 : h'.get? b = some o := hk b o e1
        exact kp b o (Nat.ne_of_lt (Heap.lt_size e2)) (Heap.get?_push_of_some _ e2)
      · show X.A.depth + 1 < _
        omega
    · have ev := PySem.W.keyedOut_each Fp.rk ko hS
      have hlen2 : ((ks.mergeSort Fp.leR).map V.str).length ≤ sizeLine := by
        rw [List.length_map, List.length_mergeSort, ← hlk]
        exact z
      refine wpAny_pure ⟨_, rfl, .ref h'.objs.size, upd H h'.objs.size (.lst ((ks.mergeSort Fp.leR).map V.str)), I1.laid (t' := tk2) (fun b u e => kp b u (Nat.ne_of_lt (Heap.lt_size e)) (Heap.get?_push_of_some _ e)) (Nat.le_refl _)
        (show ObjOk X.prog X.w _ _ _ (.lst ((ks.mergeSort Fp.leR).map V.str)) from ⟨hlen2, out, c, Fp.vals_strs ev, hD⟩), rfl, q _ (I1.hok.fresh (Nat.le_refl _))⟩
/-- sorted(xs), xs a list of pairs of an int and a text -/
def rSortIS (K : PySem.W.Frag) : List V → Hp → VK → Prop := fun vs H Q => ∃ (a : Addr) (ps : List Fp.IS), vs = [.ref a] ∧ SqL K H a (ps.map fun p => V.ref p.1) ∧ (∀ p ∈ ps, H p.1 = some (.tup [.int p.2.1, .str p.2.2])) ∧
  ∀ p, H p = none → Q (.ref p) (upd H p (.lst ((ps.mergeSort Fp.leIS).map fun p => V.ref p.1)))
theorem cr_sortIS (hr : Room 1 X.A) : CallR X (.builtin "sorted") (rSortIS X.K) := by
  intro pins s σ H vs us Q I r h
  obtain ⟨a, ps, rfl, hs, hp, q⟩ := h
  obtain rfl := Vals.ref1 r
  obtain ⟨its, rv, hl, hz⟩ := I.list hs
  have hE := Fp.refs_each rv
  have hl2 : its.length = ps.length := by rw [← rv.length, List.length_map]
  have hun := hr.un
  have hz2 : ps.length ≤ sizeLine := by rw [List.length_map] at hz; exact hz
  refine PySem.W.sorted_data (enc := Fp.enIS) (bs := ps) hl.isList hE ?_ (Fp.is_all ps) (Fp.is_sortable ps) hz2 (fun b hb => ?_) fun out hlo ho => ?_
  · refine PySem.W.EachIs.of_zip hl2 fun z hz => ?_
    obtain ⟨v, p⟩ := z
    have hv : v = Value.ref p.1 := PySem.W.EachIs.zip hE (v, p) hz
    have hm : p ∈ ps := (List.of_mem_zip hz).2
    obtain ⟨_, its2, r2, o, h1, h2, n, h3⟩ := I.hok _ _ (hp p hm)
    obtain ⟨u1, u2, rfl, ⟨t1, e1⟩, ⟨t2, e2⟩⟩ := vals2 r2
    subst hv e1 e2
    exact ⟨_, Reads.tuple h1 h2 h3 (ReadsAll.cons (Reads.int _ _) (ReadsAll.cons (Reads.str _ _) ReadsAll.nil))⟩
  · have := Fp.is_depth b
    omega
  · obtain ⟨ep, he'⟩ := PyProof.Rows.sortedAll_at s.heap its out.toArray
    have hlen : ((ps.mergeSort Fp.leIS).map fun p => V.ref p.1).length ≤ sizeLine := by
      rw [List.length_map, List.length_mergeSort]
      exact hz2
    exact ⟨.ref _, upd H (s.heap.objs.size + 1) (.lst ((ps.mergeSort Fp.leIS).map fun p => V.ref p.1)), I.laid (t' := s.toks) (fun _ _ => PyProof.Rows.sortedAll_old) (Nat.le_succ _) ⟨hlen, out, ep, Fp.each_refs ho, he'⟩, rfl, q _ (I.hok.fresh (Nat.le_succ _))⟩
end
end L2

set_option Elab.async false
set_option linter.all false
set_option maxRecDepth 100000
set_option maxHeartbeats 2000000
/-! what is shared: a def by its name, heaps, tables of words -/
namespace L2
open PySem PySem.Spec PyProof.Rows
/-- a tuple as tuple() makes it: no dict of its own -/
def PlainTup (o : Obj) : Prop := o.cls = .type "tuple" ∧ o.dict = none ∧ ∃ (its : Array Value) (n : Nat), o.data = .seq its n
section
variable {X : Cx}
/-- tuple(l): a new tuple, its object known -/
theorem call_tupleF : CallR X (.type "tuple") (fun xs H Q => ∃ p ys, xs = [.ref p] ∧ SqL X.K H p ys ∧ ∀ l o, H l = none → PlainTup o → Q (.ref l) (upd H l (.frz o (.tup ys)))) := by
  intro pins s σ H xs us Q I r h
  obtain ⟨p, ys, rfl, hq, q⟩ := h
  obtain ⟨u, rfl, rx⟩ := vals1 r
  cases rx
  obtain ⟨its, r', pl, hz⟩ := I.list hq
  have hlen := r'.length
  refine call_tuple_list pl.isList (fun h' kp => ?_) (by simp only [List.size_toArray] <;> omega)
  have I1 : Inv X pins σ H { s with heap := h' } := I.kept (t' := s.toks) kp
  have I2 : Inv X pins σ (upd H h'.objs.size (.frz { cls := .type "tuple", data := .seq its.toArray } (.tup ys))) { s with heap := h'.push { cls := .type "tuple", data := .seq its.toArray } } :=
    I1.laid (t' := s.toks) (fun b o e => Heap.get?_push_of_some _ e) (Nat.le_refl _) (show ObjOk X.prog X.w _ _ _ (.frz _ (.tup ys)) from ⟨Heap.get?_push_size _ rfl, hz, its, r', IsTup.new _ _⟩)
  exact ⟨.ref h'.objs.size, _, I2, rfl, q _ _ (I1.hok.fresh (Nat.le_refl _)) ⟨rfl, rfl, _, _, rfl⟩⟩
theorem refs_get : ∀ {ps : List Addr} {us : List Value}, Vals (ps.map V.ref) us → us = ps.map Value.ref
  | [], _, h => by cases h; rfl
  | p :: ps, _, h => by
    cases h with
    | cons r t =>
      cases r
      rw [refs_get t] <;> rfl
/-- dict(t), t such a tuple of pairs -/
theorem call_dictPT (hcalm : X.calm = true) : CallR X (.type "dict") (fun xs H Q => ∃ (a : Addr) (o : Obj) (ps : List Addr) (kvs : List (Key × V)), xs = [.ref a] ∧ H a = some (.frz o (.tup (ps.map V.ref))) ∧ PlainTup o ∧ Paired (fun p kv => SqT X.K H p [kV kv.1, kv.2]) ps kvs ∧
    ∀ p, H p = none → Q (.ref p) (upd H p (.dK (mergeK [] kvs)))) := by
  intro pins s σ H xs us Q I r q
  obtain ⟨a, o, ps, kvs, ex, hq, ⟨pc, pd, pits, pn, pdat⟩, hp, q⟩ := q
  subst ex
  obtain ⟨u, eu, rx⟩ := vals1 r
  subst eu
  cases rx
  obtain ⟨ho, hz, its, rv, o2, ho2, hc2, n2, hdat2⟩ := (show ObjOk X.prog X.w H s.heap a (.frz o (.tup (ps.map V.ref))) from I.hok a _ hq)
  rw [ho] at ho2
  cases ho2
  have ei := refs_get rv
  subst ei
  rw [List.length_map] at hz
  obtain ⟨prs, rel, hl, hpr⟩ := pairs_of I hp
  -- the keys' values
  have hks : ∃ us : List Value, us.length = prs.length ∧ ∀ (j : Nat) (q : Key × Value), prs[j]? = some q → ∃ (b : Addr) (u : Value), us[j]? = some u ∧ ps[j]? = some b ∧ IsTup s.heap b #[u, q.2] ∧ keyIs q.1 u = true := by
    have hall : ∀ j : Nat, j < prs.length → ∃ u : Value, ∀ q, prs[j]? = some q → ∃ b, ps[j]? = some b ∧ IsTup s.heap b #[u, q.2] ∧ keyIs q.1 u = true := fun j hj => by
      obtain ⟨b, u, e1, e2, e3⟩ := hpr j prs[j] (List.getElem?_eq_getElem hj)
      refine ⟨u, fun q e => ?_⟩
      rw [List.getElem?_eq_getElem hj] at e
      cases e
      exact ⟨b, e1, e2, e3⟩
    let f : Nat → Value := fun j => if hj : j < prs.length then Classical.choose (hall j hj) else .none
    refine ⟨(List.range prs.length).map f, by simp, fun j q e => ?_⟩
    have hj : j < prs.length := (List.getElem?_eq_some_iff.mp e).1
    have hsp := Classical.choose_spec (hall j hj) q e
    obtain ⟨b, e1, e2, e3⟩ := hsp
    refine ⟨b, f j, by simp [hj], e1, ?_, ?_⟩
    · show IsTup s.heap b #[f j, q.2]
      have : f j = Classical.choose (hall j hj) := dif_pos hj
      rw [this]
      exact e2
    · have : f j = Classical.choose (hall j hj) := dif_pos hj
      rw [this]
      exact e3
  obtain ⟨us, hus, hk⟩ := hks
  let vps : List (Value × Value) := us.zip (prs.map (·.2))
  have hvl : vps.length = prs.length := by simp [vps, hus]
  have hget : ∀ j k v, vps[j]? = some (k, v) → ∃ q : Key × Value, prs[j]? = some q ∧ q.2 = v ∧ us[j]? = some k := fun j k v e => by
    obtain ⟨e1, e2⟩ := List.getElem?_zip_eq_some.mp e
    rw [List.getElem?_map] at e2
    cases e3 : prs[j]? with
    | none => rw [e3] at e2; cases e2
    | some q =>
      rw [e3] at e2
      exact ⟨q, e3, Option.some.inj e2, e1⟩
  refine PySem.call_dict_pairs (knd := mixKind X.prog X.w) (kvs := prs) (PairArg.tuple a (ps.map Value.ref).toArray (fun j => ps.getD j 0) vps) (I.ok.hd hcalm) ⟨⟨o, n2, ho, pc, pd, hdat2⟩, ?_, fun j k v e => ?_⟩ ⟨hvl.symm, fun j k v e => ?_⟩ (by rw [hvl, hl]; exact hz) fun h' tk hd' kp => ?_
  · rw [hvl, hl]
    simp
  · obtain ⟨q, e1, e2, e3⟩ := hget j k v e
    obtain ⟨b, u, f1, f2, f3, f4⟩ := hk j q e1
    rw [e3] at f1
    cases f1
    subst e2
    refine ⟨?_, .inl ?_⟩
    · simp [List.getD, f2]
    · show IsTup s.heap (ps.getD j 0) #[k, q.2]
      rw [show ps.getD j 0 = b by simp [List.getD, f2]]
      exact f3
  · obtain ⟨q, e1, e2, e3⟩ := hget j k v e
    obtain ⟨b, u, f1, f2, f3, f4⟩ := hk j q e1
    rw [e3] at f1
    cases f1
    exact ⟨q.1, by rw [e1, ← e2], f4⟩
  · have hm : (s.heap.objs.size == sysModules) = false := beq_eq_false_iff_ne.mpr (Nat.ne_of_gt I.big)
    have hlen : (mergeK [] kvs).length ≤ sizeLine := by
      refine Nat.le_trans (length_mergeK kvs []) ?_
      rw [List.length_nil, Nat.zero_add, rel.length, hl]
      exact hz
    exact ⟨.ref s.heap.objs.size, upd H s.heap.objs.size (.dK (mergeK [] kvs)), I.laid (t' := tk) (fun b o e => kp b o (by simp) e) (Nat.le_refl _) (show ObjOk X.prog X.w _ _ _ (.dK (mergeK [] kvs)) from ⟨hlen, hm, merged [] prs, KV.merge rel .nil, hd'⟩), rfl, q _ (I.hok.fresh (Nat.le_refl _))⟩
end
end L2
namespace Fp
open PySem PySem.Spec PyProof.Rows L2
/-! ### a def of the top by its name -/
structure Ok (P : Program) (w : World) (K : PySem.W.Frag) (mg : Str → Option Value) (base : Heap) (k : Nat) (x : Str) (ps : List Str) (sp : Sp) : Prop where
  ex : ∃ fd, FnOk P w K mg base CX0 k (He.ga K x) fd ps sp ∧ Binds K fd ps []
  g : mg x = some (.ref (He.ga K x))
  kp : PySem.W.keepIn K (.ref (He.ga K x)) = true
theorem pc {X : Cx} {x : Str} {p pos : Pos} {e : Expr} {es : List Expr} {t : TA} {k : Nat} {ps : List Str} {sp : Sp} (G : Ok X.prog X.w X.K X.mg X.base k x ps sp) (hr : Room k X.A) (ha : PA X (e :: es) t) (hg : Gl X x := by rfl) (hdb : (x == ("__debug__" : Str)) = false := by decide)
    (he : starEach (e :: es) X.env = (false, eval e X.env) :: starEach es X.env := by rfl) (hpl : (backTo pos (starEach es X.env)).any (·.1) = false := by rfl) : PE X (.Call (.Name x p) (e :: es) [] pos) (tCall sp [] E0 t) := by
  obtain ⟨fd, F, b⟩ := G.ex
  exact pe_call F hr hg G.g G.kp b .nil pass0 ha hdb he hpl
theorem Ok.mono {P : Program} {w : World} {K : PySem.W.Frag} {mg : Str → Option Value} {base : Heap} {j k : Nat} {x : Str} {ps : List Str} {sp : Sp} (G : Ok P w K mg base j x ps sp) (h : j ≤ k) : Ok P w K mg base k x ps sp := by
  obtain ⟨fd, F, b⟩ := G.ex
  exact ⟨⟨fd, F.mono h, b⟩, G.g, G.kp⟩
/-! ### heaps -/
/-- all that was tracked stays, but for a -/
def But (a : Addr) (H H' : Hp) : Prop := ∀ b o, H b = some o → b ≠ a → H' b = some o
theorem But.refl (a : Addr) (H : Hp) : But a H H := fun _ _ e _ => e
theorem But.trans {a : Addr} {H H1 H2 : Hp} (x : But a H H1) (y : But a H1 H2) : But a H H2 := fun b o e n => y b o (x b o e n) n
theorem But.of {a : Addr} {H H' : Hp} (s : Same H H') : But a H H' := fun b o e _ => s b o e
theorem But.free {a : Addr} {H H' : Hp} (x : But a H H') (hs : ∃ o, H' a = some o) {l : Addr} (e : H' l = none) : H l = none := by
  cases q : H l with
  | none => rfl
  | some o =>
    by_cases hl : l = a
    · obtain ⟨u, hu⟩ := hs
      rw [hl] at e
      rw [hu] at e
      cases e
    · rw [x l o q hl] at e
      cases e
theorem same_upd {H : Hp} {p : Addr} {o : HO} (h : H p = none) : Same H (upd H p o) := fun b x e => by
  rw [upd_ne (ne_of_none e h)]
  exact e
theorem but_upd {H : Hp} {p : Addr} {o : HO} : But p H (upd H p o) := fun b x e n => by
  rw [upd_ne n]
  exact e
theorem lock_back {H : Hp} {d : Addr} {o u : HO} (h : H d = some o) (e : o = u) : upd (upd H d u) d o = H := by
  subst e
  rw [upd_upd]
  funext b
  by_cases hb : b = d
  · rw [hb, upd_same, h]
  · rw [upd_ne hb]
/-! ### tables: words with numbers, in the order in which they were put in -/
abbrev Tb : Type := List (Str × Int)
def kv (l : Tb) : List (Key × V) := l.map fun p => ((Sum.inr p.1 : Key), V.int p.2)
def num (l : Tb) (x : Str) : Int := ((l.find? fun p => decide (p.1 = x)).map (·.2)).getD 0
def has (l : Tb) (x : Str) : Bool := l.any fun p => decide (p.1 = x)
def putT (l : Tb) (x : Str) (n : Int) : Tb := if has l x then l.map (fun p => if p.1 = x then (p.1, n) else p) else l ++ [(x, n)]
def dropT (l : Tb) (x : Str) : Tb := l.filter fun p => decide (p.1 ≠ x)
theorem kv_len (l : Tb) : (kv l).length = l.length := List.length_map _
theorem kv_keys (l : Tb) : (kv l).map (·.1) = (l.map (·.1)).map Sum.inr := by
  unfold kv
  rw [List.map_map, List.map_map]
  rfl
theorem valV_kv (x : Str) : ∀ l : Tb, valV (kv l) (Sum.inr x : Key) = (l.find? fun p => decide (p.1 = x)).map fun p => V.int p.2
  | [] => rfl
  | p :: r => by
    have ih := valV_kv x r
    by_cases e : p.1 = x
    · rw [List.find?_cons_of_pos (by simpa using e)]
      exact valV_pos (p := ((Sum.inr p.1 : Key), V.int p.2)) (by rw [e])
    · rw [List.find?_cons_of_neg (by simpa using e)]
      exact (valV_neg (p := ((Sum.inr p.1 : Key), V.int p.2)) (fun z => e (Sum.inr.inj z))).trans ih
theorem has_find (l : Tb) (x : Str) : has l x = (l.find? fun p => decide (p.1 = x)).isSome := by
  unfold has
  induction l with
  | nil => rfl
  | cons p r ih =>
    by_cases e : p.1 = x
    · rw [List.find?_cons_of_pos (by simpa using e), List.any_cons]
      simp [e]
    · rw [List.find?_cons_of_neg (by simpa using e), List.any_cons, ih]
      simp [e]
theorem valV_yes {l : Tb} {x : Str} (h : has l x = true) : valV (kv l) (Sum.inr x : Key) = some (.int (num l x)) := by
  rw [valV_kv]
  rw [has_find] at h
  unfold num
  cases e : l.find? fun p => decide (p.1 = x) with
  | none => rw [e] at h; cases h
  | some p => rfl
theorem valV_no {l : Tb} {x : Str} (h : has l x = false) : valV (kv l) (Sum.inr x : Key) = none ∧ num l x = 0 := by
  rw [valV_kv]
  rw [has_find] at h
  unfold num
  cases e : l.find? fun p => decide (p.1 = x) with
  | none => exact ⟨rfl, rfl⟩
  | some p => rw [e] at h; cases h
theorem putK_kv (l : Tb) (x : Str) (n : Int) : putK (kv l) (Sum.inr x : Key) (.int n) = kv (putT l x n) := by
  have ea : ((kv l).any fun q => decide (q.1 = (Sum.inr x : Key))) = has l x := by
    unfold kv has
    rw [List.any_map]
    congr 1
    funext p
    by_cases e : p.1 = x
    · simp [e]
    · simp [e]
  unfold putK putT
  rw [ea]
  cases has l x with
  | true =>
    rw [if_pos rfl, if_pos rfl]
    unfold kv
    rw [List.map_map, List.map_map]
    apply List.map_congr_left
    intro p _
    by_cases e : p.1 = x
    · simp [e]
    · simp [e]
  | false =>
    rw [if_neg Bool.false_ne_true, if_neg Bool.false_ne_true]
    unfold kv
    rw [List.map_append]
    rfl
theorem dropK_kv (l : Tb) (x : Str) : dropK (kv l) (Sum.inr x : Key) = kv (dropT l x) := by
  unfold dropK dropT kv
  rw [List.filter_map]
  congr 1
  apply List.filter_congr
  intro p _
  by_cases e : p.1 = x
  · simp [e]
  · simp [e]
/-- a table of distinct words -/
def Nd (l : Tb) : Prop := (l.map (·.1)).Nodup
theorem has_iff {l : Tb} {x : Str} : has l x = true ↔ x ∈ l.map (·.1) := by
  unfold has
  rw [List.any_eq_true]
  constructor
  · rintro ⟨p, hp, e⟩
    exact List.mem_map.mpr ⟨p, hp, of_decide_eq_true e⟩
  · intro h
    obtain ⟨p, hp, e⟩ := List.mem_map.mp h
    exact ⟨p, hp, decide_eq_true e⟩
theorem putT_keys {l : Tb} {x : Str} {n : Int} : (putT l x n).map (·.1) = if has l x then l.map (·.1) else l.map (·.1) ++ [x] := by
  unfold putT
  cases has l x with
  | true =>
    rw [if_pos rfl, if_pos rfl, List.map_map]
    apply List.map_congr_left
    intro p _
    by_cases e : p.1 = x
    · simp [e]
    · simp [e]
  | false =>
    rw [if_neg Bool.false_ne_true, if_neg Bool.false_ne_true, List.map_append]
    rfl
theorem nd_put {l : Tb} (h : Nd l) (x : Str) (n : Int) : Nd (putT l x n) := by
  unfold Nd
  rw [putT_keys]
  cases e : has l x with
  | true => exact h
  | false =>
    rw [if_neg Bool.false_ne_true, List.nodup_append]
    refine ⟨h, by simp, fun a ha b hb => ?_⟩
    have : b = x := by simpa using hb
    subst this
    rintro rfl
    rw [has_iff.mpr ha] at e
    cases e
theorem nd_drop {l : Tb} (h : Nd l) (x : Str) : Nd (dropT l x) := by
  unfold Nd dropT
  exact (List.Sublist.map _ List.filter_sublist).nodup h
theorem mem_put {l : Tb} {x : Str} {n : Int} {p : Str × Int} (h : p ∈ putT l x n) : p = (x, n) ∨ p ∈ l := by
  unfold putT at h
  cases e : has l x with
  | true =>
    rw [e, if_pos rfl] at h
    obtain ⟨q, hq, e2⟩ := List.mem_map.mp h
    by_cases e3 : q.1 = x
    · rw [if_pos e3, e3] at e2
      exact .inl e2.symm
    · rw [if_neg e3] at e2
      exact .inr (e2 ▸ hq)
  | false =>
    rw [e, if_neg Bool.false_ne_true] at h
    rcases List.mem_append.mp h with h | h
    · exact .inr h
    · exact .inl (by simpa using h)
theorem len_put (l : Tb) (x : Str) (n : Int) : (putT l x n).length ≤ l.length + 1 := by
  unfold putT
  split
  · rw [List.length_map]
    omega
  · rw [List.length_append]
    simp
end Fp

set_option Elab.async false
set_option linter.all false
set_option maxRecDepth 100000
set_option maxHeartbeats 2000000
/-! a written dict from ints to tuples of ints, read: d[k] -/
namespace L2
open PySem PySem.Spec PyProof.Rows
abbrev WTab : Type := List (Int × List Int)
def intsB : List Int → List Value → Bool
  | [], [] => true
  | n :: ns, .int i _ :: vs => decide (i = n) && intsB ns vs
  | _, _ => false
theorem intsB_vals : ∀ (ns : List Int) (vs : List Value), intsB ns vs = true → Vals (ns.map V.int) vs
  | [], [], _ => .nil
  | n :: ns, .int i t :: vs, h => by
    have h' : (decide (i = n) && intsB ns vs) = true := h
    rw [Bool.and_eq_true] at h'
    have e : i = n := of_decide_eq_true h'.1
    subst e
    exact .cons ⟨t, rfl⟩ (intsB_vals ns vs h'.2)
def tupO (K : PySem.W.Frag) (a : Addr) (ns : List Int) : Bool := match K.lookup a with
  | some o => (match o.cls, o.data with
    | .type c, .seq its _ => decide (c = "tuple") && (decide (its.size ≤ sizeLine) && intsB ns its.toList)
    | _, _ => false)
  | none => false
theorem tupO_sq {K : PySem.W.Frag} {a : Addr} {ns : List Int} (h : tupO K a ns = true) (H : Hp) : SqT K H a (ns.map V.int) := by
  unfold tupO at h
  split at h
  · rename_i o ho
    split at h
    · rename_i c its n hc hd
      simp only [Bool.and_eq_true, decide_eq_true_eq] at h
      obtain ⟨h1, h2, h3⟩ := h
      subst h1
      exact .inr ⟨o, its, n, ho, hc, hd, h2, intsB_vals _ _ h3⟩
    · cases h
  · cases h
def entB (K : PySem.W.Frag) : WTab → List DictEntry → Bool
  | [], [] => true
  | p :: r, e :: es => (match e.key, e.val with
    | .int i _, .ref a => decide (i = p.1) && (decide (e.hash = hashInt p.1) && tupO K a p.2)
    | _, _ => false) && entB K r es
  | _, _ => false
def wdB (K : PySem.W.Frag) (a : Addr) (t : WTab) : Bool := match K.lookup a with
  | some o => (match o.cls, o.dict, o.data with
    | .type c, none, .dict es _ => decide (c = "dict") && (decide (o.slots.size = 0) && entB K t es.toList)
    | _, _, _ => false)
  | none => false
theorem entB_pairs {P : Program} {w : World} {K : PySem.W.Frag} : ∀ (t : WTab) (es : List DictEntry), entB K t es = true → ∃ vs : List (Key × Value), Pairs (mixKind P w) es vs ∧ (∀ e ∈ es, ∃ k, (mixKind P w).is k e.key = true ∧ e.hash = (mixKind P w).hash k) ∧
    Paired (fun (p : Int × List Int) (v : Key × Value) => v.1 = Sum.inl p.1 ∧ ∃ b, v.2 = .ref b ∧ tupO K b p.2 = true) t vs
  | [], [], _ => ⟨[], .nil, (fun e he => by cases he), .nil⟩
  | p :: r, e :: es, h => by
    unfold entB at h
    rw [Bool.and_eq_true] at h
    obtain ⟨h1, h2⟩ := h
    obtain ⟨vs, a1, a2, a3⟩ := entB_pairs r es h2
    obtain ⟨eh, ek, ev⟩ := e
    cases ek with
    | int i tk =>
      cases ev with
      | ref a =>
        have h1 : (decide (i = p.1) && (decide (eh = hashInt p.1) && tupO K a p.2)) = true := h1
        simp only [Bool.and_eq_true, decide_eq_true_eq] at h1
        obtain ⟨e1, e2, e3⟩ := h1
        subst e1
        refine ⟨(Sum.inl p.1, .ref a) :: vs, .cons (keyIs_int _ tk) rfl a1, (fun x hx => ?_), .cons ⟨rfl, a, rfl, e3⟩ a3⟩
        rcases List.mem_cons.mp hx with rfl | hx
        · exact ⟨Sum.inl p.1, keyIs_int _ tk, e2⟩
        · exact a2 x hx
      | _ => exact absurd h1 (by simp)
    | _ => exact absurd h1 (by simp)
theorem pairs_find {K : PySem.W.Frag} {t : WTab} {vs : List (Key × Value)} (h : Paired (fun (p : Int × List Int) (v : Key × Value) => v.1 = Sum.inl p.1 ∧ ∃ b, v.2 = .ref b ∧ tupO K b p.2 = true) t vs) (hn : (t.map (·.1)).Nodup) :
    (vs.map (·.1)).Nodup ∧ (∀ v ∈ vs, ∃ p ∈ t, v.1 = Sum.inl p.1) ∧ ∀ p ∈ t, ∃ b, valueAt vs (Sum.inl p.1 : Key) = some (.ref b) ∧ tupO K b p.2 = true := by
  induction h with
  | nil => exact ⟨List.nodup_nil, fun v hv => (by cases hv), fun p hp => (by cases hp)⟩
  | @cons p v t vs e r ih =>
    have hn' : (p.1 :: t.map (·.1)).Nodup := hn
    obtain ⟨n1, n2⟩ := List.nodup_cons.mp hn'
    obtain ⟨i1, i2, i3⟩ := ih n2
    obtain ⟨e1, b, e2, e3⟩ := e
    refine ⟨?_, fun u hu => ?_, fun q hq => ?_⟩
    · rw [List.map_cons, List.nodup_cons]
      refine ⟨fun hm => ?_, i1⟩
      obtain ⟨u, hu, eu⟩ := List.mem_map.mp hm
      obtain ⟨q, hq, eq⟩ := i2 u hu
      have : (Sum.inl q.1 : Key) = Sum.inl p.1 := (eq.symm.trans eu).trans e1
      injection this with this
      exact n1 (this ▸ List.mem_map.mpr ⟨q, hq, rfl⟩)
    · rcases List.mem_cons.mp hu with rfl | hu
      · exact ⟨p, List.mem_cons_self, e1⟩
      · obtain ⟨q, hq, eq⟩ := i2 u hu
        exact ⟨q, List.mem_cons_of_mem _ hq, eq⟩
    · unfold valueAt
      rcases List.mem_cons.mp hq with rfl | hq
      · rw [List.find?_cons_of_pos (by simp [e1])]
        exact ⟨b, by rw [Option.map_some, e2], e3⟩
      · obtain ⟨b', h1, h2⟩ := i3 q hq
        refine ⟨b', ?_, h2⟩
        rw [List.find?_cons_of_neg]
        · exact h1
        · rw [e1]
          intro z
          have z' : (Sum.inl p.1 : Key) = Sum.inl q.1 := of_decide_eq_true z
          injection z' with z'
          exact n1 (z' ▸ List.mem_map.mpr ⟨q, hq, rfl⟩)
/-- d[k], d written -/
def tWD (K : PySem.W.Frag) (t : WTab) (ta tb : TE) : TE := fun σ H Q => ta σ H fun x H1 => tb σ H1 fun y H2 => ∃ (a : Addr) (k : Int) (ns : List Int), x = .ref a ∧ wdB K a t = true ∧ y = .int k ∧ (k, ns) ∈ t ∧ ∀ b, tupO K b ns = true → Q (.ref b) H2
theorem pe_wd {X : Cx} {t : WTab} {o i : Expr} {ta tb : TE} {pos : Pos} (hn : (t.map (·.1)).Nodup) (ho : PE X o ta) (hi : PE X i tb) (hs : NoSl i) : PE X (.Subscript o i pos) (tWD X.K t ta tb) := by
  constructor
  intro pins s σ H Q I h
  refine subD_of PySem.F.slot_dict_getitem.lookup hs (thn (ho.run pins s σ H _ I h) fun u s1 ⟨x, H1, I1, rx, q1⟩ => thn (hi.run pins s1 σ H1 _ I1 q1) fun iv s2 ⟨y, H2, I2, ry, a, k, ns, ex, hw, ey, hm, q2⟩ => ?_)
  subst ex
  subst ey
  cases rx
  obtain ⟨tk, rfl⟩ := ry
  unfold wdB at hw
  split at hw
  · rename_i ob hob
    split at hw
    · rename_i c es ep hc hd hdat
      simp only [Bool.and_eq_true, decide_eq_true_eq] at hw
      obtain ⟨w1, w2, w3⟩ := hw
      subst w1
      obtain ⟨vs, p1, p2, p3⟩ := entB_pairs (P := X.prog) (w := X.w) t es.toList w3
      obtain ⟨f1, f2, f3⟩ := pairs_find p3 hn
      obtain ⟨b, v1, v2⟩ := f3 (k, ns) hm
      have dd : s2.heap.DictOf (mixKind X.prog X.w) a vs := ⟨ob, es, ep, I2.kIn a ob hob, ⟨hc, hd, Array.eq_empty_of_size_eq_zero w2⟩, hdat, fun e he => p2 e (Array.mem_def.mp he), p1, f1⟩
      exact ⟨dd.typeIs, wpAny_getItem_of (knd := mixKind X.prog X.w) (k := (Sum.inl k : Key)) (keyIs_int k tk) dd.mapOf v1 ⟨.ref b, H2, I2.tok _, rfl, q2 b v2⟩⟩
    · cases hw
  · cases hw
end L2

set_option Elab.async false
set_option linter.all false
set_option maxRecDepth 100000
set_option maxHeartbeats 4000000
/-! exceptions as values: made, asked with isinstance, their fields read -/
namespace L2
open PySem PySem.Spec PyProof.Rows
/-- an exception object at a, perhaps with its dict -/
def HE (H : Hp) (a C : Addr) (d : Option Addr) : Prop := H a = some (exo a C d) ∧ ∀ dd, d = some dd → ∃ fs, H dd = some (exd dd fs)
def excCB (K : PySem.W.Frag) (C : Addr) : Bool := decide (PySem.W.findIn K (.ref C) "__getattribute__" = some (some (.builtin "BaseException.__getattribute__"))) && (decide (PySem.W.findIn K (.ref C) "__getattr__" = some none) && (decide (PySem.W.subIn K (.ref C) (.type "BaseException") = some true) && (PySem.W.hasDictIn K C &&
  (decide (PySem.W.findIn K (.ref C) "__class__" = some (some (.builtin "object.__class__"))) && (decide (PySem.W.specialIn K (.builtin "object.__class__") "__get__" = some (some (.builtin "getset_descriptor.__get__"))) && (decide (PySem.W.takesIn K (.builtin "object.__class__") = some true) && decide (PySem.W.mroIn K C (.type "object") = some true)))))))
theorem excCB_ok {K : PySem.W.Frag} {C : Addr} (h : excCB K C = true) : ExcC K C := by
  simp only [excCB, Bool.and_eq_true, decide_eq_true_eq] at h
  obtain ⟨h1, h2, h3, h4, h5, h6, h7, h8⟩ := h
  exact ⟨h1, h2, h3, h4, h5, h6, h7, h8⟩
theorem ExcC.xf {K : PySem.W.Frag} {C : Addr} (c : ExcC K C) : XfC K C := ⟨c.hg, c.hk, c.hs, c.hd⟩
/-- the class of an exception with its own __init__ -/
def oexB (K : PySem.W.Frag) (C : Addr) : Bool := (match K.lookup C with
  | some ⟨.type "type", none, .cls cd, sl⟩ => (match cd.mro, sl.toList with
    | .ref C' :: bm, [_, _, _, _, some (.builtin n), _] => C' == C && (n == "ValueError.__new__" && (!cd.hasDel && (cd.hasDict && PySem.HandSPX.refsVE bm)))
    | _, _ => false)
  | _ => false) && (decide (PySem.W.findIn K (.ref C) "__setattr__" = some (some (.builtin "object.__setattr__"))) && (decide (PySem.W.subIn K (.ref C) (.type "BaseException") = some true) && (decide (PySem.W.typeIn K (.ref C) = some (.type "type")) && PySem.W.keepIn K (.ref C))))
end L2
namespace L2
open PySem PySem.Spec PyProof.Rows
theorem oexB_ok {K : PySem.W.Frag} {C : Addr} (h : oexB K C = true) : OexC K C := by
  unfold oexB at h
  simp only [Bool.and_eq_true, decide_eq_true_eq] at h
  obtain ⟨h1, h2, h3, h4, h5⟩ := h
  refine ⟨?_, h2, h3, h4, h5⟩
  split at h1
  · rename_i cd sl ho
    split at h1
    · rename_i C' bm k0 k1 k2 k3 n k5 hm hs
      simp only [Bool.and_eq_true, beq_iff_eq, Bool.not_eq_true'] at h1
      obtain ⟨rfl, rfl, hdel, hd, hr⟩ := h1
      obtain ⟨nm, bs, mro, ns, qn, hdc, sn, sub, ab, col, del⟩ := cd
      dsimp only at hm hdel hd
      subst hm hdel hd
      have hsl : sl = #[k0, k1, k2, k3, some (.builtin "ValueError.__new__"), k5] := by
        obtain ⟨l⟩ := sl
        exact congrArg List.toArray hs
      subst hsl
      exact ⟨nm, qn, ns, bs, bm, sn, sub, ab, col, none, k0, k1, k2, k3, k5, ho, hr⟩
    · cases h1
  · cases h1
section
variable {X : Cx} {pins : List (Addr × Obj)} {σ : St} {H : Hp} {s : Shared}
theorem HE.inst (I : Inv X pins σ H s) {a C : Addr} {d : Option Addr} (e : HE H a C d) : ∃ ox od, PySem.W.InstAt s.heap a ox C od ∧ ∀ dd, d = some dd → ∃ mA o, s.heap.Ns1 dd mA ∧ od = some o ∧ s.heap.get? dd = some o := by
  obtain ⟨e1, e2⟩ := e
  obtain ⟨t1, ho⟩ := exo_at I.hok e1
  cases d with
  | none => exact ⟨_, none, ⟨ho, rfl, rfl, trivial⟩, fun dd h => nomatch h⟩
  | some dd =>
    obtain ⟨fs, e3⟩ := e2 dd rfl
    obtain ⟨mA, hns, rel⟩ := exd_at I.hok e3
    obtain ⟨o, es, ep, h1, h2⟩ := id hns
    exact ⟨_, some o, ⟨ho, rfl, rfl, h1⟩, fun d' h => by cases h; exact ⟨mA, o, hns, rfl, h1⟩⟩
/-- isinstance(e, c), e a held exception -/
def rIsV (K : PySem.W.Frag) : List V → Hp → VK → Prop := fun xs H Q => ∃ (a C : Addr) (d : Option Addr) (c : V) (cv : Value) (b : Bool), xs = [.ref a, c] ∧ HE H a C d ∧ ExcC K C ∧ (∀ u, RelV c u → u = cv) ∧ PySem.W.kitOne K (.ref C) cv = some b ∧ Q (.bl b) H
theorem call_isV {X : Cx} : CallR X (.builtin "isinstance") (rIsV X.K) := by
  intro pins s σ H xs us Q I r h
  obtain ⟨a, C, d, c, cv, b, rfl, he, T, hcv, e, q⟩ := h
  cases r with
  | cons rx rr =>
    cases rr with
    | cons rt rr =>
      cases rr
      cases rx
      have ec := hcv _ rt
      subst ec
      obtain ⟨ox, od, J, _⟩ := he.inst I
      have hcl : (PySem.W.clsIn X.K C).isSome = true := by
        obtain ⟨cd, hc, _⟩ := PySem.W.any_some T.hd
        rw [hc]
        rfl
      exact PySem.W.kia_one (PySem.W.kitx_exc (od := od) hcl T.hg T.hk T.hs T.ha T.hn T.ht T.hm) I.kIn J e (fun z => nomatch z) fun tk => ⟨.bl b, H, I.kept (t' := tk) fun _ _ z => z, rfl, q⟩
/-- isinstance(e, c), e the exception that the suite holds, with its dict or without -/
def rIsD (K : PySem.W.Frag) (cls : Value) (d : Option Addr) (a : Addr) : List V → Hp → VK → Prop := fun xs H Q => ∃ (C : Addr) (c : V) (cv : Value) (b : Bool), xs = [.ref a, c] ∧ cls = .ref C ∧ (∀ dd, d = some dd → ∃ fs, H dd = some (.xd fs)) ∧ ExcC K C ∧ (∀ u, RelV c u → u = cv) ∧ PySem.W.kitOne K (.ref C) cv = some b ∧ Q (.bl b) H
theorem call_isD {X : Cx} {a : Addr} {cls : Value} {d : Option Addr} {oe : Obj} {pn : List (Addr × Obj)} (hz : Zc cls d oe) (hf : ∃ vs, oe.data = .fields vs) : CallR (X.suite a ((a, oe) :: pn)) (.builtin "isinstance") (rIsD X.K cls d a) := by
  intro pins s σ H xs us Q I r h
  obtain ⟨C, c, cv, b, rfl, rfl, hd, T, hcv, e, q⟩ := h
  cases r with
  | cons rx rr =>
    cases rr with
    | cons rt rr =>
      cases rr
      cases rx
      have ec := hcv _ rt
      subst ec
      obtain ⟨hget, _⟩ := I.pin (a, oe) (List.mem_append.mpr (.inl List.mem_cons_self))
      obtain ⟨vs, hv⟩ := hf
      have J : ∃ od, PySem.W.InstAt s.heap a oe C od := by
        cases hdd : d with
        | none =>
          exact ⟨none, hget, hz.1, by unfold PySem.W.notCls; rw [hv] <;> rfl, by rw [hz.2, hdd]; trivial⟩
        | some dd =>
          obtain ⟨fs, e3⟩ := hd dd hdd
          have hx : ObjOk X.prog X.w H s.heap dd (.xd fs) := I.hok dd _ e3
          obtain ⟨mA, hns, hr⟩ := hx
          obtain ⟨o, es, ep, h1, h2⟩ := hns
          exact ⟨some o, hget, hz.1, by unfold PySem.W.notCls; rw [hv] <;> rfl, by rw [hz.2, hdd]; exact h1⟩
      obtain ⟨od, J⟩ := J
      have hcl : (PySem.W.clsIn X.K C).isSome = true := by
        obtain ⟨cd, hc, _⟩ := PySem.W.any_some T.hd
        rw [hc]
        rfl
      exact PySem.W.kia_one (PySem.W.kitx_exc (od := od) hcl T.hg T.hk T.hs T.ha T.hn T.ht T.hm) I.kIn J e (fun z => nomatch z) fun tk => ⟨.bl b, H, I.kept (t' := tk) fun _ _ z => z, rfl, q⟩
/-- e.n, e a held exception -/
def tXfV (K : PySem.W.Frag) (n : Str) (te : TE) : TE := fun σ H Q => te σ H fun x H1 => ∃ (a C dd : Addr) (fs : List (Str × V)) (v : V), x = .ref a ∧ H1 a = some (exo a C (some dd)) ∧ H1 dd = some (exd dd fs) ∧ XfC K C ∧ PySem.W.findIn K (.ref C) n = some none ∧ fs.lookup n = some v ∧ Q v H1
theorem pe_xfV {X : Cx} {e : Expr} {te : TE} {pos : Pos} {n : Str} (he : PE X e te) (hb : attributeBase e n X.env (eval e X.env) = eval e X.env := by rfl) : PE X (.Attribute e n pos) (tXfV X.K n te) := by
  refine ⟨fun pins s σ H Q I h => ?_⟩
  refine attr_of hb (thn (he.run pins s σ H _ I h) fun u s1 hh => ?_)
  obtain ⟨x, H1, I1, rx, a, C, dd, fs, v, ex, e1, e2, T, hno, l, q⟩ := hh
  subst ex
  obtain rfl : u = Value.ref a := rx
  obtain ⟨t1, ho⟩ := exo_at I1.hok e1
  obtain ⟨mA, hns, hr⟩ := exd_at I1.hok e2
  obtain ⟨od, h1, hl⟩ := lookIn_ns hns
  obtain ⟨u, hu, ru⟩ := RelO.some_of (v := v) (o := mA n) (by rw [← l]; exact hr n)
  have J : PySem.W.InstAt s1.heap a _ C (some od) := ⟨ho, rfl, rfl, h1⟩
  exact HandSPX.exc_get I1.kIn J T.ga T.gg T.exC (PySem.W.findObj_own T.hdC hno rfl (by rw [hl, hu])) (handed_of ru) ⟨v, H1, I1.tok _, ru, q⟩
end
section
variable {X : Cx} {e : Expr} {es : List Expr} {ta : TA} {p pos : Pos}
/-- X(), X without its own __init__, as a value -/
theorem pe_own0V {C : Addr} {bmB : List Value} {B newId initId : String} {x : Str} (F : ExcBaseFacts B newId initId bmB) (q : PySem.W.excIn X.K C bmB newId = true) (gC : X.mg x = some (.ref C)) (kC : PySem.W.keepIn X.K (.ref C) = true) (hg : Gl X x)
    (hdb : (x == ("__debug__" : Str)) = false := by decide) : PE X (.Call (.Name x p) [] [] pos) (fun _ H Q => ∀ a, H a = none → Q (.ref a) (upd H a (exo a C none))) := by
  refine ⟨fun pins s σ H Q I h => ?_⟩
  refine wpAny_Call_Name_kw (ld_glob I hg gC ?_ hdb)
  refine PySem.W.callWith_K0 (K := X.K) I.kIn kC ?_
  show wpAny _ _ (call (.ref C) []) _ _ _
  obtain ⟨bm, N, nm, qn, bs, hdct, sn, sub, ab, col, dd, k0, k1, k2, k3, k5, mN, hC, hN, hni, T⟩ := exc_obj I.kIn q
  refine wpAny_call_exc_subT F T hC hN hni (fun h' a hm => ?_) (Nat.zero_le _)
  have hn : H a = none := I.hok.gone hm.new
  obtain ⟨t, ht, _, _⟩ := hm.there
  exact ⟨.ref a, upd H a (exo a C none), I.laidN hm.keeps hm.new hn (exo_ok ht), rfl, h a hn⟩
/-- X(e, ..), X's own __init__ keeping sp, as a value -/
def tMkV (C : Addr) (sp : Sp) (ta : TA) : TE := fun σ H Q => ta σ H fun vs H1 => vs.length ≤ 1000 ∧ ∀ a, H1 a = none → sp (.ref a :: vs) (upd H1 a (exo a C none)) (fun v H2 => v = .non ∧ Q (.ref a) H2) (fun _ _ _ => False)
theorem pe_oexV {CX : CXT} {x : Str} {C fI : Addr} {k : Nat} {fd : FuncData} {ps : List Str} {sp : Sp} (T : OexC X.K C) (iC : PySem.W.findIn X.K (.ref C) "__init__" = some (some (.ref fI))) (tI : PySem.W.typeIn X.K (.ref fI) = some (.type "function"))
    (F1 : FnOk X.prog X.w X.K X.mg X.base CX k fI fd ps sp) (hr : Room (k + 1) X.A) (hb : Binds X.K fd ps []) (hx : Passes CX X (fun _ _ _ => False)) (hg : Gl X x) (hm : X.mg x = some (.ref C)) (ha : PA X (e :: es) ta)
    (hdb : (x == ("__debug__" : Str)) = false := by decide) (he : starEach (e :: es) X.env = (false, eval e X.env) :: starEach es X.env := by rfl) (hpl : (backTo pos (starEach es X.env)).any (·.1) = false := by rfl) :
    PE X (.Call (.Name x p) (e :: es) [] pos) (tMkV C sp ta) := by
  refine ⟨fun pins s σ H Q I h => ?_⟩
  obtain ⟨nm, q, N, bs, bm, sn, sub, ab, col, dd, k0, k1, k2, k3, k5, hC, hbm⟩ := T.cls
  refine wpAny_Call_Name_kw (ld_glob I hg hm ?_ hdb)
  refine PySem.W.callWith_K (h₀ := X.base) I.ok.mod.kin T.kC (thn (ha.run pos pins s σ H _ I h) fun us s1 ⟨vs, H1, I1, r1, hz, q1⟩ => ⟨I1.kIn, ?_⟩) he hpl
  show wpAny _ _ (call (.ref C) us) _ _ _
  obtain ⟨hp, g, dr, tk, os⟩ := s1
  have hsz : hp.objs.size ≤ hp.objs.size + 1 := Nat.le_succ _
  have hn : H1 (hp.objs.size + 1) = none := I1.hok.fresh hsz
  have hq := q1 (hp.objs.size + 1) hn
  have kk : ∀ b o, hp.get? b = some o → ((hp.push (PySem.W.kdv_tup us)).push (PySem.HandSPX.excO C hp.objs.size)).get? b = some o := fun b o e => Heap.get?_push_of_some _ (Heap.get?_push_of_some _ e)
  have hget : ((hp.push (PySem.W.kdv_tup us)).push (PySem.HandSPX.excO C hp.objs.size)).get? (hp.objs.size + 1) = some (PySem.HandSPX.excO C hp.objs.size) := by heap_get
  have I2 : Inv X pins σ (upd H1 (hp.objs.size + 1) (exo (hp.objs.size + 1) C none)) ⟨(hp.push (PySem.W.kdv_tup us)).push (PySem.HandSPX.excO C hp.objs.size), g, dr, tk, os⟩ :=
    I1.laid (t' := tk) (a := hp.objs.size + 1) (o := exo (hp.objs.size + 1) C none) (h' := (hp.push (PySem.W.kdv_tup us)).push (PySem.HandSPX.excO C hp.objs.size)) kk hsz (exo_ok hget)
  have r2 : Vals (V.ref (hp.objs.size + 1) :: vs) (Value.ref (hp.objs.size + 1) :: us) := .cons rfl r1
  have hl : (Value.ref (hp.objs.size + 1) :: us).length = ps.length := by
    have e := r2.length
    rw [F1.len _ _ _ _ hq] at e
    exact e.symm
  have hus : us.length ≤ sizeLine := by
    rw [← Paired.length r1, sizeLine_eq]
    omega
  refine wpAny_call (PySem.HandSPX.call_own F.excBase_ValueError (fun Y => PySem.HandSPX.refsVE_contains Y bm hbm) (I1.kIn _ _ hC) (PySem.W.looks_findIn I1.kIn iC) (fun self => PySem.W.bind_fn I1.kIn self tI) hus
    (codeAny_mono (F1.run _ X.stack _ _ ⟨Value.ref (hp.objs.size + 1) :: us, []⟩ (Value.ref (hp.objs.size + 1) :: us) _ _ (fun _ _ _ => False) (hr.make C us []) (I2.env0.make C us []) (by simpa using hb _ (Value.ref (hp.objs.size + 1) :: us) I2.kIn (by simpa using hl)) r2 hq) fun r s' hq' => ?_))
  cases r with
  | error er => exact hx pins σ _ _ er s' I2 hq'
  | ok fl =>
    cases fl with
    | ret u =>
      obtain ⟨v, H2, os2, bare2, un2, hok2, rv, ev, q2⟩ := hq'
      subst ev
      obtain ⟨h2, g2, d2, t2, os'⟩ := s'
      exact ⟨rv, ⟨.ref (hp.objs.size + 1), H2, I2.call' (ch := []) os2 un2 hok2 bare2 (fun b z => absurd z (by simp)), rfl, q2⟩⟩
    | next => exact False.elim hq'
    | brk => exact False.elim hq'
    | cont => exact False.elim hq'
end
/-! ### raised where a try stands around -/
section
variable {X : Cx} {e : Expr} {es : List Expr} {ta : TA} {p pos : Pos}
theorem pmk_own0N {C : Addr} {bmB : List Value} {B newId initId : String} {x : Str} (F : ExcBaseFacts B newId initId bmB) (q : PySem.W.excIn X.K C bmB newId = true) (gC : X.mg x = some (.ref C))
    (kC : PySem.W.keepIn X.K (.ref C) = true) (r : Raises X (.ref C)) (hg : Gl X x) (hdb : (x == ("__debug__" : Str)) = false := by decide) : L2N.PMk X (.Call (.Name x p) [] [] pos) (fun _ H Q => Q (.ref C) none H) := by
  intro pins s σ H Q I h
  refine wpAny_Call_Name_kw (ld_glob I hg gC ?_ hdb)
  refine PySem.W.callWith_K0 (K := X.K) I.kIn kC ?_
  show wpAny _ _ (call (.ref C) []) _ _ _
  obtain ⟨bm, N, nm, qn, bs, hdct, sn, sub, ab, col, dd, k0, k1, k2, k3, k5, mN, hC, hN, hni, T⟩ := exc_obj I.kIn q
  refine wpAny_call_exc_subT F T hC hN hni (fun h' e hm => ?_) (Nat.zero_le _)
  exact L2N.mk_of I hm r h (I.hok.gone hm.new)
theorem pmk_oexN {CX : CXT} {x : Str} {C fI : Addr} {k : Nat} {fd : FuncData} {ps : List Str} {sp : Sp} (T : OexC X.K C) (iC : PySem.W.findIn X.K (.ref C) "__init__" = some (some (.ref fI))) (tI : PySem.W.typeIn X.K (.ref fI) = some (.type "function"))
    (F1 : FnOk X.prog X.w X.K X.mg X.base CX k fI fd ps sp) (hr : Room (k + 1) X.A) (hb : Binds X.K fd ps []) (hx : Passes CX X (fun _ _ _ => False)) (hg : Gl X x) (hm : X.mg x = some (.ref C)) (ha : PA X (e :: es) ta)
    (hdb : (x == ("__debug__" : Str)) = false := by decide) (he : starEach (e :: es) X.env = (false, eval e X.env) :: starEach es X.env := by rfl) (hpl : (backTo pos (starEach es X.env)).any (·.1) = false := by rfl) :
    L2N.PMk X (.Call (.Name x p) (e :: es) [] pos) (tMkO C sp [] ta) := by
  intro pins s σ H Q I h
  obtain ⟨nm, q, N, bs, bm, sn, sub, ab, col, dd, k0, k1, k2, k3, k5, hC, hbm⟩ := T.cls
  refine wpAny_Call_Name_kw (ld_glob I hg hm ?_ hdb)
  refine PySem.W.callWith_K (h₀ := X.base) I.ok.mod.kin T.kC (thn (ha.run pos pins s σ H _ I h) fun us s1 ⟨vs, H1, I1, r1, hz, q1⟩ => ⟨I1.kIn, ?_⟩) he hpl
  show wpAny _ _ (call (.ref C) us) _ _ _
  obtain ⟨hp, g, dr, tk, os⟩ := s1
  have hsz : hp.objs.size ≤ hp.objs.size + 1 := Nat.le_succ _
  have hn : H1 (hp.objs.size + 1) = none := I1.hok.fresh hsz
  have hq := q1 (hp.objs.size + 1) hn
  rw [List.append_nil] at hq
  have kk : ∀ b o, hp.get? b = some o → ((hp.push (PySem.W.kdv_tup us)).push (PySem.HandSPX.excO C hp.objs.size)).get? b = some o := fun b o e => Heap.get?_push_of_some _ (Heap.get?_push_of_some _ e)
  have hget : ((hp.push (PySem.W.kdv_tup us)).push (PySem.HandSPX.excO C hp.objs.size)).get? (hp.objs.size + 1) = some (PySem.HandSPX.excO C hp.objs.size) := by heap_get
  have I2 : Inv X pins σ (upd H1 (hp.objs.size + 1) (exo (hp.objs.size + 1) C none)) ⟨(hp.push (PySem.W.kdv_tup us)).push (PySem.HandSPX.excO C hp.objs.size), g, dr, tk, os⟩ :=
    I1.laid (t' := tk) (a := hp.objs.size + 1) (o := exo (hp.objs.size + 1) C none) (h' := (hp.push (PySem.W.kdv_tup us)).push (PySem.HandSPX.excO C hp.objs.size)) kk hsz (exo_ok hget)
  have r2 : Vals (V.ref (hp.objs.size + 1) :: vs) (Value.ref (hp.objs.size + 1) :: us) := .cons rfl r1
  have hl : (Value.ref (hp.objs.size + 1) :: us).length = ps.length := by
    have e := r2.length
    rw [F1.len _ _ _ _ hq] at e
    exact e.symm
  have hus : us.length ≤ sizeLine := by
    rw [← Paired.length r1, sizeLine_eq]
    omega
  refine wpAny_call (PySem.HandSPX.call_own F.excBase_ValueError (fun Y => PySem.HandSPX.refsVE_contains Y bm hbm) (I1.kIn _ _ hC) (PySem.W.looks_findIn I1.kIn iC) (fun self => PySem.W.bind_fn I1.kIn self tI) hus
    (codeAny_mono (F1.run _ X.stack _ _ ⟨Value.ref (hp.objs.size + 1) :: us, []⟩ (Value.ref (hp.objs.size + 1) :: us) _ _ (fun _ _ _ => False) (hr.make C us []) (I2.env0.make C us []) (by simpa using hb _ (Value.ref (hp.objs.size + 1) :: us) I2.kIn (by simpa using hl)) r2 hq) fun r s' hq' => ?_))
  cases r with
  | error er => exact hx pins σ _ _ er s' I2 hq'
  | ok fl =>
    cases fl with
    | ret u =>
      obtain ⟨v, H2, os2, bare2, un2, hok2, rv, ev, d, fs, ea, ed, hd1, q2⟩ := hq'
      subst ev
      obtain ⟨h2, g2, d2, t2, os'⟩ := s'
      obtain ⟨t0, G, J, kG, ge, hoe, na⟩ := mk_end0 (d2 := d2) (t2 := t2) I1 hsz kk un2 hok2 os2 bare2 ea ed hd1
      exact ⟨rv, hp.objs.size + 1, _, _, ⟨G, g2, d2, t2, os'⟩, _, .ref C, some d, rfl, J, kG, ge, hoe, ⟨rfl, rfl, fun vs hv => by cases hv; rfl⟩, rfl, rfl, na, rfl, bare2, raises_own T.exC T.tyC, q2⟩
    | next => exact False.elim hq'
    | brk => exact False.elim hq'
    | cont => exact False.elim hq'
end
/-- the suite's context bears the exception that it holds -/
theorem hot_suite {X : Cx} {a : Addr} {cls : Value} {d : Option Addr} {oe : Obj} {pn : List (Addr × Obj)} (hz : L2N.Zn cls d oe) (hf : ∃ vs, oe.data = .fields vs) : L2H.HotC (X.suite a ((a, oe) :: pn)) := by
  obtain ⟨vs, hv⟩ := hf
  exact ⟨(a, oe), ⟨rfl, vs, hv, hz.2.2 vs hv⟩, List.mem_cons_self⟩
/-! ### list.count of a flag among flags -/
def eqb (k : Bool) (v : Value) : Bool := match v with
  | .bool n => n == k
  | _ => false
theorem bools_of_vals : ∀ {ns : List Bool} {us : List Value}, Vals (ns.map V.bl) us → us = ns.map Value.bool
  | [], _, h => by cases h; rfl
  | n :: ns, _, h => by
    cases h with
    | cons a b =>
      cases a
      rw [bools_of_vals b]
      rfl
theorem eqb_count {k : Bool} : ∀ (ns : List Bool), (ns.map Value.bool).countP (eqb k) = ns.count k
  | [] => rfl
  | n :: ns => by
    rw [List.map_cons, List.countP_cons, List.count_cons, eqb_count ns] <;> rfl
def rCntB (K : PySem.W.Frag) : V → List V → Hp → VK → Prop := fun x xs H Q => ∃ (p : Addr) (ns : List Bool) (k : Bool), x = .ref p ∧ xs = [.bl k] ∧ SqL K H p (ns.map V.bl) ∧ Q (.int (ns.count k : Nat)) H
theorem mt_lcountB {X : Cx} : MtR X "list.count" (rCntB X.K) := by
  intro pins s σ H x xs v us Q I rx rxs h
  obtain ⟨p, ns, k, rfl, rfl, hs, q⟩ := h
  cases rx
  obtain ⟨u, rfl, ru⟩ := rxs.one
  cases ru
  obtain ⟨its, rv, ⟨⟨cls, dd, data, sl⟩, n, ho, hc, hdn, hd⟩, hlen⟩ := I.list hs
  simp only at hc hd
  subst hc hd
  have hi := bools_of_vals rv
  subst hi
  refine call_meets PySem.F.slot_list_count ⟨_, ho, rfl⟩ PySem.F.entry_list_count (PySem.F.args_list_count_2 _ _)
    (SeqAt.list_countAt p (ns.map Value.bool).toArray n dd sl (.bool k) (eqb k)) ⟨ho, fun y hy => ?_, ?_⟩
  · have hy' : y ∈ ns.map Value.bool := by simpa using hy
    obtain ⟨b, _, rfl⟩ := List.mem_map.mp hy'
    exact SeqAt.EqAt.bool_bool b k
  · have ec : (ns.map Value.bool).toArray.toList.countP (eqb k) = ns.count k := eqb_count ns
    refine ⟨.int (ns.count k : Nat), H, I.tok _, ⟨s.toks, ?_⟩, q⟩
    show Value.int (((ns.map Value.bool).toArray.toList.countP (eqb k) : Nat) : Int) s.toks = Value.int ((ns.count k : Nat) : Int) s.toks
    rw [ec]
end L2

set_option Elab.async false
set_option linter.all false
set_option maxRecDepth 100000
set_option maxHeartbeats 2000000
namespace Fp
open PySem PySem.Spec PyProof.Rows L2
def top (i : Nat) : Stmt := PySem.Challenge.pw_frontparts_k84_wrong_lines_of_rows.main.body.getD i (.Pass ⟨0, 0, 0, 0⟩)
abbrev s_BadText__init__ : Stmt := inClass (top 3) 0
abbrev s_is_integer : Stmt := top 7
abbrev s_is_from_to : Stmt := top 8
abbrev s_is_clock : Stmt := top 9
abbrev s_is_word : Stmt := top 10
abbrev s_rank_of : Stmt := top 12
abbrev s_Bag__init__ : Stmt := inClass (top 16) 0
abbrev s_Bag__eq__ : Stmt := inClass (top 16) 1
abbrev s_are_words : Stmt := top 17
abbrev s_is_short_word : Stmt := top 18
abbrev s_pairs_of : Stmt := top 19
abbrev s_read_row : Stmt := top 21
abbrev s_check_string : Stmt := top 22
abbrev s_told_bag : Stmt := top 23
abbrev s_told_term : Stmt := top 24
abbrev s__law_tape : Stmt := top 26
abbrev s__law_pick : Stmt := top 27
abbrev s__law_word : Stmt := top 28
abbrev s__law_sparse : Stmt := top 29
abbrev s__law_clock : Stmt := top 30
abbrev s__law_letters : Stmt := top 31
abbrev s__law_pairs : Stmt := top 32
abbrev s__law_sum : Stmt := top 33
abbrev s__law_product : Stmt := top 34
abbrev s__law_size : Stmt := top 35
abbrev s__law_is : Stmt := top 36
abbrev s__law_text_of : Stmt := top 37
abbrev s__law_word_told : Stmt := top 38
abbrev s__law_read : Stmt := top 39
abbrev s__law_spoiled : Stmt := top 40
abbrev s__law_is_int : Stmt := top 41
abbrev s__law_odd : Stmt := top 42
abbrev s__law_deep : Stmt := top 43
abbrev s__law_due : Stmt := top 44
abbrev s__law_told : Stmt := top 45
abbrev s__law_is_right : Stmt := top 46
abbrev s__law_changed : Stmt := top 47
abbrev s_law : Stmt := top 48
abbrev FnP (K : PySem.W.Frag) (x q : Str) (st : Stmt) (f : Addr) (fd : FuncData) : Prop := FunD K x q (defArgs st) (defBody st) (defScope st) [] [] f fd
def d_BadText__init__ : He.DefD := ⟨("BadText", some "__init__"), "__init__", "BadText.__init__", defArgs s_BadText__init__, defBody s_BadText__init__, defScope s_BadText__init__, [], []⟩
def d_is_integer : He.DefD := ⟨("is_integer", none), "is_integer", "is_integer", defArgs s_is_integer, defBody s_is_integer, defScope s_is_integer, [], []⟩
def d_is_from_to : He.DefD := ⟨("is_from_to", none), "is_from_to", "is_from_to", defArgs s_is_from_to, defBody s_is_from_to, defScope s_is_from_to, [], []⟩
def d_is_clock : He.DefD := ⟨("is_clock", none), "is_clock", "is_clock", defArgs s_is_clock, defBody s_is_clock, defScope s_is_clock, [], []⟩
def d_is_word : He.DefD := ⟨("is_word", none), "is_word", "is_word", defArgs s_is_word, defBody s_is_word, defScope s_is_word, [], []⟩
def d_rank_of : He.DefD := ⟨("rank_of", none), "rank_of", "rank_of", defArgs s_rank_of, defBody s_rank_of, defScope s_rank_of, [], []⟩
def d_Bag__init__ : He.DefD := ⟨("Bag", some "__init__"), "__init__", "Bag.__init__", defArgs s_Bag__init__, defBody s_Bag__init__, defScope s_Bag__init__, [], []⟩
def d_Bag__eq__ : He.DefD := ⟨("Bag", some "__eq__"), "__eq__", "Bag.__eq__", defArgs s_Bag__eq__, defBody s_Bag__eq__, defScope s_Bag__eq__, [], []⟩
def d_are_words : He.DefD := ⟨("are_words", none), "are_words", "are_words", defArgs s_are_words, defBody s_are_words, defScope s_are_words, [], []⟩
def d_is_short_word : He.DefD := ⟨("is_short_word", none), "is_short_word", "is_short_word", defArgs s_is_short_word, defBody s_is_short_word, defScope s_is_short_word, [], []⟩
def d_pairs_of : He.DefD := ⟨("pairs_of", none), "pairs_of", "pairs_of", defArgs s_pairs_of, defBody s_pairs_of, defScope s_pairs_of, [], []⟩
def d_read_row : He.DefD := ⟨("read_row", none), "read_row", "read_row", defArgs s_read_row, defBody s_read_row, defScope s_read_row, [], []⟩
def d_check_string : He.DefD := ⟨("check_string", none), "check_string", "check_string", defArgs s_check_string, defBody s_check_string, defScope s_check_string, [], []⟩
def d_told_bag : He.DefD := ⟨("told_bag", none), "told_bag", "told_bag", defArgs s_told_bag, defBody s_told_bag, defScope s_told_bag, [], []⟩
def d_told_term : He.DefD := ⟨("told_term", none), "told_term", "told_term", defArgs s_told_term, defBody s_told_term, defScope s_told_term, [], []⟩
def d__law_tape : He.DefD := ⟨("_law_tape", none), "_law_tape", "_law_tape", defArgs s__law_tape, defBody s__law_tape, defScope s__law_tape, [], []⟩
def d__law_pick : He.DefD := ⟨("_law_pick", none), "_law_pick", "_law_pick", defArgs s__law_pick, defBody s__law_pick, defScope s__law_pick, [], []⟩
def d__law_word : He.DefD := ⟨("_law_word", none), "_law_word", "_law_word", defArgs s__law_word, defBody s__law_word, defScope s__law_word, [], []⟩
def d__law_sparse : He.DefD := ⟨("_law_sparse", none), "_law_sparse", "_law_sparse", defArgs s__law_sparse, defBody s__law_sparse, defScope s__law_sparse, [], []⟩
def d__law_clock : He.DefD := ⟨("_law_clock", none), "_law_clock", "_law_clock", defArgs s__law_clock, defBody s__law_clock, defScope s__law_clock, [], []⟩
def d__law_letters : He.DefD := ⟨("_law_letters", none), "_law_letters", "_law_letters", defArgs s__law_letters, defBody s__law_letters, defScope s__law_letters, [], []⟩
def d__law_pairs : He.DefD := ⟨("_law_pairs", none), "_law_pairs", "_law_pairs", defArgs s__law_pairs, defBody s__law_pairs, defScope s__law_pairs, [], []⟩
def d__law_sum : He.DefD := ⟨("_law_sum", none), "_law_sum", "_law_sum", defArgs s__law_sum, defBody s__law_sum, defScope s__law_sum, [], []⟩
def d__law_product : He.DefD := ⟨("_law_product", none), "_law_product", "_law_product", defArgs s__law_product, defBody s__law_product, defScope s__law_product, [], []⟩
def d__law_size : He.DefD := ⟨("_law_size", none), "_law_size", "_law_size", defArgs s__law_size, defBody s__law_size, defScope s__law_size, [], []⟩
def d__law_is : He.DefD := ⟨("_law_is", none), "_law_is", "_law_is", defArgs s__law_is, defBody s__law_is, defScope s__law_is, [], []⟩
def d__law_text_of : He.DefD := ⟨("_law_text_of", none), "_law_text_of", "_law_text_of", defArgs s__law_text_of, defBody s__law_text_of, defScope s__law_text_of, [], []⟩
def d__law_word_told : He.DefD := ⟨("_law_word_told", none), "_law_word_told", "_law_word_told", defArgs s__law_word_told, defBody s__law_word_told, defScope s__law_word_told, [], []⟩
def d__law_read : He.DefD := ⟨("_law_read", none), "_law_read", "_law_read", defArgs s__law_read, defBody s__law_read, defScope s__law_read, [], []⟩
def d__law_spoiled : He.DefD := ⟨("_law_spoiled", none), "_law_spoiled", "_law_spoiled", defArgs s__law_spoiled, defBody s__law_spoiled, defScope s__law_spoiled, [], []⟩
def d__law_is_int : He.DefD := ⟨("_law_is_int", none), "_law_is_int", "_law_is_int", defArgs s__law_is_int, defBody s__law_is_int, defScope s__law_is_int, [], []⟩
def d__law_odd : He.DefD := ⟨("_law_odd", none), "_law_odd", "_law_odd", defArgs s__law_odd, defBody s__law_odd, defScope s__law_odd, [], []⟩
def d__law_deep : He.DefD := ⟨("_law_deep", none), "_law_deep", "_law_deep", defArgs s__law_deep, defBody s__law_deep, defScope s__law_deep, [], []⟩
def d__law_due : He.DefD := ⟨("_law_due", none), "_law_due", "_law_due", defArgs s__law_due, defBody s__law_due, defScope s__law_due, [], []⟩
def d__law_told : He.DefD := ⟨("_law_told", none), "_law_told", "_law_told", defArgs s__law_told, defBody s__law_told, defScope s__law_told, [], []⟩
def d__law_is_right : He.DefD := ⟨("_law_is_right", none), "_law_is_right", "_law_is_right", defArgs s__law_is_right, defBody s__law_is_right, defScope s__law_is_right, [], []⟩
def d__law_changed : He.DefD := ⟨("_law_changed", none), "_law_changed", "_law_changed", defArgs s__law_changed, defBody s__law_changed, defScope s__law_changed, [], []⟩
def d_law : He.DefD := ⟨("law", none), "law", "law", defArgs s_law, defBody s_law, defScope s_law, [], []⟩
def fn : List He.DefD := [d_BadText__init__, d_is_integer, d_is_from_to, d_is_clock, d_is_word, d_rank_of, d_Bag__init__, d_Bag__eq__, d_are_words, d_is_short_word, d_pairs_of, d_read_row, d_check_string, d_told_bag, d_told_term, d__law_tape, d__law_pick, d__law_word, d__law_sparse, d__law_clock, d__law_letters, d__law_pairs, d__law_sum, d__law_product, d__law_size, d__law_is, d__law_text_of, d__law_word_told, d__law_read, d__law_spoiled, d__law_is_int, d__law_odd, d__law_deep, d__law_due, d__law_told, d__law_is_right, d__law_changed, d_law]
def fa : List He.Fa := [.glo "is_integer", .glo "is_from_to", .glo "is_clock", .glo "is_word", .glo "rank_of", .glo "are_words", .glo "is_short_word", .glo "pairs_of", .glo "read_row", .glo "check_string", .glo "told_bag", .glo "told_term", .glo "_law_tape", .glo "_law_pick", .glo "_law_word", .glo "_law_sparse", .glo "_law_clock", .glo "_law_letters", .glo "_law_pairs", .glo "_law_sum", .glo "_law_product", .glo "_law_size", .glo "_law_is", .glo "_law_text_of", .glo "_law_word_told", .glo "_law_read", .glo "_law_spoiled", .glo "_law_is_int", .glo "_law_odd", .glo "_law_deep", .glo "_law_due", .glo "_law_told", .glo "_law_is_right", .glo "_law_changed", .glo "law", .glo "BagError", .exc "BagError", .glo "BadBag", .glo "BadText", .glo "Bag", .cls "Bag", .mkr "Bag", .meth "Bag" "__eq__", .noat "Bag" "clock", .noat "Bag" "words", .glo "CLOCKS", .str "LETTERS" "xyz", .int "MOST_WORDS" 300, .int "MOST_LETTERS" 12, .free "all", .free "bool", .free "dict", .free "enumerate", .free "int", .free "isinstance", .free "len", .free "list", .free "max", .free "range", .free "repr", .free "sorted", .free "str", .free "tuple"]
def exl (K : PySem.W.Frag) : List Bool := [He.tupB K "CLOCKS" [.int 2, .int 3, .int 5, .int 7], decide (PySem.W.findIn K (.ref (He.ga K "Bag")) "__class__" = some (some (.builtin "object.__class__"))), decide (PySem.W.specialIn K (.builtin "object.__class__") "__get__" = some (some (.builtin "getset_descriptor.__get__"))), decide (PySem.W.takesIn K (.builtin "object.__class__") = some true), decide (PySem.W.mroIn K (He.ga K "Bag") (.type "object") = some true), decide (PySem.W.findIn K (.ref (He.ga K "Bag")) "__ne__" = some (some (.builtin "object.__ne__"))), decide (PySem.W.kitOne K (.ref (He.ga K "Bag")) (.ref (He.ga K "Bag")) = some true), PySem.W.notFirst K (He.ga K "Bag") (.type "NoneType"), decide (PySem.W.kitOne K (.type "NoneType") (.ref (He.ga K "Bag")) = some false), PySem.W.notFirst K (He.ga K "Bag") (.type "int"), decide (PySem.W.kitOne K (.type "int") (.ref (He.ga K "Bag")) = some false), PySem.W.notFirst K (He.ga K "Bag") (.type "bool"), decide (PySem.W.kitOne K (.type "bool") (.ref (He.ga K "Bag")) = some false), PySem.W.notFirst K (He.ga K "Bag") (.type "str"), decide (PySem.W.kitOne K (.type "str") (.ref (He.ga K "Bag")) = some false), PySem.W.notFirst K (He.ga K "Bag") (.type "dict"), decide (PySem.W.kitOne K (.type "dict") (.ref (He.ga K "Bag")) = some false), PySem.W.notFirst K (He.ga K "Bag") (.type "list"), decide (PySem.W.kitOne K (.type "list") (.ref (He.ga K "Bag")) = some false), PySem.W.notFirst K (He.ga K "Bag") (.type "tuple"), decide (PySem.W.kitOne K (.type "tuple") (.ref (He.ga K "Bag")) = some false), decide (PySem.W.exmOne K (.ref (He.ga K "BagError")) (.ref (He.ga K "BagError")) = some true), oexB K (He.ga K "BadText"), xfB K (He.ga K "BadText"), decide (PySem.W.findIn K (.ref (He.ga K "BadText")) "__init__" = some (some (.ref (He.ma K (He.ga K "BadText") "__init__")))), decide (PySem.W.typeIn K (.ref (He.ma K (He.ga K "BadText") "__init__")) = some (.type "function")), decide (PySem.W.findIn K (.ref (He.ga K "BadText")) "line" = some none), decide (PySem.W.exmOne K (.ref (He.ga K "BadText")) (.ref (He.ga K "BadText")) = some true), decide (PySem.W.kitOne K (.ref (He.ga K "Bag")) (.type "str") = some false)]
def ex (K : PySem.W.Frag) : Bool := (exl K).all id
/-- what the top has left -/
structure Top (K : PySem.W.Frag) (mg : Str → Option Value) : Prop where
  h : ∃ h : Heap, K.In h ∧ h.Ns mainGlobals mg
  c : He.SaysD fa fn K
  e : ex K = true
section
variable {K : PySem.W.Frag} {mg : Str → Option Value}
theorem Top.x (T : Top K mg) (i : Nat) {b : Bool} (h : (exl K)[i]? = some b := by rfl) : b = true := by
  have := List.all_eq_true.mp T.e b (List.mem_of_getElem? h)
  exact this
theorem g_is_integer (T : Top K mg) : mg "is_integer" = some (.ref (He.ga K "is_integer")) := by
  obtain ⟨h, X, G⟩ := T.h
  exact He.glo_ok X G (T.c.fact 0 (f := .glo "is_integer") rfl)
theorem g_is_from_to (T : Top K mg) : mg "is_from_to" = some (.ref (He.ga K "is_from_to")) := by
  obtain ⟨h, X, G⟩ := T.h
  exact He.glo_ok X G (T.c.fact 1 (f := .glo "is_from_to") rfl)
theorem g_is_clock (T : Top K mg) : mg "is_clock" = some (.ref (He.ga K "is_clock")) := by
  obtain ⟨h, X, G⟩ := T.h
  exact He.glo_ok X G (T.c.fact 2 (f := .glo "is_clock") rfl)
theorem g_is_word (T : Top K mg) : mg "is_word" = some (.ref (He.ga K "is_word")) := by
  obtain ⟨h, X, G⟩ := T.h
  exact He.glo_ok X G (T.c.fact 3 (f := .glo "is_word") rfl)
theorem g_rank_of (T : Top K mg) : mg "rank_of" = some (.ref (He.ga K "rank_of")) := by
  obtain ⟨h, X, G⟩ := T.h
  exact He.glo_ok X G (T.c.fact 4 (f := .glo "rank_of") rfl)
theorem g_are_words (T : Top K mg) : mg "are_words" = some (.ref (He.ga K "are_words")) := by
  obtain ⟨h, X, G⟩ := T.h
  exact He.glo_ok X G (T.c.fact 5 (f := .glo "are_words") rfl)
theorem g_is_short_word (T : Top K mg) : mg "is_short_word" = some (.ref (He.ga K "is_short_word")) := by
  obtain ⟨h, X, G⟩ := T.h
  exact He.glo_ok X G (T.c.fact 6 (f := .glo "is_short_word") rfl)
theorem g_pairs_of (T : Top K mg) : mg "pairs_of" = some (.ref (He.ga K "pairs_of")) := by
  obtain ⟨h, X, G⟩ := T.h
  exact He.glo_ok X G (T.c.fact 7 (f := .glo "pairs_of") rfl)
theorem g_read_row (T : Top K mg) : mg "read_row" = some (.ref (He.ga K "read_row")) := by
  obtain ⟨h, X, G⟩ := T.h
  exact He.glo_ok X G (T.c.fact 8 (f := .glo "read_row") rfl)
theorem g_check_string (T : Top K mg) : mg "check_string" = some (.ref (He.ga K "check_string")) := by
  obtain ⟨h, X, G⟩ := T.h
  exact He.glo_ok X G (T.c.fact 9 (f := .glo "check_string") rfl)
theorem g_told_bag (T : Top K mg) : mg "told_bag" = some (.ref (He.ga K "told_bag")) := by
  obtain ⟨h, X, G⟩ := T.h
  exact He.glo_ok X G (T.c.fact 10 (f := .glo "told_bag") rfl)
theorem g_told_term (T : Top K mg) : mg "told_term" = some (.ref (He.ga K "told_term")) := by
  obtain ⟨h, X, G⟩ := T.h
  exact He.glo_ok X G (T.c.fact 11 (f := .glo "told_term") rfl)
theorem g__law_tape (T : Top K mg) : mg "_law_tape" = some (.ref (He.ga K "_law_tape")) := by
  obtain ⟨h, X, G⟩ := T.h
  exact He.glo_ok X G (T.c.fact 12 (f := .glo "_law_tape") rfl)
theorem g__law_pick (T : Top K mg) : mg "_law_pick" = some (.ref (He.ga K "_law_pick")) := by
  obtain ⟨h, X, G⟩ := T.h
  exact He.glo_ok X G (T.c.fact 13 (f := .glo "_law_pick") rfl)
theorem g__law_word (T : Top K mg) : mg "_law_word" = some (.ref (He.ga K "_law_word")) := by
  obtain ⟨h, X, G⟩ := T.h
  exact He.glo_ok X G (T.c.fact 14 (f := .glo "_law_word") rfl)
theorem g__law_sparse (T : Top K mg) : mg "_law_sparse" = some (.ref (He.ga K "_law_sparse")) := by
  obtain ⟨h, X, G⟩ := T.h
  exact He.glo_ok X G (T.c.fact 15 (f := .glo "_law_sparse") rfl)
theorem g__law_clock (T : Top K mg) : mg "_law_clock" = some (.ref (He.ga K "_law_clock")) := by
  obtain ⟨h, X, G⟩ := T.h
  exact He.glo_ok X G (T.c.fact 16 (f := .glo "_law_clock") rfl)
theorem g__law_letters (T : Top K mg) : mg "_law_letters" = some (.ref (He.ga K "_law_letters")) := by
  obtain ⟨h, X, G⟩ := T.h
  exact He.glo_ok X G (T.c.fact 17 (f := .glo "_law_letters") rfl)
theorem g__law_pairs (T : Top K mg) : mg "_law_pairs" = some (.ref (He.ga K "_law_pairs")) := by
  obtain ⟨h, X, G⟩ := T.h
  exact He.glo_ok X G (T.c.fact 18 (f := .glo "_law_pairs") rfl)
theorem g__law_sum (T : Top K mg) : mg "_law_sum" = some (.ref (He.ga K "_law_sum")) := by
  obtain ⟨h, X, G⟩ := T.h
  exact He.glo_ok X G (T.c.fact 19 (f := .glo "_law_sum") rfl)
theorem g__law_product (T : Top K mg) : mg "_law_product" = some (.ref (He.ga K "_law_product")) := by
  obtain ⟨h, X, G⟩ := T.h
  exact He.glo_ok X G (T.c.fact 20 (f := .glo "_law_product") rfl)
theorem g__law_size (T : Top K mg) : mg "_law_size" = some (.ref (He.ga K "_law_size")) := by
  obtain ⟨h, X, G⟩ := T.h
  exact He.glo_ok X G (T.c.fact 21 (f := .glo "_law_size") rfl)
theorem g__law_is (T : Top K mg) : mg "_law_is" = some (.ref (He.ga K "_law_is")) := by
  obtain ⟨h, X, G⟩ := T.h
  exact He.glo_ok X G (T.c.fact 22 (f := .glo "_law_is") rfl)
theorem g__law_text_of (T : Top K mg) : mg "_law_text_of" = some (.ref (He.ga K "_law_text_of")) := by
  obtain ⟨h, X, G⟩ := T.h
  exact He.glo_ok X G (T.c.fact 23 (f := .glo "_law_text_of") rfl)
theorem g__law_word_told (T : Top K mg) : mg "_law_word_told" = some (.ref (He.ga K "_law_word_told")) := by
  obtain ⟨h, X, G⟩ := T.h
  exact He.glo_ok X G (T.c.fact 24 (f := .glo "_law_word_told") rfl)
theorem g__law_read (T : Top K mg) : mg "_law_read" = some (.ref (He.ga K "_law_read")) := by
  obtain ⟨h, X, G⟩ := T.h
  exact He.glo_ok X G (T.c.fact 25 (f := .glo "_law_read") rfl)
theorem g__law_spoiled (T : Top K mg) : mg "_law_spoiled" = some (.ref (He.ga K "_law_spoiled")) := by
  obtain ⟨h, X, G⟩ := T.h
  exact He.glo_ok X G (T.c.fact 26 (f := .glo "_law_spoiled") rfl)
theorem g__law_is_int (T : Top K mg) : mg "_law_is_int" = some (.ref (He.ga K "_law_is_int")) := by
  obtain ⟨h, X, G⟩ := T.h
  exact He.glo_ok X G (T.c.fact 27 (f := .glo "_law_is_int") rfl)
theorem g__law_odd (T : Top K mg) : mg "_law_odd" = some (.ref (He.ga K "_law_odd")) := by
  obtain ⟨h, X, G⟩ := T.h
  exact He.glo_ok X G (T.c.fact 28 (f := .glo "_law_odd") rfl)
theorem g__law_deep (T : Top K mg) : mg "_law_deep" = some (.ref (He.ga K "_law_deep")) := by
  obtain ⟨h, X, G⟩ := T.h
  exact He.glo_ok X G (T.c.fact 29 (f := .glo "_law_deep") rfl)
theorem g__law_due (T : Top K mg) : mg "_law_due" = some (.ref (He.ga K "_law_due")) := by
  obtain ⟨h, X, G⟩ := T.h
  exact He.glo_ok X G (T.c.fact 30 (f := .glo "_law_due") rfl)
theorem g__law_told (T : Top K mg) : mg "_law_told" = some (.ref (He.ga K "_law_told")) := by
  obtain ⟨h, X, G⟩ := T.h
  exact He.glo_ok X G (T.c.fact 31 (f := .glo "_law_told") rfl)
theorem g__law_is_right (T : Top K mg) : mg "_law_is_right" = some (.ref (He.ga K "_law_is_right")) := by
  obtain ⟨h, X, G⟩ := T.h
  exact He.glo_ok X G (T.c.fact 32 (f := .glo "_law_is_right") rfl)
theorem g__law_changed (T : Top K mg) : mg "_law_changed" = some (.ref (He.ga K "_law_changed")) := by
  obtain ⟨h, X, G⟩ := T.h
  exact He.glo_ok X G (T.c.fact 33 (f := .glo "_law_changed") rfl)
theorem g_law (T : Top K mg) : mg "law" = some (.ref (He.ga K "law")) := by
  obtain ⟨h, X, G⟩ := T.h
  exact He.glo_ok X G (T.c.fact 34 (f := .glo "law") rfl)
theorem g_BagError (T : Top K mg) : mg "BagError" = some (.ref (He.ga K "BagError")) := by
  obtain ⟨h, X, G⟩ := T.h
  exact He.glo_ok X G (T.c.fact 35 (f := .glo "BagError") rfl)
theorem e_BagError (T : Top K mg) : PySem.W.excIn K (He.ga K "BagError") He.veBase "ValueError.__new__" = true ∧ PySem.W.keepIn K (.ref (He.ga K "BagError")) = true ∧ PySem.W.subIn K (.ref (He.ga K "BagError")) (.type "BaseException") = some true ∧ PySem.W.typeIn K (.ref (He.ga K "BagError")) = some (.type "type") := He.exc_ok (T.c.fact 36 (f := .exc "BagError") rfl)
theorem g_BadBag (T : Top K mg) : mg "BadBag" = some (.ref (He.ga K "BadBag")) := by
  obtain ⟨h, X, G⟩ := T.h
  exact He.glo_ok X G (T.c.fact 37 (f := .glo "BadBag") rfl)
theorem g_BadText (T : Top K mg) : mg "BadText" = some (.ref (He.ga K "BadText")) := by
  obtain ⟨h, X, G⟩ := T.h
  exact He.glo_ok X G (T.c.fact 38 (f := .glo "BadText") rfl)
theorem g_Bag (T : Top K mg) : mg "Bag" = some (.ref (He.ga K "Bag")) := by
  obtain ⟨h, X, G⟩ := T.h
  exact He.glo_ok X G (T.c.fact 39 (f := .glo "Bag") rfl)
theorem cls_Bag (T : Top K mg) : Cls K (He.ga K "Bag") := He.cls_ok (T.c.fact 40 (f := .cls "Bag") rfl)
theorem mk_Bag (T : Top K mg) : Mk K (He.ga K "Bag") (He.ma K (He.ga K "Bag") "__init__") := He.mkr_ok (T.c.fact 41 (f := .mkr "Bag") rfl)
theorem m_Bag___eq__ (T : Top K mg) : Meth K (He.ga K "Bag") "__eq__" (He.ma K (He.ga K "Bag") "__eq__") := He.meth_ok (T.c.fact 42 (f := .meth "Bag" "__eq__") rfl)
theorem na_Bag_clock (T : Top K mg) : NoAttr K (He.ga K "Bag") "clock" := He.noat_ok (T.c.fact 43 (f := .noat "Bag" "clock") rfl)
theorem na_Bag_words (T : Top K mg) : NoAttr K (He.ga K "Bag") "words" := He.noat_ok (T.c.fact 44 (f := .noat "Bag" "words") rfl)
theorem g_CLOCKS (T : Top K mg) : mg "CLOCKS" = some (.ref (He.ga K "CLOCKS")) := by
  obtain ⟨h, X, G⟩ := T.h
  exact He.glo_ok X G (T.c.fact 45 (f := .glo "CLOCKS") rfl)
theorem t_LETTERS (T : Top K mg) : ∃ t, mg "LETTERS" = some (.str "xyz" t) := by
  obtain ⟨h, X, G⟩ := T.h
  exact He.str_ok X G (T.c.fact 46 (f := .str "LETTERS" "xyz") rfl)
theorem i_MOST_WORDS (T : Top K mg) : ∃ t, mg "MOST_WORDS" = some (.int 300 t) := by
  obtain ⟨h, X, G⟩ := T.h
  exact He.int_ok X G (T.c.fact 47 (f := .int "MOST_WORDS" 300) rfl)
theorem i_MOST_LETTERS (T : Top K mg) : ∃ t, mg "MOST_LETTERS" = some (.int 12 t) := by
  obtain ⟨h, X, G⟩ := T.h
  exact He.int_ok X G (T.c.fact 48 (f := .int "MOST_LETTERS" 12) rfl)
theorem f_all (T : Top K mg) : mg "all" = none := by
  obtain ⟨h, X, G⟩ := T.h
  exact He.free_ok X G (T.c.fact 49 (f := .free "all") rfl)
theorem f_bool (T : Top K mg) : mg "bool" = none := by
  obtain ⟨h, X, G⟩ := T.h
  exact He.free_ok X G (T.c.fact 50 (f := .free "bool") rfl)
theorem f_dict (T : Top K mg) : mg "dict" = none := by
  obtain ⟨h, X, G⟩ := T.h
  exact He.free_ok X G (T.c.fact 51 (f := .free "dict") rfl)
theorem f_enumerate (T : Top K mg) : mg "enumerate" = none := by
  obtain ⟨h, X, G⟩ := T.h
  exact He.free_ok X G (T.c.fact 52 (f := .free "enumerate") rfl)
theorem f_int (T : Top K mg) : mg "int" = none := by
  obtain ⟨h, X, G⟩ := T.h
  exact He.free_ok X G (T.c.fact 53 (f := .free "int") rfl)
theorem f_isinstance (T : Top K mg) : mg "isinstance" = none := by
  obtain ⟨h, X, G⟩ := T.h
  exact He.free_ok X G (T.c.fact 54 (f := .free "isinstance") rfl)
theorem f_len (T : Top K mg) : mg "len" = none := by
  obtain ⟨h, X, G⟩ := T.h
  exact He.free_ok X G (T.c.fact 55 (f := .free "len") rfl)
theorem f_list (T : Top K mg) : mg "list" = none := by
  obtain ⟨h, X, G⟩ := T.h
  exact He.free_ok X G (T.c.fact 56 (f := .free "list") rfl)
theorem f_max (T : Top K mg) : mg "max" = none := by
  obtain ⟨h, X, G⟩ := T.h
  exact He.free_ok X G (T.c.fact 57 (f := .free "max") rfl)
theorem f_range (T : Top K mg) : mg "range" = none := by
  obtain ⟨h, X, G⟩ := T.h
  exact He.free_ok X G (T.c.fact 58 (f := .free "range") rfl)
theorem f_repr (T : Top K mg) : mg "repr" = none := by
  obtain ⟨h, X, G⟩ := T.h
  exact He.free_ok X G (T.c.fact 59 (f := .free "repr") rfl)
theorem f_sorted (T : Top K mg) : mg "sorted" = none := by
  obtain ⟨h, X, G⟩ := T.h
  exact He.free_ok X G (T.c.fact 60 (f := .free "sorted") rfl)
theorem f_str (T : Top K mg) : mg "str" = none := by
  obtain ⟨h, X, G⟩ := T.h
  exact He.free_ok X G (T.c.fact 61 (f := .free "str") rfl)
theorem f_tuple (T : Top K mg) : mg "tuple" = none := by
  obtain ⟨h, X, G⟩ := T.h
  exact He.free_ok X G (T.c.fact 62 (f := .free "tuple") rfl)
theorem fn_BadText__init__ (T : Top K mg) : ∃ fd, FnP K "__init__" "BadText.__init__" s_BadText__init__ (He.fAd K ("BadText", some "__init__")) fd := T.c.def_ 0 (d := d_BadText__init__) rfl
theorem fn_is_integer (T : Top K mg) : ∃ fd, FnP K "is_integer" "is_integer" s_is_integer (He.fAd K ("is_integer", none)) fd := T.c.def_ 1 (d := d_is_integer) rfl
theorem fn_is_from_to (T : Top K mg) : ∃ fd, FnP K "is_from_to" "is_from_to" s_is_from_to (He.fAd K ("is_from_to", none)) fd := T.c.def_ 2 (d := d_is_from_to) rfl
theorem fn_is_clock (T : Top K mg) : ∃ fd, FnP K "is_clock" "is_clock" s_is_clock (He.fAd K ("is_clock", none)) fd := T.c.def_ 3 (d := d_is_clock) rfl
theorem fn_is_word (T : Top K mg) : ∃ fd, FnP K "is_word" "is_word" s_is_word (He.fAd K ("is_word", none)) fd := T.c.def_ 4 (d := d_is_word) rfl
theorem fn_rank_of (T : Top K mg) : ∃ fd, FnP K "rank_of" "rank_of" s_rank_of (He.fAd K ("rank_of", none)) fd := T.c.def_ 5 (d := d_rank_of) rfl
theorem fn_Bag__init__ (T : Top K mg) : ∃ fd, FnP K "__init__" "Bag.__init__" s_Bag__init__ (He.fAd K ("Bag", some "__init__")) fd := T.c.def_ 6 (d := d_Bag__init__) rfl
theorem fn_Bag__eq__ (T : Top K mg) : ∃ fd, FnP K "__eq__" "Bag.__eq__" s_Bag__eq__ (He.fAd K ("Bag", some "__eq__")) fd := T.c.def_ 7 (d := d_Bag__eq__) rfl
theorem fn_are_words (T : Top K mg) : ∃ fd, FnP K "are_words" "are_words" s_are_words (He.fAd K ("are_words", none)) fd := T.c.def_ 8 (d := d_are_words) rfl
theorem fn_is_short_word (T : Top K mg) : ∃ fd, FnP K "is_short_word" "is_short_word" s_is_short_word (He.fAd K ("is_short_word", none)) fd := T.c.def_ 9 (d := d_is_short_word) rfl
theorem fn_pairs_of (T : Top K mg) : ∃ fd, FnP K "pairs_of" "pairs_of" s_pairs_of (He.fAd K ("pairs_of", none)) fd := T.c.def_ 10 (d := d_pairs_of) rfl
theorem fn_read_row (T : Top K mg) : ∃ fd, FnP K "read_row" "read_row" s_read_row (He.fAd K ("read_row", none)) fd := T.c.def_ 11 (d := d_read_row) rfl
theorem fn_check_string (T : Top K mg) : ∃ fd, FnP K "check_string" "check_string" s_check_string (He.fAd K ("check_string", none)) fd := T.c.def_ 12 (d := d_check_string) rfl
theorem fn_told_bag (T : Top K mg) : ∃ fd, FnP K "told_bag" "told_bag" s_told_bag (He.fAd K ("told_bag", none)) fd := T.c.def_ 13 (d := d_told_bag) rfl
theorem fn_told_term (T : Top K mg) : ∃ fd, FnP K "told_term" "told_term" s_told_term (He.fAd K ("told_term", none)) fd := T.c.def_ 14 (d := d_told_term) rfl
theorem fn__law_tape (T : Top K mg) : ∃ fd, FnP K "_law_tape" "_law_tape" s__law_tape (He.fAd K ("_law_tape", none)) fd := T.c.def_ 15 (d := d__law_tape) rfl
theorem fn__law_pick (T : Top K mg) : ∃ fd, FnP K "_law_pick" "_law_pick" s__law_pick (He.fAd K ("_law_pick", none)) fd := T.c.def_ 16 (d := d__law_pick) rfl
theorem fn__law_word (T : Top K mg) : ∃ fd, FnP K "_law_word" "_law_word" s__law_word (He.fAd K ("_law_word", none)) fd := T.c.def_ 17 (d := d__law_word) rfl
theorem fn__law_sparse (T : Top K mg) : ∃ fd, FnP K "_law_sparse" "_law_sparse" s__law_sparse (He.fAd K ("_law_sparse", none)) fd := T.c.def_ 18 (d := d__law_sparse) rfl
theorem fn__law_clock (T : Top K mg) : ∃ fd, FnP K "_law_clock" "_law_clock" s__law_clock (He.fAd K ("_law_clock", none)) fd := T.c.def_ 19 (d := d__law_clock) rfl
theorem fn__law_letters (T : Top K mg) : ∃ fd, FnP K "_law_letters" "_law_letters" s__law_letters (He.fAd K ("_law_letters", none)) fd := T.c.def_ 20 (d := d__law_letters) rfl
theorem fn__law_pairs (T : Top K mg) : ∃ fd, FnP K "_law_pairs" "_law_pairs" s__law_pairs (He.fAd K ("_law_pairs", none)) fd := T.c.def_ 21 (d := d__law_pairs) rfl
theorem fn__law_sum (T : Top K mg) : ∃ fd, FnP K "_law_sum" "_law_sum" s__law_sum (He.fAd K ("_law_sum", none)) fd := T.c.def_ 22 (d := d__law_sum) rfl
theorem fn__law_product (T : Top K mg) : ∃ fd, FnP K "_law_product" "_law_product" s__law_product (He.fAd K ("_law_product", none)) fd := T.c.def_ 23 (d := d__law_product) rfl
theorem fn__law_size (T : Top K mg) : ∃ fd, FnP K "_law_size" "_law_size" s__law_size (He.fAd K ("_law_size", none)) fd := T.c.def_ 24 (d := d__law_size) rfl
theorem fn__law_is (T : Top K mg) : ∃ fd, FnP K "_law_is" "_law_is" s__law_is (He.fAd K ("_law_is", none)) fd := T.c.def_ 25 (d := d__law_is) rfl
theorem fn__law_text_of (T : Top K mg) : ∃ fd, FnP K "_law_text_of" "_law_text_of" s__law_text_of (He.fAd K ("_law_text_of", none)) fd := T.c.def_ 26 (d := d__law_text_of) rfl
theorem fn__law_word_told (T : Top K mg) : ∃ fd, FnP K "_law_word_told" "_law_word_told" s__law_word_told (He.fAd K ("_law_word_told", none)) fd := T.c.def_ 27 (d := d__law_word_told) rfl
theorem fn__law_read (T : Top K mg) : ∃ fd, FnP K "_law_read" "_law_read" s__law_read (He.fAd K ("_law_read", none)) fd := T.c.def_ 28 (d := d__law_read) rfl
theorem fn__law_spoiled (T : Top K mg) : ∃ fd, FnP K "_law_spoiled" "_law_spoiled" s__law_spoiled (He.fAd K ("_law_spoiled", none)) fd := T.c.def_ 29 (d := d__law_spoiled) rfl
theorem fn__law_is_int (T : Top K mg) : ∃ fd, FnP K "_law_is_int" "_law_is_int" s__law_is_int (He.fAd K ("_law_is_int", none)) fd := T.c.def_ 30 (d := d__law_is_int) rfl
theorem fn__law_odd (T : Top K mg) : ∃ fd, FnP K "_law_odd" "_law_odd" s__law_odd (He.fAd K ("_law_odd", none)) fd := T.c.def_ 31 (d := d__law_odd) rfl
theorem fn__law_deep (T : Top K mg) : ∃ fd, FnP K "_law_deep" "_law_deep" s__law_deep (He.fAd K ("_law_deep", none)) fd := T.c.def_ 32 (d := d__law_deep) rfl
theorem fn__law_due (T : Top K mg) : ∃ fd, FnP K "_law_due" "_law_due" s__law_due (He.fAd K ("_law_due", none)) fd := T.c.def_ 33 (d := d__law_due) rfl
theorem fn__law_told (T : Top K mg) : ∃ fd, FnP K "_law_told" "_law_told" s__law_told (He.fAd K ("_law_told", none)) fd := T.c.def_ 34 (d := d__law_told) rfl
theorem fn__law_is_right (T : Top K mg) : ∃ fd, FnP K "_law_is_right" "_law_is_right" s__law_is_right (He.fAd K ("_law_is_right", none)) fd := T.c.def_ 35 (d := d__law_is_right) rfl
theorem fn__law_changed (T : Top K mg) : ∃ fd, FnP K "_law_changed" "_law_changed" s__law_changed (He.fAd K ("_law_changed", none)) fd := T.c.def_ 36 (d := d__law_changed) rfl
theorem fn_law (T : Top K mg) : ∃ fd, FnP K "law" "law" s_law (He.fAd K ("law", none)) fd := T.c.def_ 37 (d := d_law) rfl
theorem x_CLOCKS (T : Top K mg) (H : Hp) : SqT K H (He.ga K "CLOCKS") [.int 2, .int 3, .int 5, .int 7] := He.tupB_ok (T.x 0) H
theorem x_class (T : Top K mg) : PySem.W.findIn K (.ref (He.ga K "Bag")) "__class__" = some (some (.builtin "object.__class__")) := of_decide_eq_true (T.x 1)
theorem x_get (T : Top K mg) : PySem.W.specialIn K (.builtin "object.__class__") "__get__" = some (some (.builtin "getset_descriptor.__get__")) := of_decide_eq_true (T.x 2)
theorem x_takes (T : Top K mg) : PySem.W.takesIn K (.builtin "object.__class__") = some true := of_decide_eq_true (T.x 3)
theorem x_mro (T : Top K mg) : PySem.W.mroIn K (He.ga K "Bag") (.type "object") = some true := of_decide_eq_true (T.x 4)
theorem x_ne (T : Top K mg) : PySem.W.findIn K (.ref (He.ga K "Bag")) "__ne__" = some (some (.builtin "object.__ne__")) := of_decide_eq_true (T.x 5)
theorem x_is (T : Top K mg) : PySem.W.kitOne K (.ref (He.ga K "Bag")) (.ref (He.ga K "Bag")) = some true := of_decide_eq_true (T.x 6)
theorem x_nf_NoneType (T : Top K mg) : PySem.W.notFirst K (He.ga K "Bag") (.type "NoneType") = true := T.x 7
theorem x_no_NoneType (T : Top K mg) : PySem.W.kitOne K (.type "NoneType") (.ref (He.ga K "Bag")) = some false := of_decide_eq_true (T.x 8)
theorem x_nf_int (T : Top K mg) : PySem.W.notFirst K (He.ga K "Bag") (.type "int") = true := T.x 9
theorem x_no_int (T : Top K mg) : PySem.W.kitOne K (.type "int") (.ref (He.ga K "Bag")) = some false := of_decide_eq_true (T.x 10)
theorem x_nf_bool (T : Top K mg) : PySem.W.notFirst K (He.ga K "Bag") (.type "bool") = true := T.x 11
theorem x_no_bool (T : Top K mg) : PySem.W.kitOne K (.type "bool") (.ref (He.ga K "Bag")) = some false := of_decide_eq_true (T.x 12)
theorem x_nf_str (T : Top K mg) : PySem.W.notFirst K (He.ga K "Bag") (.type "str") = true := T.x 13
theorem x_no_str (T : Top K mg) : PySem.W.kitOne K (.type "str") (.ref (He.ga K "Bag")) = some false := of_decide_eq_true (T.x 14)
theorem x_nf_dict (T : Top K mg) : PySem.W.notFirst K (He.ga K "Bag") (.type "dict") = true := T.x 15
theorem x_no_dict (T : Top K mg) : PySem.W.kitOne K (.type "dict") (.ref (He.ga K "Bag")) = some false := of_decide_eq_true (T.x 16)
theorem x_nf_list (T : Top K mg) : PySem.W.notFirst K (He.ga K "Bag") (.type "list") = true := T.x 17
theorem x_no_list (T : Top K mg) : PySem.W.kitOne K (.type "list") (.ref (He.ga K "Bag")) = some false := of_decide_eq_true (T.x 18)
theorem x_nf_tuple (T : Top K mg) : PySem.W.notFirst K (He.ga K "Bag") (.type "tuple") = true := T.x 19
theorem x_no_tuple (T : Top K mg) : PySem.W.kitOne K (.type "tuple") (.ref (He.ga K "Bag")) = some false := of_decide_eq_true (T.x 20)
theorem xm_BagError (T : Top K mg) : PySem.W.exmOne K (.ref (He.ga K "BagError")) (.ref (He.ga K "BagError")) = some true := of_decide_eq_true (T.x 21)
theorem xo_BadText (T : Top K mg) : OexC K (He.ga K "BadText") := oexB_ok (T.x 22)
theorem xf_BadText (T : Top K mg) : XfC K (He.ga K "BadText") := xfB_ok (T.x 23)
theorem xi_BadText (T : Top K mg) : PySem.W.findIn K (.ref (He.ga K "BadText")) "__init__" = some (some (.ref (He.ma K (He.ga K "BadText") "__init__"))) := of_decide_eq_true (T.x 24)
theorem xt_BadText (T : Top K mg) : PySem.W.typeIn K (.ref (He.ma K (He.ga K "BadText") "__init__")) = some (.type "function") := of_decide_eq_true (T.x 25)
theorem xp_BadText (T : Top K mg) : PySem.W.findIn K (.ref (He.ga K "BadText")) "line" = some none := of_decide_eq_true (T.x 26)
theorem xmm_BadText (T : Top K mg) : PySem.W.exmOne K (.ref (He.ga K "BadText")) (.ref (He.ga K "BadText")) = some true := of_decide_eq_true (T.x 27)
theorem xs_Bag (T : Top K mg) : PySem.W.kitOne K (.ref (He.ga K "Bag")) (.type "str") = some false := of_decide_eq_true (T.x 28)
end
end Fp

set_option Elab.async false
set_option linter.all false
set_option maxRecDepth 100000
set_option maxHeartbeats 2000000
namespace Fp
open PySem PySem.Spec PyProof.Rows L2
/-! ### words -/
def xyz (w : Str) : Prop := ∀ c ∈ w.cps.toList, c = 120 ∨ c = 121 ∨ c = 122
theorem tw_self {g : Nat → Bool} : ∀ {l : List Nat}, (∀ c ∈ l, g c = true) → l.takeWhile g = l
  | [], _ => rfl
  | c :: r, h => by
    rw [List.takeWhile_cons, if_pos (h c List.mem_cons_self), tw_self fun d hd => h d (List.mem_cons_of_mem _ hd)]
theorem strip_xyz {w : Str} (h : xyz w) : PySem.Txt.stripChars w "xyz" = (Str.ofString "") := by
  have hg : ∀ c ∈ w.cps.toList, (("xyz" : Str).cps.contains c) = true := fun c hc => by
    rcases h c hc with e | e | e <;> subst e <;> decide +kernel
  have ht : w.cps.toList.takeWhile ("xyz" : Str).cps.contains = w.cps.toList := tw_self hg
  have hlo : stripLo ("xyz" : Str).cps.contains true w = w.cps.toList.length := by
    unfold stripLo
    rw [if_pos rfl, ht]
  have hsz : w.length = w.cps.toList.length := by simp [Str.length]
  unfold PySem.Txt.stripChars PySem.Txt.stripBy
  cases e : stripSame ("xyz" : Str).cps.contains true true w with
  | true =>
    rw [if_pos rfl]
    unfold stripSame at e
    rw [hlo] at e
    simp only [Bool.and_eq_true, beq_iff_eq] at e
    have e0 : w.cps.toList = [] := List.length_eq_zero_iff.mp e.1
    obtain ⟨a⟩ := w
    have : a = #[] := by simpa using e0
    subst this
    rfl
  | false =>
    rw [if_neg Bool.false_ne_true]
    unfold stripped
    rw [hlo]
    have hhi : stripHi ("xyz" : Str).cps.contains true w w.cps.toList.length = w.length := by
      unfold stripHi
      rw [if_pos rfl, List.drop_length]
      simp
    rw [hhi, hsz]
    unfold Builtin.Str.strSub
    simp
    rfl
section
variable {P : Program} {w : World} {K : PySem.W.Frag} {mg : Str → Option Value} {base : Heap}
/-! ### kinds -/
def spInt : Sp := fun vs H Q _ => ∃ i : Int, vs = [.int i] ∧ Q (.bl true) H
theorem sc_is_integer : FnScope ["thing"] ["thing"] (defScope s_is_integer) := ⟨rfl, rfl, rfl, by decide +kernel, rfl, by decide +kernel, by decide +kernel⟩
theorem ok_is_integer (T : Top K mg) : Ok P w K mg base 1 "is_integer" ["thing"] spInt := by
  obtain ⟨fd, F⟩ := fn_is_integer T
  refine ⟨⟨fd, ?_, F.bindsN fun _ _ _ _ _ _ us hl => match us, hl with | [_], _ => rfl⟩, g_is_integer T, F.kp⟩
  refine F.ok sc_is_integer (fun vs H Q E h => ?_) (fun cdv A outer s H vs Q E hr h => ?_)
  · obtain ⟨i, rfl, _⟩ := h
    rfl
  · obtain ⟨i, rfl, q⟩ := h
    refine ⟨_, PSs.nox (pss_one (ps_ret (pe_and (pe_callB call_isi (by rfl) (f_isinstance T) (by decide +kernel) (pa_cons (pv 0) (pa_cons (pe_bltn (v := .ty "int") (by rfl) (f_int T) boot_int rfl) pa_nil)))
      (pe_one (pe_not (pe_callB call_isi (by rfl) (f_isinstance T) (by decide +kernel) (pa_cons (pv 0) (pa_cons (pe_bltn (v := .ty "bool") (by rfl) (f_bool T) (by decide +kernel) rfl) pa_nil)))))))), ?_⟩
    refine ⟨_, rfl, .int i, _, _, _, true, rfl, .ty "int", .base (.int i), kit_ty (by decide +kernel), true, rfl, iteT ?_⟩
    exact ⟨_, rfl, .int i, _, _, _, false, rfl, .ty "bool", .base (.int i), kit_ty (by decide +kernel), false, rfl, q⟩
def spFromTo : Sp := fun vs H Q _ => ∃ i lo hi : Int, vs = [.int i, .int lo, .int hi] ∧ Q (.bl (decide (lo ≤ i) && decide (i ≤ hi))) H
theorem sc_is_from_to : FnScope ["thing", "low", "high"] ["thing", "low", "high"] (defScope s_is_from_to) := ⟨rfl, rfl, rfl, by decide +kernel, rfl, by decide +kernel, by decide +kernel⟩
theorem ok_is_from_to (T : Top K mg) : Ok P w K mg base 2 "is_from_to" ["thing", "low", "high"] spFromTo := by
  obtain ⟨fd, F⟩ := fn_is_from_to T
  refine ⟨⟨fd, ?_, F.bindsN fun _ _ _ _ _ _ us hl => match us, hl with | [_, _, _], _ => rfl⟩, g_is_from_to T, F.kp⟩
  refine F.ok sc_is_from_to (fun vs H Q E h => ?_) (fun cdv A outer s H vs Q E hr h => ?_)
  · obtain ⟨i, lo, hi, rfl, _⟩ := h
    rfl
  · obtain ⟨i, lo, hi, rfl, q⟩ := h
    refine ⟨_, PSs.nox (pss_one (ps_ret (pe_and (pc (ok_is_integer T) hr (pa_cons (pv 0) pa_nil)) (pe_one (pe_chain op_le op_le (pv 1) (pv 0) (pv 2)))))), ?_⟩
    refine ⟨_, rfl, i, rfl, true, rfl, iteT ?_⟩
    refine ⟨_, rfl, _, rfl, _, _, rfl, rfl, _, rfl, ?_⟩
    by_cases h1 : lo ≤ i
    · rw [decide_eq_true h1] at q ⊢
      exact iteT ⟨_, rfl, _, _, rfl, rfl, q⟩
    · rw [decide_eq_false h1] at q ⊢
      exact iteF q
def isCk (c : Int) : Prop := c = 2 ∨ c = 3 ∨ c = 5 ∨ c = 7
def spClock : Sp := fun vs H Q _ => ∃ c : Int, vs = [.int c] ∧ isCk c ∧ Q (.bl true) H
theorem sc_is_clock : FnScope ["thing"] ["thing"] (defScope s_is_clock) := ⟨rfl, rfl, rfl, by decide +kernel, rfl, by decide +kernel, by decide +kernel⟩
theorem ok_is_clock (T : Top K mg) : Ok P w K mg base 2 "is_clock" ["thing"] spClock := by
  obtain ⟨fd, F⟩ := fn_is_clock T
  refine ⟨⟨fd, ?_, F.bindsN fun _ _ _ _ _ _ us hl => match us, hl with | [_], _ => rfl⟩, g_is_clock T, F.kp⟩
  refine F.ok sc_is_clock (fun vs H Q E h => ?_) (fun cdv A outer s H vs Q E hr h => ?_)
  · obtain ⟨i, rfl, _⟩ := h
    rfl
  · obtain ⟨c, rfl, hc, q⟩ := h
    refine ⟨_, PSs.nox (pss_one (ps_ret (pe_and (pc (ok_is_integer T) hr (pa_cons (pv 0) pa_nil)) (pe_one (pe_cmpR op_in_seq (pv 0) (pe_glob (v := .ref (He.ga K "CLOCKS")) rfl (g_CLOCKS T) rfl) (by rfl)))))), ?_⟩
    refine ⟨_, rfl, c, rfl, true, rfl, iteT ?_⟩
    refine ⟨_, rfl, _, _, rfl, .inr (x_CLOCKS T _), rfl, rfl, ?_⟩
    have e : (if false = true then !inV (V.int c) [.int 2, .int 3, .int 5, .int 7] else inV (V.int c) [.int 2, .int 3, .int 5, .int 7]) = true := by
      rcases hc with rfl | rfl | rfl | rfl <;> decide
    rw [e]
    exact q
def spWord : Sp := fun vs H Q _ => ∃ x : Str, vs = [.str x] ∧ xyz x ∧ x.length ≤ 1000000 ∧ Q (.bl true) H
theorem sc_is_word : FnScope ["thing"] ["thing"] (defScope s_is_word) := ⟨rfl, rfl, rfl, by decide +kernel, rfl, by decide +kernel, by decide +kernel⟩
theorem ok_is_word (T : Top K mg) : Ok P w K mg base 1 "is_word" ["thing"] spWord := by
  obtain ⟨fd, F⟩ := fn_is_word T
  obtain ⟨tk, hL⟩ := t_LETTERS T
  refine ⟨⟨fd, ?_, F.bindsN fun _ _ _ _ _ _ us hl => match us, hl with | [_], _ => rfl⟩, g_is_word T, F.kp⟩
  refine F.ok sc_is_word (fun vs H Q E h => ?_) (fun cdv A outer s H vs Q E hr h => ?_)
  · obtain ⟨i, rfl, _⟩ := h
    rfl
  · obtain ⟨x, rfl, hx, hl, q⟩ := h
    have hs : sizeLine = 16777216 := sizeLine_eq
    refine ⟨_, PSs.nox (pss_one (ps_ret (pe_and (pe_callB call_isi (by rfl) (f_isinstance T) (by decide +kernel) (pa_cons (pv 0) (pa_cons (pe_bltn (v := .ty "str") (by rfl) (f_str T) (by decide +kernel) rfl) pa_nil)))
      (pe_one (pe_cmpR op_eq (pe_m1 PySem.F.slot_str_strip PySem.F.type_str_strip mt_stripChars (pv 0) (pe_glob (v := .str "xyz") rfl hL ⟨_, rfl⟩)) pe_str (nomark _)))))), ?_⟩
    refine ⟨_, rfl, .str x, _, _, _, true, rfl, .ty "str", .base (.str x), kit_ty (by decide +kernel), true, rfl, iteT ?_⟩
    refine ⟨_, rfl, ⟨x, rfl⟩, x, _, rfl, rfl, by omega, rfl, ?_⟩
    rw [strip_xyz hx]
    exact q
def spShort : Sp := fun vs H Q _ => ∃ x : Str, vs = [.str x] ∧ xyz x ∧ x.length ≤ 12 ∧ Q (.bl true) H
theorem sc_is_short_word : FnScope ["thing"] ["thing"] (defScope s_is_short_word) := ⟨rfl, rfl, rfl, by decide +kernel, rfl, by decide +kernel, by decide +kernel⟩
theorem ok_is_short_word (T : Top K mg) : Ok P w K mg base 2 "is_short_word" ["thing"] spShort := by
  obtain ⟨fd, F⟩ := fn_is_short_word T
  obtain ⟨tk, hL⟩ := i_MOST_LETTERS T
  refine ⟨⟨fd, ?_, F.bindsN fun _ _ _ _ _ _ us hl => match us, hl with | [_], _ => rfl⟩, g_is_short_word T, F.kp⟩
  refine F.ok sc_is_short_word (fun vs H Q E h => ?_) (fun cdv A outer s H vs Q E hr h => ?_)
  · obtain ⟨i, rfl, _⟩ := h
    rfl
  · obtain ⟨x, rfl, hx, hl, q⟩ := h
    have hs : sizeLine = 16777216 := sizeLine_eq
    refine ⟨_, PSs.nox (pss_one (ps_ret (pe_and (pc (ok_is_word T) hr (pa_cons (pv 0) pa_nil)) (pe_one (pe_cmpR op_le (pe_callB call_len_str (by rfl) (f_len T) PySem.boot_len (pa_cons (pv 0) pa_nil)) (pe_glob (v := .int 12) rfl hL ⟨_, rfl⟩) (nomark _)))))), ?_⟩
    refine ⟨_, rfl, x, rfl, hx, by omega, true, rfl, iteT ?_⟩
    refine ⟨_, rfl, x, rfl, by omega, _, _, rfl, rfl, ?_⟩
    show Q (.bl (decide ((x.length : Int) ≤ 12))) H
    rw [decide_eq_true (show ((x.length : Int) ≤ 12) by omega)]
    exact q
end
end Fp

set_option Elab.async false
set_option linter.all false
set_option maxRecDepth 100000
set_option maxHeartbeats 2000000
namespace Fp
open PySem PySem.Spec PyProof.Rows L2
/-- a table that Bag lets: by the clock c, words of at most m letters, at most k of them -/
structure VT (c : Int) (m k : Nat) (l : Tb) : Prop where
  nd : Nd l
  nu : ∀ p ∈ l, 1 ≤ p.2 ∧ p.2 < c
  wd : ∀ p ∈ l, xyz p.1 ∧ p.1.length ≤ m
  ln : l.length ≤ k
theorem VT.mono {c : Int} {m k m' k' : Nat} {l : Tb} (h : VT c m k l) (hm : m ≤ m') (hk : k ≤ k') : VT c m' k' l :=
  ⟨h.nd, h.nu, fun p hp => ⟨(h.wd p hp).1, Nat.le_trans (h.wd p hp).2 hm⟩, Nat.le_trans h.ln hk⟩
theorem find_of {l : Tb} (h : Nd l) {i : Nat} {p : Str × Int} (e : l[i]? = some p) : (l.find? fun q => decide (q.1 = p.1)) = some p := by
  induction l generalizing i with
  | nil => simp at e
  | cons q r ih =>
    have h' : (q.1 :: r.map (·.1)).Nodup := h
    obtain ⟨h1, h2⟩ := List.nodup_cons.mp h'
    cases i with
    | zero =>
      have : q = p := by simpa using e
      subst this
      rw [List.find?_cons_of_pos (by simp)]
    | succ i =>
      have e' : r[i]? = some p := by simpa using e
      have hm : p ∈ r := List.mem_of_getElem? e'
      have hne : q.1 ≠ p.1 := fun z => h1 (z ▸ List.mem_map.mpr ⟨p, hm, rfl⟩)
      rw [List.find?_cons_of_neg (by simpa using hne)]
      exact ih h2 e'
theorem num_of {l : Tb} (h : Nd l) {i : Nat} {p : Str × Int} (e : l[i]? = some p) : num l p.1 = p.2 := by
  unfold num
  rw [find_of h e]
  rfl
theorem has_of {l : Tb} {i : Nat} {p : Str × Int} (e : l[i]? = some p) : has l p.1 = true := has_iff.mpr (List.mem_map.mpr ⟨p, List.mem_of_getElem? e, rfl⟩)
theorem kv_at {l : Tb} {i : Nat} {k : Key} {v : V} (e : (kv l)[i]? = some (k, v)) : ∃ p, l[i]? = some p ∧ k = Sum.inr p.1 ∧ v = .int p.2 := by
  unfold kv at e
  rw [List.getElem?_map] at e
  cases q : l[i]? with
  | none => rw [q] at e; cases e
  | some p =>
    rw [q] at e
    have e2 := Option.some.inj e
    injection e2 with e3 e4
    exact ⟨p, rfl, e3.symm, e4.symm⟩
section
variable {P : Program} {w : World} {K : PySem.W.Frag} {mg : Str → Option Value} {base : Heap}
def spAreWords : Sp := fun vs H Q _ => ∃ (c : Int) (d : Addr) (l : Tb), vs = [.int c, .ref d] ∧ H d = some (.dK (kv l)) ∧ VT c 12 300 l ∧ ∀ H', Same H H' → Q (.bl true) H'
abbrev nAreWords : List Str := ["clock", "thing", "word"]
theorem sc_are_words : FnScope nAreWords ["clock", "thing"] (defScope s_are_words) := ⟨rfl, rfl, rfl, by decide +kernel, rfl, by decide +kernel, by decide +kernel⟩
theorem ok_are_words (T : Top K mg) : Ok P w K mg base 4 "are_words" ["clock", "thing"] spAreWords := by
  obtain ⟨fd, F⟩ := fn_are_words T
  obtain ⟨tk, hL⟩ := i_MOST_WORDS T
  refine ⟨⟨fd, ?_, F.bindsN fun _ _ _ _ _ _ us hl => match us, hl with | [_, _], _ => rfl⟩, g_are_words T, F.kp⟩
  refine F.ok sc_are_words (fun vs H Q E h => ?_) (fun cdv A outer s H vs Q E hr h => ?_)
  · obtain ⟨c, d, l, rfl, _⟩ := h
    rfl
  · obtain ⟨c, d, l, rfl, hd, hv, q⟩ := h
    have hu := hu_of hr
    have nd := sc_are_words.nd
    have hr2 : Room 2 _ := hr.mono (by decide)
    have hs : sizeLine = 16777216 := sizeLine_eq
    have hln := hv.ln
    refine ⟨_, PSs.nox (pss_cons (ps_if (PW.pt (pw_or (pt_not (pt_val (pe_callB call_isi (by rfl) (f_isinstance T) (by decide +kernel) (pa_cons (pv 1) (pa_cons (pe_bltn (v := .ty "dict") (by rfl) (f_dict T) (by decide +kernel) rfl) pa_nil)))))
        (pw_or1 (pt_cmpR op_gt (pe_callB call_lenD (by rfl) (f_len T) PySem.boot_len (pa_cons (pv 1) pa_nil)) (pe_glob (v := .int 300) rfl hL ⟨_, rfl⟩) (nomark _))))) (pss_one (ps_ret pe_bl)) pss_nil)
      (pss_one (ps_ret (pe_callB (cr_all rfl) (by rfl) (f_all T) (by decide +kernel) (pa_cons (pe_lock (pe_lc (own := [("word", 2)]) (g := gName 2) (tt := tYes) rfl nd (pi_keys (pv 1)) (blkOk_by (N := nAreWords) (sc := defScope s_are_words) (by decide +kernel))
        (fun _ _ _ _ _ => pg_name (i := 2) nd rfl (Or.inl rfl)) (fun _ _ _ _ _ => pts_nil)
        (fun _ _ _ _ _ => pe_and (pc (ok_is_short_word T) hr2 (pa_cons (pv 2) pa_nil)) (pe_one (pc (ok_is_from_to T) hr2 (pa_cons (pe_dget hu (pv 1) (pv 2) (fun _ _ => rfl)) (pa_cons pe_int (pa_cons (pe_op op_sub (pv 0) pe_int) pa_nil)))))))) pa_nil))))), ?_⟩
    refine ⟨_, rfl, .ref d, _, _, _, true, rfl, .ty "dict", .base (.dK hd), kit_ty (by decide +kernel), true, rfl, iteF ?_⟩
    refine ⟨_, rfl, d, _, rfl, hd, _, _, rfl, rfl, _, rfl, ?_⟩
    rw [show decide ((300 : Int) < ((kv l).length : Int)) = false by
      rw [kv_len]
      exact decide_eq_false (by omega)]
    refine iteF ?_
    refine ⟨d, _, hd, trivial, fun od => ?_⟩
    refine ⟨_, rfl, d, od, rfl, .inl ⟨kv l, upd_same, fun D hD => ?_⟩⟩
    have nD : D ≠ d := fun e => by
      rw [e, upd_same] at hD
      cases hD
    refine lc_it walk_keys (fun i H' => H' D = some (.lst ((List.replicate i true).map V.bl)) ∧ But d H H' ∧ H' d = some (.frz od (.dK (kv l)))) ⟨upd_same, ?_, ?_⟩ (fun i H' _ hP => hP.2.2) ?_ ?_
    · intro b o e n
      have nb : b ≠ D := by
        rintro rfl
        rw [upd_ne n, e] at hD
        cases hD
      rw [upd_ne nb, upd_ne n]
      exact e
    · rw [upd_ne nD.symm]
      exact upd_same
    · rintro i x H1 H2 hi ⟨p1, p2, p3⟩ ⟨rfl, k, v, e, rfl⟩
      obtain ⟨p, ep, rfl, rfl⟩ := kv_at e
      have hp : p ∈ l := List.mem_of_getElem? ep
      rw [kv_len] at hi
      refine ⟨rfl, ?_⟩
      refine ⟨_, rfl, p.1, rfl, (hv.wd p hp).1, (hv.wd p hp).2, true, rfl, iteT ?_⟩
      refine ⟨_, rfl, _, rfl, d, .int p.2, rfl, .inl ⟨kv l, Sum.inr p.1, .inr ⟨od, p3⟩, rfl, ?_⟩, ?_⟩
      · rw [valV_yes (has_of ep), num_of hv.nd ep]
      · refine ⟨_, rfl, _, _, rfl, rfl, p.2, 1, c - 1, rfl, ?_⟩
        have hn := hv.nu p hp
        rw [decide_eq_true (show (1 : Int) ≤ p.2 from hn.1), decide_eq_true (show p.2 ≤ c - 1 by omega)]
        refine ⟨_, p1, ?_, ?_, ?_, ?_⟩
        · rw [List.length_map, List.length_replicate]
          omega
        · rw [upd_same, List.replicate_succ', List.map_append]
          rfl
        · intro b o e n
          have nb : b ≠ D := by
            rintro rfl
            rw [upd_ne n, e] at hD
            cases hD
          rw [upd_ne nb]
          exact p2 b o e n
        · rw [upd_ne nD.symm]
          exact p3
    · rintro H' ⟨p1, p2, p3⟩
      refine ⟨p3, D, List.replicate (kv l).length true, rfl, .inl (.inl ?_), ?_⟩
      · rw [upd_ne nD]
        exact p1
      · have e1 : (List.replicate (kv l).length true).all id = true := by
          rw [List.all_eq_true]
          intro b hb
          exact (List.mem_replicate.mp hb).2
        rw [e1]
        refine q _ fun b o e => ?_
        by_cases n : b = d
        · rw [n, upd_same, ← hd, ← n, e]
        · rw [upd_ne n]
          exact p2 b o e n
end
end Fp

set_option Elab.async false
set_option linter.all false
set_option maxRecDepth 100000
set_option maxHeartbeats 2000000
namespace L2
open PySem PySem.Spec PyProof.Rows
section
variable {X : Cx}
def rEqP (K : PySem.W.Frag) : R2 := fun x y H Q => ∃ d e, Dp K H x d ∧ Dp K H y e ∧ d.plain = true ∧ e.plain = true ∧ d.depth ≤ 64 ∧ Q (.bl (PyData.eqv d e)) H
theorem op_eqP (hu : X.A.units + 64 < cLine) : OpR X (compareOp .Eq) (rEqP X.K) := by
  intro pins s σ H x y v u Q I rx ry h
  obtain ⟨d, e, hd, he, sd, se, hdp, q⟩ := h
  obtain ⟨as, r1⟩ := Dp.reads I d x v hd rx
  obtain ⟨bs, r2⟩ := Dp.reads I e y u he ry
  exact SeqAt.eq_plain r1 r2 sd se (by omega) ⟨.bl _, H, I, rfl, q⟩
end
end L2
namespace Fp
open PySem PySem.Spec PyProof.Rows L2
/-! ### the tuple of pairs -/
def WordsAt (H : Hp) (t : Addr) (L : Tb) : Prop := ∃ (ps : List Addr) (o : Obj), H t = some (.frz o (.tup (ps.map V.ref))) ∧ PlainTup o ∧ Paired (fun p (q : Str × Int) => H p = some (.tup [.str q.1, .int q.2])) ps L
theorem WordsAt.but {a : Addr} {H H' : Hp} {t : Addr} {L : Tb} (h : WordsAt H t L) (k : But a H H') (ht : t ≠ a) (ha : ∀ xs, H a ≠ some (.tup xs)) : WordsAt H' t L := by
  obtain ⟨ps, o, h1, h2, h3⟩ := h
  exact ⟨ps, o, k _ _ h1 ht, h2, Paired.mapP h3 fun p q e => k _ _ e fun z => ha _ (z ▸ e)⟩
theorem WordsAt.same {H H' : Hp} {t : Addr} {L : Tb} (h : WordsAt H t L) (k : Same H H') : WordsAt H' t L := by
  obtain ⟨ps, o, h1, h2, h3⟩ := h
  exact ⟨ps, o, k _ _ h1, h2, Paired.mapP h3 fun p q e => k _ _ e⟩
/-- a table in the order of words -/
def ordW (l : Tb) : List Str := (l.map (·.1)).mergeSort leR
def canon (l : Tb) : Tb := (ordW l).map fun x => (x, num l x)
theorem ordW_len (l : Tb) : (ordW l).length = l.length := by
  unfold ordW
  rw [List.length_mergeSort, List.length_map]
theorem ordW_mem {l : Tb} {x : Str} : x ∈ ordW l ↔ x ∈ l.map (·.1) := by
  unfold ordW
  exact (List.mergeSort_perm _ _).mem_iff
/-- what a Bag is -/
def flds (c : Int) (t : Addr) : List (Str × V) := putF "words" (.ref t) (putF "clock" (.int c) [])
theorem kwc : ¬ (("clock" : Str) = "words") := by decide +kernel
theorem flds_eq (c : Int) (t : Addr) : flds c t = ([("clock", V.int c), ("words", V.ref t)] : List (Str × V)) := by
  show (if ("clock" : Str) = "words" then [(("words" : Str), V.ref t)] else (("clock" : Str), V.int c) :: putF "words" (.ref t) []) = _
  rw [if_neg kwc]
  all_goals rfl
theorem flds_clock (c : Int) (t : Addr) : (flds c t).lookup ("clock" : Str) = some (.int c) := by
  unfold flds
  rw [lookup_putF, if_neg kwc, lookup_putF, if_pos rfl]
theorem flds_words (c : Int) (t : Addr) : (flds c t).lookup ("words" : Str) = some (.ref t) := by
  unfold flds
  rw [lookup_putF, if_pos rfl]
def BagAt (K : PySem.W.Frag) (H : Hp) (b : Addr) (c : Int) (L : Tb) : Prop := ∃ dx t, H b = some (.ins (He.ga K "Bag") dx (flds c t)) ∧ WordsAt H t L
theorem BagAt.same {K : PySem.W.Frag} {H H' : Hp} {b : Addr} {c : Int} {L : Tb} (h : BagAt K H b c L) (k : Same H H') : BagAt K H' b c L := by
  obtain ⟨dx, t, h1, h2⟩ := h
  exact ⟨dx, t, k _ _ h1, h2.same k⟩
theorem BagAt.but {K : PySem.W.Frag} {a : Addr} {H H' : Hp} {b : Addr} {c : Int} {L : Tb} (h : BagAt K H b c L) (k : But a H H') (ha : ∃ xs, H a = some (.lst xs)) : BagAt K H' b c L := by
  obtain ⟨dx, t, h1, h2⟩ := h
  obtain ⟨xs, hx⟩ := ha
  obtain ⟨ps, o, e1, e2⟩ := id h2
  exact ⟨dx, t, k _ _ h1 (ne_of h1 hx (by intro z; cases z)), h2.but k (ne_of e1 hx (by intro z; cases z)) fun ys => by rw [hx]; intro z; cases z⟩
def dW (L : Tb) : PyData := .tuple (L.map fun p => .tuple [.str p.1, .int p.2])
theorem dp_words {K : PySem.W.Frag} {H : Hp} {t : Addr} {L : Tb} (h : WordsAt H t L) : Dp K H (.ref t) (dW L) := by
  obtain ⟨ps, o, h1, _, h3⟩ := h
  refine .tup (.inl (.inr ⟨o, h1⟩)) ?_
  clear h1
  induction h3 with
  | nil => exact .nil
  | cons e _ ih => exact .cons (.tup (.inl (.inl e)) (.cons (.str _) (.cons (.int _) .nil))) ih
theorem dW_plain (L : Tb) : (dW L).plain = true := by
  show PyData.plainAll (L.map fun p => .tuple [.str p.1, .int p.2]) = true
  induction L with
  | nil => rfl
  | cons p r ih =>
    rw [List.map_cons]
    simp only [PyData.plainAll, PyData.plain, Bool.and_self, Bool.true_and]
    exact ih
theorem dW_depth (L : Tb) : (dW L).depth ≤ 64 := by
  have h : PyData.depthAll (L.map fun p => PyData.tuple [.str p.1, .int p.2]) ≤ 3 := by
    induction L with
    | nil => simp [PyData.depthAll]
    | cons p r ih =>
      rw [List.map_cons]
      simp only [PyData.depthAll, PyData.depth]
      have : max 0 (max 0 0) = 0 := rfl
      omega
  show (PyData.tuple _).depth ≤ 64
  simp only [PyData.depth]
  omega
theorem dW_eqv : ∀ L M : Tb, PyData.eqv (dW L) (dW M) = decide (L = M) := by
  intro L M
  show PyData.eqvAll (L.map fun p => PyData.tuple [.str p.1, .int p.2]) (M.map fun p => PyData.tuple [.str p.1, .int p.2]) = decide (L = M)
  induction L generalizing M with
  | nil =>
    cases M with
    | nil => rfl
    | cons q s => simp [PyData.eqvAll]
  | cons p r ih =>
    cases M with
    | nil => simp [PyData.eqvAll]
    | cons q s =>
      rw [List.map_cons, List.map_cons]
      simp only [PyData.eqvAll, PyData.eqv, ih s]
      obtain ⟨x, n⟩ := p
      obtain ⟨y, m⟩ := q
      by_cases h1 : x = y <;> by_cases h2 : n = m <;> by_cases h3 : r = s <;> simp [h1, h2, h3]
section
variable {P : Program} {w : World} {K : PySem.W.Frag} {mg : Str → Option Value} {base : Heap}
def spPairs : Sp := fun vs H Q _ => ∃ (d : Addr) (l : Tb), vs = [.ref d] ∧ H d = some (.dK (kv l)) ∧ Nd l ∧ (∀ p ∈ l, p.1.length ≤ 1000000) ∧ l.length ≤ 1000000 ∧ ∀ H' t, Same H H' → H t = none → WordsAt H' t (canon l) → Q (.ref t) H'
abbrev nPairs : List Str := ["table", "word"]
theorem sc_pairs_of : FnScope nPairs ["table"] (defScope s_pairs_of) := ⟨rfl, rfl, rfl, by decide +kernel, rfl, by decide +kernel, by decide +kernel⟩
theorem ok_pairs_of (T : Top K mg) : Ok P w K mg base 2 "pairs_of" ["table"] spPairs := by
  obtain ⟨fd, F⟩ := fn_pairs_of T
  obtain ⟨fdR, FR⟩ := fn_rank_of T
  refine ⟨⟨fd, ?_, F.bindsN fun _ _ _ _ _ _ us hl => match us, hl with | [_], _ => rfl⟩, g_pairs_of T, F.kp⟩
  refine F.ok sc_pairs_of (fun vs H Q E h => ?_) (fun cdv A outer s H vs Q E hr h => ?_)
  · obtain ⟨d, l, rfl, _⟩ := h
    rfl
  · obtain ⟨d, l, rfl, hd, hnd, hwl, hll, q⟩ := h
    have hu := hu_of hr
    have nd := sc_pairs_of.nd
    have hs : sizeLine = 16777216 := sizeLine_eq
    refine ⟨_, PSs.nox (pss_one (ps_ret (pe_callTy call_tupleF (by rfl) (f_tuple T) (by decide +kernel) (pa_cons (pe_lc (own := [("word", 1)]) (g := gName 1) (tt := tYes) rfl nd
      (pi_list (pe_callBK (cr_sortRk rfl FR (f_len T) hr) (by rfl) (f_sorted T) (by decide +kernel) (pa_cons (pv 0) pa_nil) (pk_cons (pe_glob (v := .ref (He.ga K "rank_of")) rfl (g_rank_of T) rfl) pk_nil)))
      (blkOk_by (N := nPairs) (sc := defScope s_pairs_of) (by decide +kernel)) (fun _ _ _ _ _ => pg_name (i := 1) nd rfl (Or.inl rfl)) (fun _ _ _ _ _ => pts_nil)
      (fun _ _ _ _ _ => pe_tup (pa_cons (pv 1) (pa_cons (pe_dget hu (pv 0) (pv 1) (fun _ _ => rfl)) pa_nil)))) pa_nil)))), ?_⟩
    refine ⟨_, rfl, d, kv l, l.map (·.1), rfl, rfl, .inl hd, kv_keys l, ?_, fun S hS => ?_⟩
    · intro x hx
      obtain ⟨p, hp, rfl⟩ := List.mem_map.mp hx
      have := hwl p hp
      omega
    · refine ⟨S, rfl, ⟨_, .inl (.inl upd_same)⟩, fun D hD => ?_⟩
      have nDS : D ≠ S := fun e => by
        rw [e, upd_same] at hD
        cases hD
      have hD0 : H D = none := by
        rw [upd_ne nDS] at hD
        exact hD
      have nSd : d ≠ S := ne_of_none hd hS
      have nDd : d ≠ D := ne_of_none hd hD0
      refine lc_it (walk_list (xs := (ordW l).map V.str)) (fun i H' => ∃ ps : List Addr, H' D = some (.lst (ps.map V.ref)) ∧ ps.length = i ∧ Paired (fun p (q : Str × Int) => H' p = some (.tup [.str q.1, .int q.2])) ps ((canon l).take i) ∧ Same H H' ∧ H' S = some (.lst ((ordW l).map V.str)))
        ⟨[], upd_same, rfl, .nil, ?_, ?_⟩ (fun i H' _ hP => .inl (.inl hP.choose_spec.2.2.2.2)) ?_ ?_
      · intro b o e
        rw [upd_ne (ne_of_none e hD0), upd_ne (ne_of_none e hS)]
        exact e
      · rw [upd_ne nDS.symm]
        exact upd_same
      · rintro i x H1 H2 hi ⟨ps, p1, p2, p3, p4, p5⟩ ⟨rfl, e⟩
        rw [List.length_map, ordW_len] at hi
        rw [List.getElem?_map] at e
        cases ew : (ordW l)[i]? with
        | none => rw [ew] at e; cases e
        | some x0 =>
          rw [ew] at e
          have e2 : V.str x0 = x := Option.some.inj e
          subst e2
          have hx0 : x0 ∈ l.map (·.1) := ordW_mem.mp (List.mem_of_getElem? ew)
          refine ⟨rfl, ?_⟩
          refine ⟨_, rfl, _, rfl, _, rfl, d, .int (num l x0), rfl, .inl ⟨kv l, Sum.inr x0, .inl (p4 _ _ hd), rfl, (valV_yes (has_iff.mpr hx0)).symm⟩, ?_⟩
          refine ⟨by show 2 ≤ sizeLine; omega, fun p hp => ?_⟩
          have npD : D ≠ p := ne_of_none p1 hp
          have npS : S ≠ p := ne_of_none p5 hp
          refine ⟨ps.map V.ref, ?_, ?_, ps ++ [p], ?_, ?_, ?_, ?_, ?_⟩
          · rw [upd_ne npD]
            exact p1
          · rw [List.length_map]
            omega
          · rw [upd_same, List.map_append]
            rfl
          · rw [List.length_append, p2]
            rfl
          · have ec : (canon l).take (i + 1) = (canon l).take i ++ [(x0, num l x0)] := by
              rw [List.take_add_one]
              unfold canon
              rw [List.getElem?_map, ew]
              rfl
            rw [ec]
            refine Paired.snoc (Paired.mapP p3 fun a b z => ?_) ?_
            · have na : a ≠ D := ne_of z p1 (by intro y; cases y)
              rw [upd_ne na, upd_ne (ne_of_none z hp)]
              exact z
            · rw [upd_ne npD.symm]
              exact upd_same
          · intro b o z
            have nb : b ≠ D := ne_of_none z hD0
            rw [upd_ne nb, upd_ne (ne_of_none (p4 b o z) hp)]
            exact p4 b o z
          · rw [upd_ne nDS.symm, upd_ne npS]
            exact p5
      · rintro H' ⟨ps, p1, p2, p3, p4, p5⟩
        have en : ((ordW l).map V.str).length = (canon l).length := by
          unfold canon
          rw [List.length_map, List.length_map]
        rw [en, List.take_length] at p3
        refine ⟨D, ps.map V.ref, rfl, .inl (.inl p1), fun t o ht hpt => ?_⟩
        have ht0 : H t = none := by
          cases z : H t with
          | none => rfl
          | some u =>
            rw [p4 t u z] at ht
            cases ht
        refine q _ t (p4.trans (same_upd ht)) ht0 ⟨ps, o, upd_same, hpt, Paired.mapP p3 fun a b z => ?_⟩
        rw [upd_ne (ne_of_none z ht)]
        exact z
end
end Fp

set_option Elab.async false
set_option linter.all false
set_option maxRecDepth 100000
set_option maxHeartbeats 2000000
namespace Fp
open PySem PySem.Spec PyProof.Rows L2
section
variable {P : Program} {w : World} {K : PySem.W.Frag} {mg : Str → Option Value} {base : Heap}
def spInit (K : PySem.W.Frag) : Sp := fun vs H Q _ => ∃ (b d dx : Addr) (c : Int) (l : Tb), vs = [.ref b, .int c, .ref d] ∧ H b = some (.ins (He.ga K "Bag") dx []) ∧ isCk c ∧ H d = some (.dK (kv l)) ∧ VT c 12 300 l ∧
  ∀ H', But b H H' → BagAt K H' b c (canon l) → Q .non H'
abbrev nInit : List Str := ["self", "clock", "words"]
theorem sc_init : FnScope nInit nInit (defScope s_Bag__init__) := ⟨rfl, rfl, rfl, by decide +kernel, rfl, by decide +kernel, by decide +kernel⟩
theorem ok_init (T : Top K mg) : ∃ fd, FnOk P w K mg base CX0 5 (He.ma K (He.ga K "Bag") "__init__") fd nInit (spInit K) ∧ Binds K fd nInit [] := by
  obtain ⟨fd, F⟩ := fn_Bag__init__ T
  refine ⟨fd, ?_, F.bindsN fun _ _ _ _ _ _ us hl => match us, hl with | [_, _, _], _ => rfl⟩
  refine F.ok sc_init (fun vs H Q E h => ?_) (fun cdv A outer s H vs Q E hr h => ?_)
  · obtain ⟨b, d, dx, c, l, rfl, _⟩ := h
    rfl
  · obtain ⟨b, d, dx, c, l, rfl, hb, hc, hd, hv, q⟩ := h
    have hr2 : Room 2 _ := hr.mono (by decide)
    refine ⟨_, PSs.nox (pss_cons (ps_if (pt_not (pt_val (pc (ok_is_clock T) hr2 (pa_cons (pv 1) pa_nil)))) (pss_one ps_never) pss_nil)
      (pss_cons (ps_if (pt_not (pt_val (pc (ok_are_words T) hr (pa_cons (pv 1) (pa_cons (pv 2) pa_nil))))) (pss_one ps_never) pss_nil)
      (pss_cons (ps_fld (pv 0) (pv 1) rfl)
      (pss_one (ps_fld (pv 0) (pc (ok_pairs_of T) hr2 (pa_cons (pv 2) pa_nil)) rfl))))), ?_⟩
    refine ⟨_, rfl, c, rfl, hc, true, rfl, iteF ?_⟩
    refine ⟨_, rfl, _, rfl, c, d, l, rfl, hd, hv, fun H1 s1 => ⟨true, rfl, iteF ?_⟩⟩
    have nbd : b ≠ d := ne_of hb hd (by intro z; cases z)
    refine ⟨_, rfl, _, rfl, b, _, dx, [], rfl, s1 _ _ hb, cls_Bag T, na_Bag_clock T, by show 0 < 1000; decide, ?_⟩
    refine ⟨_, rfl, d, l, rfl, ?_, hv.nd, fun p hp => Nat.le_trans (hv.wd p hp).2 (by decide), Nat.le_trans hv.ln (by decide), fun H2 t s2 ht hw => ?_⟩
    · rw [upd_ne nbd.symm]
      exact s1 _ _ hd
    refine ⟨_, rfl, b, _, dx, _, rfl, s2 _ _ upd_same, cls_Bag T, na_Bag_words T, by show 1 < 1000; decide, ?_⟩
    have nt : t ≠ b := fun e => by
      rw [e, upd_same] at ht
      cases ht
    refine q _ (fun y o e n => ?_) ⟨dx, t, upd_same, ?_⟩
    · rw [upd_ne n]
      refine s2 _ _ ?_
      rw [upd_ne n]
      exact s1 _ _ e
    · exact hw.but (a := b) but_upd nt fun xs z => by
        rw [s2 _ _ upd_same] at z
        cases z
/-- Bag(c, d) -/
theorem pbag {X : Cx} {p pos : Pos} {e : Expr} {es : List Expr} {t : TA} (T : Top X.K X.mg) (hr : Room 6 X.A) (ha : PA X (e :: es) t) (hg : Gl X "Bag" := by rfl)
    (he : starEach (e :: es) X.env = (false, eval e X.env) :: starEach es X.env := by rfl) (hpl : (backTo pos (starEach es X.env)).any (·.1) = false := by rfl) : PE X (.Call (.Name "Bag" p) (e :: es) [] pos) (tMake (He.ga X.K "Bag") (spInit X.K) [] E0 t) := by
  obtain ⟨fd, F, b⟩ := ok_init (P := X.prog) (w := X.w) (base := X.base) T
  exact pe_make (mk_Bag T) F hr hg (g_Bag T) b .nil pass0 ha (by decide) he hpl
theorem bag_made {K : PySem.W.Frag} {H : Hp} {d : Addr} {c : Int} {l : Tb} {Q : VK} (hc : isCk c) (hd : H d = some (.dK (kv l))) (hv : VT c 12 300 l) (h : ∀ H' b, Same H H' → H b = none → BagAt K H' b c (canon l) → Q (.ref b) H') :
    ∀ x dx, H x = none → H dx = none → dx ≠ x → spInit K (.ref x :: ([.int c, .ref d] ++ [])) (upd (upd H dx (.own x)) x (.ins (He.ga K "Bag") dx [])) (fun v H2 => v = .non ∧ Q (.ref x) H2) E0 := fun x dx hx hdx ne => by
  refine ⟨x, d, dx, c, l, rfl, upd_same, hc, ?_, hv, fun H' k hb => ⟨rfl, h H' x (fun b o e => ?_) hx hb⟩⟩
  · rw [upd_ne (ne_of_none hd hx), upd_ne (ne_of_none hd hdx)]
    exact hd
  · refine k b o ?_ (ne_of_none e hx)
    rw [upd_ne (ne_of_none e hx), upd_ne (ne_of_none e hdx)]
    exact e
/-- what == answers -/
def spEqB (K : PySem.W.Frag) : Sp := fun vs H Q _ => ∃ (a : Addr) (y : V) (c : Int) (L : Tb), vs = [.ref a, y] ∧ BagAt K H a c L ∧
  ((∃ b c' M, y = .ref b ∧ BagAt K H b c' M ∧ Q (.bl (decide (c = c' ∧ L = M))) H) ∨ (∃ t, TyX K H y t ∧ PySem.W.kitOne K t (.ref (He.ga K "Bag")) = some false ∧ Q (.bl false) H))
abbrev nEq : List Str := ["self", "other"]
theorem sc_eq : FnScope nEq nEq (defScope s_Bag__eq__) := ⟨rfl, rfl, rfl, by decide +kernel, rfl, by decide +kernel, by decide +kernel⟩
theorem ok_eq (T : Top K mg) : ∃ fd, FnOk P w K mg base CX0 1 (He.ma K (He.ga K "Bag") "__eq__") fd nEq (spEqB K) ∧ Binds K fd nEq [] := by
  obtain ⟨fd, F⟩ := fn_Bag__eq__ T
  refine ⟨fd, ?_, F.bindsN fun _ _ _ _ _ _ us hl => match us, hl with | [_, _], _ => rfl⟩
  refine F.ok sc_eq (fun vs H Q E h => ?_) (fun cdv A outer s H vs Q E hr h => ?_)
  · obtain ⟨a, y, c, L, rfl, _⟩ := h
    rfl
  · obtain ⟨a, y, c, L, rfl, ⟨dx, t, ha, hw⟩, h⟩ := h
    refine ⟨_, PSs.nox (pss_one (ps_ret (pe_and (pe_callB call_isi (by rfl) (f_isinstance T) (by decide +kernel) (pa_cons (pv 1) (pa_cons (pe_glob (v := .ref (He.ga K "Bag")) rfl (g_Bag T) rfl) pa_nil)))
      (pe_and (pe_cmpR op_eq (pe_fld (pv 0) rfl) (pe_fld (pv 1) rfl) (nomark _)) (pe_one (pe_cmpR (op_eqP hr.units) (pe_fld (pv 0) rfl) (pe_fld (pv 1) rfl) (nomark _))))))), ?_⟩
    rcases h with ⟨b, c', M, rfl, ⟨dy, t', hb, hw'⟩, q⟩ | ⟨ty, hty, hk, q⟩
    · refine ⟨_, rfl, _, _, _, _, true, rfl, .own _, .base (.ins hb (cls_Bag T) (x_class T) (x_get T) (x_takes T) (x_mro T)), x_is T, true, rfl, iteT ?_⟩
      refine ⟨_, rfl, a, _, dx, _, _, rfl, ha, cls_Bag T, na_Bag_clock T, flds_clock _ _, _, rfl, b, _, dy, _, _, rfl, hb, cls_Bag T, na_Bag_clock T, flds_clock _ _, rfl, _, rfl, ?_⟩
      by_cases e : c = c'
      · rw [decide_eq_true (show V.int c = V.int c' by rw [e])]
        refine iteT ?_
        refine ⟨_, rfl, a, _, dx, _, _, rfl, ha, cls_Bag T, na_Bag_words T, flds_words _ _, _, rfl, b, _, dy, _, _, rfl, hb, cls_Bag T, na_Bag_words T, flds_words _ _, dW L, dW M, dp_words hw, dp_words hw', dW_plain L, dW_plain M, dW_depth L, ?_⟩
        rw [dW_eqv]
        have e2 : decide (c = c' ∧ L = M) = decide (L = M) := by simp [e]
        rw [e2] at q
        exact q
      · rw [decide_eq_false (show ¬ V.int c = V.int c' from fun z => e (by injection z))]
        refine iteF ?_
        rw [decide_eq_false (show ¬ (c = c' ∧ L = M) from fun z => e z.1)] at q
        exact q
    · exact ⟨_, rfl, y, _, ty, _, false, rfl, .own _, hty, hk, false, rfl, iteF q⟩
end
end Fp

set_option Elab.async false
set_option linter.all false
set_option maxRecDepth 100000
set_option maxHeartbeats 4000000
namespace Fp
open PySem PySem.Spec PyProof.Rows L2
/-! ### the law's own reckoning with tables -/
def putM (c : Int) (l : Tb) (x : Str) (n : Int) : Tb := if (num l x + n) % c = 0 then dropT l x else putT l x ((num l x + n) % c)
def plusM (c : Int) (l1 l2 : Tb) (f : Int) : Tb := l2.foldl (fun acc p => putM c acc p.1 (f * p.2)) l1
def prodM (c : Int) (l1 l2 : Tb) : Tb := l1.foldl (fun acc p => l2.foldl (fun acc q => putM c acc (p.1 ++ q.1) (p.2 * q.2)) acc) []
theorem num_eq (l : Tb) (x : Str) : (valV (kv l) (Sum.inr x : Key)).getD (.int 0) = .int (num l x) := by
  cases e : has l x with
  | true => rw [valV_yes e] <;> rfl
  | false =>
    obtain ⟨h1, h2⟩ := valV_no e
    rw [h1, h2] <;> rfl
theorem dropT_no {l : Tb} {x : Str} (h : has l x = false) : dropT l x = l := by
  unfold dropT
  rw [List.filter_eq_self]
  intro p hp
  simp only [decide_eq_true_eq]
  intro e
  have : has l x = true := has_iff.mpr (List.mem_map.mpr ⟨p, hp, e⟩)
  rw [h] at this
  cases this
theorem len_putM (c : Int) (l : Tb) (x : Str) (n : Int) : (putM c l x n).length ≤ l.length + 1 := by
  unfold putM
  split
  · exact Nat.le_succ_of_le (List.length_filter_le _ _)
  · exact len_put _ _ _
theorem vt_putM {c : Int} {m k : Nat} {l : Tb} (hc : 0 < c) (hv : VT c m k l) {x : Str} (hx : xyz x) (hl : x.length ≤ m) (n : Int) : VT c m (k + 1) (putM c l x n) := by
  have h1 := Int.emod_nonneg (num l x + n) (show c ≠ 0 by omega)
  have h2 := Int.emod_lt_of_pos (num l x + n) hc
  refine ⟨?_, fun p hp => ?_, fun p hp => ?_, Nat.le_trans (len_putM c l x n) (Nat.succ_le_succ hv.ln)⟩
  · unfold putM
    split
    · exact nd_drop hv.nd x
    · exact nd_put hv.nd x _
  · unfold putM at hp
    split at hp
    · exact hv.nu p (List.mem_filter.mp hp).1
    · rename_i h0
      rcases mem_put hp with rfl | hp
      · exact ⟨by show 1 ≤ (num l x + n) % c; omega, h2⟩
      · exact hv.nu p hp
  · unfold putM at hp
    split at hp
    · exact hv.wd p (List.mem_filter.mp hp).1
    · rcases mem_put hp with rfl | hp
      · exact ⟨hx, hl⟩
      · exact hv.wd p hp
theorem vt_plusM {c : Int} {m k1 k2 : Nat} {l1 l2 : Tb} (hc : 0 < c) (h1 : VT c m k1 l1) (h2 : VT c m k2 l2) (f : Int) : VT c m (k1 + k2) (plusM c l1 l2 f) := by
  have key : ∀ (r : Tb) (acc : Tb) (k : Nat), (∀ p ∈ r, xyz p.1 ∧ p.1.length ≤ m) → VT c m k acc → VT c m (k + r.length) (r.foldl (fun acc p => putM c acc p.1 (f * p.2)) acc) := by
    intro r
    induction r with
    | nil => intro acc k _ h; exact h
    | cons p r ih =>
      intro acc k hw h
      have hp := hw p List.mem_cons_self
      have := ih _ (k + 1) (fun q hq => hw q (List.mem_cons_of_mem _ hq)) (vt_putM hc h hp.1 hp.2 (f * p.2))
      rw [List.length_cons, List.foldl_cons]
      exact this.mono (Nat.le_refl _) (by omega)
  exact (key l2 l1 k1 h2.wd h1).mono (Nat.le_refl _) (Nat.add_le_add_left h2.ln _)
theorem xyz_app {x y : Str} (hx : xyz x) (hy : xyz y) : xyz (x ++ y) := by
  intro c hc
  have e : (x ++ y).cps.toList = x.cps.toList ++ y.cps.toList := by
    show (x.cps ++ y.cps).toList = _
    simp
  rw [e] at hc
  rcases List.mem_append.mp hc with hc | hc
  · exact hx c hc
  · exact hy c hc
theorem len_app (x y : Str) : (x ++ y).length = x.length + y.length := by
  show (x.cps ++ y.cps).size = _
  simp [Str.length]
theorem vt_inner {c : Int} {m1 m2 : Nat} (hc : 0 < c) {p : Str × Int} (hp : xyz p.1 ∧ p.1.length ≤ m1) : ∀ (r : Tb) (acc : Tb) (k : Nat), (∀ q ∈ r, xyz q.1 ∧ q.1.length ≤ m2) → VT c (m1 + m2) k acc →
    VT c (m1 + m2) (k + r.length) (r.foldl (fun acc q => putM c acc (p.1 ++ q.1) (p.2 * q.2)) acc) := by
  intro r
  induction r with
  | nil => intro acc k _ h; exact h
  | cons q r ih =>
    intro acc k hw h
    have hq := hw q List.mem_cons_self
    have := ih _ (k + 1) (fun q hq => hw q (List.mem_cons_of_mem _ hq)) (vt_putM hc h (xyz_app hp.1 hq.1) (by rw [len_app]; exact Nat.add_le_add hp.2 hq.2) (p.2 * q.2))
    rw [List.length_cons, List.foldl_cons]
    exact this.mono (Nat.le_refl _) (by omega)
theorem vt_outer {c : Int} {m1 m2 : Nat} (hc : 0 < c) {l2 : Tb} (h2 : ∀ q ∈ l2, xyz q.1 ∧ q.1.length ≤ m2) : ∀ (r : Tb) (acc : Tb) (k : Nat), (∀ q ∈ r, xyz q.1 ∧ q.1.length ≤ m1) → VT c (m1 + m2) k acc →
    VT c (m1 + m2) (k + r.length * l2.length) (r.foldl (fun acc p => l2.foldl (fun acc q => putM c acc (p.1 ++ q.1) (p.2 * q.2)) acc) acc) := by
  intro r
  induction r with
  | nil => intro acc k _ h; simpa using h
  | cons q r ih =>
    intro acc k hw h
    have := ih _ (k + l2.length) (fun q hq => hw q (List.mem_cons_of_mem _ hq)) (vt_inner hc (hw q List.mem_cons_self) l2 acc k h2 h)
    rw [List.length_cons, List.foldl_cons]
    exact this.mono (Nat.le_refl _) (by rw [Nat.add_mul]; omega)
theorem vt_nil (c : Int) (m : Nat) : VT c m 0 [] := ⟨List.nodup_nil, fun p hp => (by cases hp), fun p hp => (by cases hp), Nat.le_refl _⟩
theorem vt_prodM {c : Int} {m1 m2 k1 k2 : Nat} {l1 l2 : Tb} (hc : 0 < c) (h1 : VT c m1 k1 l1) (h2 : VT c m2 k2 l2) : VT c (m1 + m2) (k1 * k2) (prodM c l1 l2) :=
  (vt_outer hc h2.wd l1 [] 0 h1.wd (vt_nil c _)).mono (Nat.le_refl _) (by rw [Nat.zero_add]; exact Nat.mul_le_mul h1.ln h2.ln)
theorem VT.of {c : Int} {m k m' k' : Nat} {l : Tb} (h : VT c m k l) (hm : ∀ p ∈ l, p.1.length ≤ m') (hk : l.length ≤ k') : VT c m' k' l := ⟨h.nd, h.nu, fun p hp => ⟨(h.wd p hp).1, hm p hp⟩, hk⟩
section
variable {P : Program} {w : World} {K : PySem.W.Frag} {mg : Str → Option Value} {base : Heap}
def spPut : Sp := fun vs H Q _ => ∃ (c : Int) (d : Addr) (x : Str) (n : Int) (l : Tb), vs = [.int c, .ref d, .str x, .int n] ∧ 0 < c ∧ H d = some (.dK (kv l)) ∧ l.length ≤ 1000000 ∧
  ∀ H', But d H H' → H' d = some (.dK (kv (putM c l x n))) → Q .non H'
abbrev nPut : List Str := ["_law_clock_here", "_law_bag", "_law_word_here", "_law_number", "_law_total"]
def spPlus : Sp := fun vs H Q _ => ∃ (c : Int) (d1 d2 : Addr) (f : Int) (l1 l2 : Tb), vs = [.int c, .ref d1, .ref d2, .int f] ∧ 0 < c ∧ c ≤ 7 ∧ H d1 = some (.dK (kv l1)) ∧ H d2 = some (.dK (kv l2)) ∧ Nd l2 ∧ (∀ p ∈ l2, 1 ≤ p.2 ∧ p.2 < c) ∧ l1.length ≤ 900000 ∧ l2.length ≤ 100000 ∧
  ∀ H' d, Same H H' → H d = none → H' d = some (.dK (kv (plusM c l1 l2 f))) → Q (.ref d) H'
abbrev nPlus : List Str := ["_law_clock_here", "_law_one", "_law_other", "_law_factor", "_law_found", "_law_word_here"]
theorem len_plusM (c f : Int) : ∀ (l2 l1 : Tb), (plusM c l1 l2 f).length ≤ l1.length + l2.length
  | [], l1 => Nat.le_refl _
  | p :: r, l1 => by
    have h1 := len_plusM c f r (putM c l1 p.1 (f * p.2))
    have h2 := len_putM c l1 p.1 (f * p.2)
    have e : plusM c l1 (p :: r) f = plusM c (putM c l1 p.1 (f * p.2)) r f := rfl
    rw [e, List.length_cons]
    omega
theorem plusM_take (c f : Int) (l1 l2 : Tb) {i : Nat} {p : Str × Int} (e : l2[i]? = some p) : plusM c l1 (l2.take (i + 1)) f = putM c (plusM c l1 (l2.take i) f) p.1 (f * p.2) := by
  unfold plusM
  rw [List.take_add_one, e, List.foldl_append]
  rfl
end
end Fp

set_option Elab.async false
set_option linter.all false
set_option maxRecDepth 100000
set_option maxHeartbeats 4000000
namespace Fp
open PySem PySem.Spec PyProof.Rows L2
/-! ### the tape of the laws k77 to k92 -/
def TapeAt (ca : Addr) (H : Hp) (h : Addr) : Prop := ∃ (cs : List Int) (a l sd tn : Int), H h = some (.lst [.ref ca, .int a, .int l, .int sd, .int tn]) ∧ H ca = some (.lst (cs.map V.int)) ∧ 0 ≤ a
theorem TapeAt.ne {H : Hp} {h ca : Addr} {cs : List Int} {a l sd tn : Int} (h1 : H h = some (.lst [.ref ca, .int a, .int l, .int sd, .int tn])) (h2 : H ca = some (.lst (cs.map V.int))) : ca ≠ h := by
  refine ne_of h2 h1 fun z => ?_
  injection z with z
  cases cs with
  | nil => cases z
  | cons c r =>
    rw [List.map_cons] at z
    injection z with z1
    cases z1
theorem TapeAt.lst {ca : Addr} {H : Hp} {h : Addr} (x : TapeAt ca H h) : ∃ xs, H h = some (.lst xs) := by
  obtain ⟨cs, a, l, sd, tn, h1, _⟩ := x
  exact ⟨_, h1⟩
theorem TapeAt.cells {ca : Addr} {H : Hp} {h : Addr} (x : TapeAt ca H h) : ∃ xs, H ca = some (.lst xs) := by
  obtain ⟨cs, a, l, sd, tn, h1, h2, _⟩ := x
  exact ⟨_, h2⟩
theorem TapeAt.same {ca : Addr} {H H' : Hp} {h : Addr} (x : TapeAt ca H h) (k : Same H H') : TapeAt ca H' h := by
  obtain ⟨cs, a, l, sd, tn, h1, h2, r⟩ := x
  exact ⟨cs, a, l, sd, tn, k _ _ h1, k _ _ h2, r⟩
theorem TapeAt.off {ca : Addr} {H H' : Hp} {h d : Addr} (x : TapeAt ca H h) (k : But d H H') (h1 : h ≠ d) (h2 : ca ≠ d) : TapeAt ca H' h := by
  obtain ⟨cs, a, l, sd, tn, g1, g2, r⟩ := x
  exact ⟨cs, a, l, sd, tn, k _ _ g1 h1, k _ _ g2 h2, r⟩
theorem TapeAt.neD {ca : Addr} {H : Hp} {h d : Addr} {kvs : List (Key × V)} (x : TapeAt ca H h) (hd : H d = some (.dK kvs)) : d ≠ h := by
  obtain ⟨xs, hx⟩ := x.lst
  exact ne_of hd hx (by intro z; cases z)
/-- a new thing stands apart from the tape -/
theorem TapeAt.fresh {ca : Addr} {H : Hp} {h d : Addr} (x : TapeAt ca H h) (hd : H d = none) : d ≠ h ∧ d ≠ ca := by
  obtain ⟨xs, hx⟩ := x.lst
  obtain ⟨ys, hy⟩ := x.cells
  exact ⟨(ne_of_none hx hd).symm, (ne_of_none hy hd).symm⟩
section
variable {P : Program} {w : World} {K : PySem.W.Frag} {mg : Str → Option Value} {base : Heap}
def spTape (K : PySem.W.Frag) : Sp := fun vs H Q _ => ∃ (a : Addr) (ns : List Int), vs = [.ref a] ∧ SqL K H a (ns.map V.int) ∧ ∀ H' h ca, Same H H' → TapeAt ca H' h → Q (.ref h) H'
abbrev nTape : List Str := ["_law_script"]
theorem sc_tape : FnScope nTape ["_law_script"] (defScope s__law_tape) := ⟨rfl, rfl, rfl, by decide +kernel, rfl, by decide +kernel, by decide +kernel⟩
theorem ok_tape (T : Top K mg) : Ok P w K mg base 1 "_law_tape" ["_law_script"] (spTape K) := by
  obtain ⟨fd, F⟩ := fn__law_tape T
  refine ⟨⟨fd, ?_, F.bindsN fun _ _ _ _ _ _ us hl => match us, hl with | [_], _ => rfl⟩, g__law_tape T, F.kp⟩
  refine F.ok sc_tape (fun vs H Q E h => ?_) (fun cdv A outer s H vs Q E hr h => ?_)
  · obtain ⟨a, ns, rfl, _⟩ := h
    rfl
  · obtain ⟨a, ns, rfl, hS, q⟩ := h
    have nd := sc_tape.nd
    have hs : sizeLine = 16777216 := sizeLine_eq
    refine ⟨_, PSs.nox (pss_one (ps_ret (pe_lst (pa_cons (pe_callTy call_list_of (by rfl) (f_list T) (by decide +kernel) (pa_cons (pv 0) pa_nil)) (pa_cons pe_int (pa_cons pe_int (pa_cons pe_int (pa_cons pe_int pa_nil)))))))), ?_⟩
    refine ⟨_, rfl, a, _, rfl, .inl hS, fun l hl => ?_⟩
    have s1 := same_upd (o := .lst (ns.map V.int)) hl
    refine ⟨by show 5 ≤ sizeLine; omega, fun p np => ?_⟩
    have e1 : (upd H l (.lst (ns.map V.int))) l = some (.lst (ns.map V.int)) := upd_same
    exact q _ p l (s1.trans (same_upd np)) ⟨ns, 0, 0, 1, 0, upd_same, (by rw [upd_ne (ne_of_none e1 np)]; exact e1), by decide⟩
def spPick : Sp := fun vs H Q _ => ∃ (h ca : Addr) (n : Int), vs = [.ref h, .int n] ∧ 0 < n ∧ n < 1073741824 ∧ TapeAt ca H h ∧ ∀ (r : Int) (H' : Hp), 0 ≤ r → r < n → TapeAt ca H' h → But h H H' → Q (.int r) H'
abbrev nPick : List Str := ["_law_tape_here", "_law_many", "_law_digit", "_law_cell", "_law_mixed"]
theorem sc_pick : FnScope nPick ["_law_tape_here", "_law_many"] (defScope s__law_pick) := ⟨rfl, rfl, rfl, by decide +kernel, rfl, by decide +kernel, by decide +kernel⟩
theorem ok_pick (T : Top K mg) : Ok P w K mg base 1 "_law_pick" ["_law_tape_here", "_law_many"] spPick := by
  obtain ⟨fd, F⟩ := fn__law_pick T
  refine ⟨⟨fd, ?_, F.bindsN fun _ _ _ _ _ _ us hl => match us, hl with | [_, _], _ => rfl⟩, g__law_pick T, F.kp⟩
  refine F.ok sc_pick (fun vs H Q E h => ?_) (fun cdv A outer s H vs Q E hr h => ?_)
  · obtain ⟨h, ca, n, rfl, _⟩ := h
    rfl
  · obtain ⟨h, ca, n, rfl, hn0, hn1, hh, q⟩ := h
    have nd := sc_pick.nd
    refine ⟨_, PSs.nox (pss_cons (ps_if (pt_cmpR op_gt (pe_ix ix_list (pv 0) pe_int (fun _ _ => rfl)) pe_int (nomark _))
        (pss_cons (ps_set (i := 2) nd rfl (Or.inl rfl) (pe_op op_mod (pe_callTy call_int1 (by rfl) (f_int T) boot_int (pa_cons (pe_ix ix_list (pv 0) pe_int (fun _ _ => rfl)) pa_nil)) (pv 1)))
        (pss_cons (ps_asg (pe_op op_fdiv (pe_ix ix_list (pv 0) pe_int (fun _ _ => rfl)) (pv 1)) (pg_sub (pv 0) pe_int set_list))
        (pss_one (ps_ret (pv 2))))) pss_nil)
      (pss_cons (ps_asg (pe_op op_add (pe_ix ix_list (pv 0) pe_int (fun _ _ => rfl)) pe_int) (pg_sub (pv 0) pe_int set_list))
      (pss_cons (ps_set (i := 3) nd rfl (Or.inl rfl) pe_int)
      (pss_cons (ps_if (pt_cmpR op_lt (pe_ix ix_list (pv 0) pe_int (fun _ _ => rfl)) (pe_callB call_len (by rfl) (f_len T) PySem.boot_len (pa_cons (pe_ix ix_list (pv 0) pe_int (fun _ _ => rfl)) pa_nil)) (nomark _))
        (pss_cons (ps_set (i := 3) nd rfl (Or.inl rfl) (pe_ix ix_list (pe_ix ix_list (pv 0) pe_int (fun _ _ => rfl)) (pe_ix ix_list (pv 0) pe_int (fun _ _ => rfl)) (fun _ _ => rfl)))
        (pss_one (ps_asg (pe_op op_add (pe_ix ix_list (pv 0) pe_int (fun _ _ => rfl)) pe_int) (pg_sub (pv 0) pe_int set_list)))) pss_nil)
      (pss_cons (ps_if (pt_cmpR op_ge (pv 3) (pe_op op_pow pe_int pe_int) (nomark _))
        (pss_cons (ps_asg (pe_op op_fdiv (pv 3) (pv 1)) (pg_sub (pv 0) pe_int set_list))
        (pss_one (ps_ret (pe_op op_mod (pe_callTy call_int1 (by rfl) (f_int T) boot_int (pa_cons (pv 3) pa_nil)) (pv 1))))) pss_nil)
      (pss_cons (ps_set (i := 4) nd rfl (Or.inl rfl) (pe_op op_mod (pe_callTy call_int1 (by rfl) (f_int T) boot_int (pa_cons (pe_op op_add (pe_op op_add (pe_op op_mul (pe_ix ix_list (pv 0) pe_int (fun _ _ => rfl)) pe_int) (pe_op op_mod (pe_callTy call_int1 (by rfl) (f_int T) boot_int (pa_cons (pv 3) pa_nil)) pe_int)) (pe_op op_mul (pe_ix ix_list (pv 0) pe_int (fun _ _ => rfl)) pe_int)) pa_nil)) pe_int))
      (pss_cons (ps_set (i := 4) nd rfl (Or.inl rfl) (pe_op op_mod (pe_callTy call_int1 (by rfl) (f_int T) boot_int (pa_cons (pe_op op_mul (pv 4) (pe_op op_add (pe_op op_fdiv (pv 4) pe_int) pe_int)) pa_nil)) pe_int))
      (pss_cons (ps_asg (pv 4) (pg_sub (pv 0) pe_int set_list))
      (pss_one (ps_ret (pe_op op_mod (pe_callTy call_int1 (by rfl) (f_int T) boot_int (pa_cons (pe_op op_fdiv (pv 4) pe_int) pa_nil)) (pv 1)))))))))))), ?_⟩
    obtain ⟨cs, a, l, sd, tn, h1, h2, h5⟩ := id hh
    have hne := TapeAt.ne h1 h2
    obtain ⟨k, rfl⟩ : ∃ k : Nat, a = k := ⟨a.toNat, (Int.toNat_of_nonneg h5).symm⟩
    refine ⟨_, rfl, h, _, 2, _, rfl, rfl, SqL.of h1, rfl, _, _, rfl, rfl, _, rfl, ?_⟩
    refine ite2 (fun hc => ?_) (fun hc => ?_)
    · refine ⟨_, rfl, h, _, 2, _, rfl, rfl, SqL.of h1, rfl, .inl ⟨_, rfl, _, rfl, _, _, rfl, rfl, hn0, _, rfl, h, _, 2, _, rfl, rfl, SqL.of h1, rfl, _, rfl, _, _, rfl, rfl, ⟨hn0, hn1⟩, _, rfl, h, _, 2, 2, rfl, rfl, h1, rfl, _, rfl, ?_⟩⟩
      exact q _ _ (Int.emod_nonneg _ (by omega)) (Int.emod_lt_of_pos _ hn0) ⟨cs, k, l / n, sd, tn, upd_same, by rw [upd_ne hne]; exact h2, h5⟩ but_upd
    refine ⟨_, rfl, h, _, 4, _, rfl, rfl, SqL.of h1, rfl, _, _, rfl, rfl, _, rfl, h, _, 4, 4, rfl, rfl, h1, rfl, ?_⟩
    have e1 : (upd H h (.lst [.ref ca, .int k, .int l, .int sd, .int (tn + 1)])) h = some (.lst [.ref ca, .int k, .int l, .int sd, .int (tn + 1)]) := upd_same
    have e2 : (upd H h (.lst [.ref ca, .int k, .int l, .int sd, .int (tn + 1)])) ca = some (.lst (cs.map V.int)) := by rw [upd_ne hne]; exact h2
    have kc : But h H (upd H h (.lst [.ref ca, .int k, .int l, .int sd, .int (tn + 1)])) := but_upd
    refine ⟨_, rfl, h, _, 1, _, rfl, rfl, SqL.of upd_same, rfl, _, rfl, h, _, 0, _, rfl, rfl, SqL.of upd_same, rfl, _, _, rfl, .inl ⟨_, SqL.of e2, rfl⟩, _, _, rfl, rfl, _, rfl, ?_⟩
    refine ite2 (fun ha => ?_) (fun ha => ?_)
    · have ha2 : k < cs.length := by
        have := of_decide_eq_true ha
        rw [List.length_map] at this
        omega
      have ek : (cs.map V.int)[k]? = some (.int cs[k]) := by
        rw [List.getElem?_map, List.getElem?_eq_getElem ha2]
        rfl
      generalize cs[k] = cell at ek
      refine ⟨_, rfl, h, _, 0, _, rfl, rfl, SqL.of e1, rfl, _, rfl, h, _, 1, _, rfl, rfl, SqL.of e1, rfl, ca, _, _, _, rfl, rfl, SqL.of e2, atI_nat ek, ?_⟩
      refine ⟨_, rfl, h, _, 1, _, rfl, rfl, SqL.of e1, rfl, _, _, rfl, rfl, _, rfl, h, _, 1, 1, rfl, rfl, e1, rfl, ?_⟩
      replace e2 : (upd (upd H h (.lst [.ref ca, .int k, .int l, .int sd, .int (tn + 1)])) h (.lst [.ref ca, .int ((k : Int) + 1), .int l, .int sd, .int (tn + 1)])) ca = some (.lst (cs.map V.int)) := by rw [upd_ne hne]; exact e2
      replace kc : But h H (upd (upd H h (.lst [.ref ca, .int k, .int l, .int sd, .int (tn + 1)])) h (.lst [.ref ca, .int ((k : Int) + 1), .int l, .int sd, .int (tn + 1)])) := kc.trans but_upd
      replace e1 : (upd (upd H h (.lst [.ref ca, .int k, .int l, .int sd, .int (tn + 1)])) h (.lst [.ref ca, .int ((k : Int) + 1), .int l, .int sd, .int (tn + 1)])) h = some (.lst [.ref ca, .int ((k : Int) + 1), .int l, .int sd, .int (tn + 1)]) := upd_same
      refine ⟨_, rfl, _, _, rfl, rfl, ⟨by decide, by decide, by decide⟩, _, _, rfl, rfl, _, rfl, ?_⟩
      refine ite2 (fun hg => ?_) (fun hg => ?_)
      · refine ⟨_, rfl, _, rfl, _, _, rfl, rfl, ⟨hn0, hn1⟩, _, rfl, h, _, 2, 2, rfl, rfl, e1, rfl, ?_⟩
        refine ⟨_, rfl, .inl ⟨_, rfl, _, rfl, _, _, rfl, rfl, hn0, ?_⟩⟩
        exact q _ _ (Int.emod_nonneg _ (by omega)) (Int.emod_lt_of_pos _ hn0) ⟨cs, _, _, _, _, upd_same, by rw [upd_ne hne]; exact e2, by omega⟩ (kc.trans but_upd)
      · refine ⟨_, rfl, h, _, 3, _, rfl, rfl, SqL.of e1, rfl, _, _, rfl, rfl, .inr ⟨by decide, by decide⟩, _, rfl, .inl ⟨_, rfl, _, _, rfl, rfl, (by show (0 : Int) < _; decide), _, _, rfl, rfl, _, rfl, h, _, 4, _, rfl, rfl, SqL.of e1, rfl, _, _, rfl, rfl, .inr ⟨by decide, by decide⟩, _, _, rfl, rfl, .inl ⟨_, rfl, _, _, rfl, rfl, (by show (0 : Int) < _; decide), ?_⟩⟩⟩
        refine ⟨_, rfl, _, rfl, _, _, rfl, rfl, ⟨by decide, by decide⟩, _, _, rfl, rfl, _, _, rfl, rfl, .inl ⟨Int.lt_of_lt_of_le (by decide) (Int.emod_nonneg _ (by decide)), Int.lt_trans (Int.emod_lt_of_pos _ (by decide)) (by decide)⟩, .inl ⟨_, rfl, _, _, rfl, rfl, (by show (0 : Int) < _; decide), ?_⟩⟩
        refine ⟨_, rfl, _, rfl, h, _, 3, 3, rfl, rfl, e1, rfl, ?_⟩
        refine ⟨_, rfl, _, _, rfl, rfl, ⟨by decide, by decide⟩, .inl ⟨_, rfl, _, rfl, _, _, rfl, rfl, hn0, ?_⟩⟩
        exact q _ _ (Int.emod_nonneg _ (by omega)) (Int.emod_lt_of_pos _ hn0) ⟨cs, _, _, _, _, upd_same, by rw [upd_ne hne]; exact e2, by omega⟩ (kc.trans but_upd)
    · refine ⟨_, rfl, _, _, rfl, rfl, ⟨by decide, by decide, by decide⟩, _, _, rfl, rfl, _, rfl, ?_⟩
      refine ite2 (fun hg => ?_) (fun hg => ?_)
      · refine ⟨_, rfl, _, rfl, _, _, rfl, rfl, ⟨hn0, hn1⟩, _, rfl, h, _, 2, 2, rfl, rfl, e1, rfl, ?_⟩
        refine ⟨_, rfl, .inl ⟨_, rfl, _, rfl, _, _, rfl, rfl, hn0, ?_⟩⟩
        exact q _ _ (Int.emod_nonneg _ (by omega)) (Int.emod_lt_of_pos _ hn0) ⟨cs, _, _, _, _, upd_same, by rw [upd_ne hne]; exact e2, by omega⟩ (kc.trans but_upd)
      · refine ⟨_, rfl, h, _, 3, _, rfl, rfl, SqL.of e1, rfl, _, _, rfl, rfl, .inr ⟨by decide, by decide⟩, _, rfl, .inl ⟨_, rfl, _, _, rfl, rfl, (by show (0 : Int) < _; decide), _, _, rfl, rfl, _, rfl, h, _, 4, _, rfl, rfl, SqL.of e1, rfl, _, _, rfl, rfl, .inr ⟨by decide, by decide⟩, _, _, rfl, rfl, .inl ⟨_, rfl, _, _, rfl, rfl, (by show (0 : Int) < _; decide), ?_⟩⟩⟩
        refine ⟨_, rfl, _, rfl, _, _, rfl, rfl, ⟨by decide, by decide⟩, _, _, rfl, rfl, _, _, rfl, rfl, .inl ⟨Int.lt_of_lt_of_le (by decide) (Int.emod_nonneg _ (by decide)), Int.lt_trans (Int.emod_lt_of_pos _ (by decide)) (by decide)⟩, .inl ⟨_, rfl, _, _, rfl, rfl, (by show (0 : Int) < _; decide), ?_⟩⟩
        refine ⟨_, rfl, _, rfl, h, _, 3, 3, rfl, rfl, e1, rfl, ?_⟩
        refine ⟨_, rfl, _, _, rfl, rfl, ⟨by decide, by decide⟩, .inl ⟨_, rfl, _, rfl, _, _, rfl, rfl, hn0, ?_⟩⟩
        exact q _ _ (Int.emod_nonneg _ (by omega)) (Int.emod_lt_of_pos _ hn0) ⟨cs, _, _, _, _, upd_same, by rw [upd_ne hne]; exact e2, by omega⟩ (kc.trans but_upd)
end
end Fp

set_option Elab.async false
set_option linter.all false
set_option maxRecDepth 100000
set_option maxHeartbeats 4000000
namespace Fp
open PySem PySem.Spec PyProof.Rows L2 TL
instance (w : Str) : Decidable (xyz w) := by unfold xyz; infer_instance
/-! ### words drawn -/
theorem join_signs : ∀ ys : List Str, (∀ y ∈ ys, ∃ c, y = ⟨#[c]⟩ ∧ (c = 120 ∨ c = 121 ∨ c = 122)) → xyz (PySem.Txt.join "" ys) ∧ (PySem.Txt.join "" ys).length = ys.length := by
  intro ys
  have h0 : ∀ zs : List Str, (∀ y ∈ zs, ∃ c, y = ⟨#[c]⟩ ∧ (c = 120 ∨ c = 121 ∨ c = 122)) → (∀ c ∈ joinL [] (zs.map tl), c = 120 ∨ c = 121 ∨ c = 122) ∧ (joinL [] (zs.map tl)).length = zs.length := by
    intro zs
    induction zs with
    | nil => intro _; exact ⟨fun c hc => (by cases hc), rfl⟩
    | cons y r ih =>
      intro h
      obtain ⟨c, rfl, hc⟩ := h y List.mem_cons_self
      obtain ⟨i1, i2⟩ := ih fun z hz => h z (List.mem_cons_of_mem _ hz)
      cases r with
      | nil =>
        refine ⟨fun d hd => ?_, rfl⟩
        have : d = c := by simpa [joinL, tl] using hd
        rw [this]
        exact hc
      | cons z r =>
        have e : joinL [] ((⟨#[c]⟩ :: z :: r : List Str).map tl) = c :: joinL [] ((z :: r).map tl) := rfl
        rw [e]
        refine ⟨fun d hd => ?_, by rw [List.length_cons, i2]; rfl⟩
        rcases List.mem_cons.mp hd with rfl | hd
        · exact hc
        · exact i1 d hd
  intro h
  obtain ⟨h1, h2⟩ := h0 ys h
  have e : tl (PySem.Txt.join "" ys) = joinL [] (ys.map tl) := by
    rw [join_eq, tl_join]
    rfl
  refine ⟨fun c hc => h1 c ?_, ?_⟩
  · rw [← e]
    exact hc
  · rw [len_tl, e, h2]
theorem vt_put {c : Int} {m k : Nat} {l : Tb} (hv : VT c m k l) {x : Str} (hx : xyz x) (hl : x.length ≤ m) {n : Int} (h1 : 1 ≤ n) (h2 : n < c) : VT c m (k + 1) (putT l x n) := by
  refine ⟨nd_put hv.nd x n, fun p hp => ?_, fun p hp => ?_, Nat.le_trans (len_put l x n) (Nat.succ_le_succ hv.ln)⟩
  · rcases mem_put hp with rfl | hp
    · exact ⟨h1, h2⟩
    · exact hv.nu p hp
  · rcases mem_put hp with rfl | hp
    · exact ⟨hx, hl⟩
    · exact hv.wd p hp
section
variable {P : Program} {w : World} {K : PySem.W.Frag} {mg : Str → Option Value} {base : Heap}
def spWrd : Sp := fun vs H Q _ => ∃ (h ca : Addr) (z : Str) (m : Nat), vs = [.ref h, .str z, .int m] ∧ TapeAt ca H h ∧ xyz z ∧ 1 ≤ z.length ∧ z.length ≤ 1000 ∧ m ≤ 1000 ∧ ∀ H' r, TapeAt ca H' h → But h H H' → xyz r → r.length ≤ m → Q (.str r) H'
abbrev nWrd : List Str := ["_law_tape_here", "_law_letters_here", "_law_most", "_law_turn"]
theorem sc_wrd : FnScope nWrd ["_law_tape_here", "_law_letters_here", "_law_most"] (defScope s__law_word) := ⟨rfl, rfl, rfl, by decide +kernel, rfl, by decide +kernel, by decide +kernel⟩
theorem ok_wrd (T : Top K mg) : Ok P w K mg base 3 "_law_word" ["_law_tape_here", "_law_letters_here", "_law_most"] spWrd := by
  obtain ⟨fd, F⟩ := fn__law_word T
  refine ⟨⟨fd, ?_, F.bindsN fun _ _ _ _ _ _ us hl => match us, hl with | [_, _, _], _ => rfl⟩, g__law_word T, F.kp⟩
  refine F.ok sc_wrd (fun vs H Q E h => ?_) (fun cdv A outer s H vs Q E hr h => ?_)
  · obtain ⟨h, ca, z, m, rfl, _⟩ := h
    rfl
  · obtain ⟨h, ca, z, m, rfl, hh, hz, hz1, hz2, hm, q⟩ := h
    have nd := sc_wrd.nd
    have hs : sizeLine = 16777216 := sizeLine_eq
    have hr1 : Room 1 _ := hr.mono (by decide)
    refine ⟨_, PSs.nox (pss_one (ps_ret (pe_join pe_str (pe_lc (own := [("_law_turn", 3)]) (g := gName 3) (tt := tYes) rfl nd (pi_range1 (by rfl) (f_range T) (pa_cons (pc (ok_pick T) hr1 (pa_cons (pv 0) (pa_cons (pe_op op_add (pv 2) pe_int) pa_nil))) pa_nil))
      (blkOk_by (N := nWrd) (sc := defScope s__law_word) (by decide +kernel)) (fun _ _ _ _ _ => pg_name (i := 3) nd rfl (Or.inl rfl)) (fun _ _ _ _ _ => pts_nil)
      (fun _ _ _ _ _ => pe_item_str (pv 1) (pc (ok_pick T) hr1 (pa_cons (pv 0) (pa_cons (pe_callB call_len_str (by rfl) (f_len T) PySem.boot_len (pa_cons (pv 1) pa_nil)) pa_nil))) (fun _ _ => rfl)))))), ?_⟩
    refine ⟨⟨_, rfl⟩, ?_⟩
    refine ⟨_, rfl, _, rfl, _, _, rfl, rfl, h, ca, (m : Int) + 1, rfl, by omega, by omega, hh, fun r1 H1 hr0 hr2 hh1 k1 => ?_⟩
    refine ⟨r1, rfl, by omega, by omega, fun D hD => ?_⟩
    have nhD : h ≠ D := by
      obtain ⟨xs, hx⟩ := hh1.lst
      exact ne_of_none hx hD
    have ncD : ca ≠ D := by
      obtain ⟨xs, hx⟩ := hh1.cells
      exact ne_of_none hx hD
    refine lc_it walk_range (fun i H' => (∃ ys : List Str, H' D = some (.lst (ys.map V.str)) ∧ ys.length = i ∧ ∀ y ∈ ys, ∃ c, y = ⟨#[c]⟩ ∧ (c = 120 ∨ c = 121 ∨ c = 122)) ∧ TapeAt ca H' h ∧ But h H1 H')
      ⟨⟨[], upd_same, rfl, fun y hy => (by cases hy)⟩, hh1.same (same_upd hD), But.of (same_upd hD)⟩ (fun _ _ _ _ => trivial) ?_ ?_
    · rintro i x H2 H3 hi ⟨⟨ys, p1, p2, p3⟩, p4, p5⟩ ⟨rfl, rfl⟩
      refine ⟨rfl, ?_⟩
      refine ⟨_, rfl, _, rfl, _, rfl, z, rfl, by omega, h, ca, (z.length : Int), rfl, by omega, by omega, p4, fun r2 H4 hr3 hr4 hh4 k4 => ?_⟩
      obtain ⟨n, rfl⟩ : ∃ n : Nat, r2 = n := ⟨r2.toNat, (Int.toNat_of_nonneg hr3).symm⟩
      have hn : n < z.cps.size := by
        have : z.length = z.cps.size := rfl
        omega
      refine ⟨z, _, z.cps[n], rfl, rfl, by omega, by omega, hr4, ?_, ?_⟩
      · rw [Int.toNat_natCast, Array.getElem?_eq_getElem hn]
      · refine ⟨_, k4 _ _ p1 nhD.symm, ?_, ⟨ys ++ [⟨#[z.cps[n]]⟩], ?_, ?_, ?_⟩, ?_, ?_⟩
        · rw [List.length_map]
          omega
        · rw [upd_same, List.map_append]
          rfl
        · rw [List.length_append, p2]
          rfl
        · intro y hy
          rcases List.mem_append.mp hy with hy | hy
          · exact p3 y hy
          · have : y = ⟨#[z.cps[n]]⟩ := by simpa using hy
            exact ⟨_, this, hz _ (by simp)⟩
        · exact hh4.off (d := D) but_upd nhD ncD
        · intro b o z' n'
          have nb : b ≠ D := ne_of_none z' hD
          rw [upd_ne nb]
          exact k4 b o (p5 b o z' n') n'
    · rintro H' ⟨⟨ys, p1, p2, p3⟩, p4, p5⟩
      obtain ⟨j1, j2⟩ := join_signs ys p3
      refine ⟨_, D, ys, rfl, rfl, .inl (.inl (.inl p1)), ?_, ?_⟩
      · have e : (ys.map (·.length)).sum = ys.length := by
          clear p1 p2 j1 j2
          induction ys with
          | nil => rfl
          | cons y r ih =>
            obtain ⟨c, rfl, _⟩ := p3 y List.mem_cons_self
            rw [List.map_cons, List.sum_cons, ih fun w hw => p3 w (List.mem_cons_of_mem _ hw), List.length_cons]
            show 1 + r.length = _
            omega
        rw [e]
        show ys.length + ys.length * 0 ≤ _
        omega
      · exact q H' _ p4 (fun b o z' n' => p5 b o (k1 b o z' n') n') j1 (by omega)
def spSparse : Sp := fun vs H Q _ => ∃ (h ca : Addr) (c : Int) (z : Str) (k m : Nat), vs = [.ref h, .int c, .str z, .int k, .int m] ∧ TapeAt ca H h ∧ 2 ≤ c ∧ c ≤ 7 ∧ xyz z ∧ 1 ≤ z.length ∧ z.length ≤ 1000 ∧ m ≤ 1000 ∧ k ≤ 1000 ∧
  ∀ H' d l, TapeAt ca H' h → But h H H' → H d = none → H' d = some (.dK (kv l)) → VT c m k l → Q (.ref d) H'
abbrev nSparse : List Str := ["_law_tape_here", "_law_clock_here", "_law_letters_here", "_law_many", "_law_most", "_law_found", "_law_turn", "_law_word_here"]
theorem sc_sparse : FnScope nSparse ["_law_tape_here", "_law_clock_here", "_law_letters_here", "_law_many", "_law_most"] (defScope s__law_sparse) := ⟨rfl, rfl, rfl, by decide +kernel, rfl, by decide +kernel, by decide +kernel⟩
theorem ok_sparse (T : Top K mg) : Ok P w K mg base 4 "_law_sparse" ["_law_tape_here", "_law_clock_here", "_law_letters_here", "_law_many", "_law_most"] spSparse := by
  obtain ⟨fd, F⟩ := fn__law_sparse T
  refine ⟨⟨fd, ?_, F.bindsN fun _ _ _ _ _ _ us hl => match us, hl with | [_, _, _, _, _], _ => rfl⟩, g__law_sparse T, F.kp⟩
  refine F.ok sc_sparse (fun vs H Q E h => ?_) (fun cdv A outer s H vs Q E hr h => ?_)
  · obtain ⟨h, ca, c, z, k, m, rfl, _⟩ := h
    rfl
  · obtain ⟨h, ca, c, z, k, m, rfl, hh, hc2, hc7, hz, hz1, hz2, hm, hk, q⟩ := h
    have nd := sc_sparse.nd
    have hu := hu_of hr
    have hs : sizeLine = 16777216 := sizeLine_eq
    have hr1 : Room 1 _ := hr.mono (by decide)
    refine ⟨_, PSs.nox (pss_cons (ps_set (i := 5) nd rfl (Or.inl rfl) pe_dnewK)
      (pss_cons (ps_for PassesOwn.never rfl (pi_range1 (by rfl) (f_range T) (pa_cons (pc (ok_pick T) hr1 (pa_cons (pv 0) (pa_cons (pe_op op_add (pv 3) pe_int) pa_nil))) pa_nil)) (pg_name (i := 6) nd rfl (Or.inl rfl))
        (pss_cons (ps_set (i := 7) nd rfl (Or.inl rfl) (pc (ok_wrd T) hr (pa_cons (pv 0) (pa_cons (pv 2) (pa_cons (pv 4) pa_nil)))))
        (pss_one (ps_dput hu (pv 5) (pv 7) (pe_op op_add pe_int (pc (ok_pick T) hr1 (pa_cons (pv 0) (pa_cons (pe_op op_sub (pv 1) pe_int) pa_nil)))) rfl))))
      (pss_one (ps_ret (pv 5))))), ?_⟩
    refine fun F0 hF => ?_
    obtain ⟨nhF, ncF⟩ := hh.fresh hF
    refine ⟨_, rfl, _, rfl, _, _, rfl, rfl, h, ca, (k : Int) + 1, rfl, by omega, by omega, hh.same (same_upd hF), fun r1 H1 hr0 hr2 hh1 k1 => ?_⟩
    refine ⟨r1, rfl, by omega, by omega, ?_⟩
    refine for_it walk_range (fun i σ H' => (∃ v v7, σ = [some (.ref h), some (.int c), some (.str z), some (.int k), some (.int m), some (.ref F0), v, v7]) ∧ (∃ l, H' F0 = some (.dK (kv l)) ∧ VT c m i l) ∧ TapeAt ca H' h ∧ But h H H')
      ⟨⟨none, none, rfl⟩, ⟨[], k1 _ _ upd_same nhF, vt_nil c m⟩, hh1, fun b o e n => k1 b o (same_upd hF b o e) n⟩ (fun _ _ _ _ _ => trivial) ?_ ?_
    · rintro i x σ H2 H3 hi ⟨⟨v, v7, rfl⟩, ⟨l, p1, p2⟩, p3, p4⟩ ⟨rfl, rfl⟩
      refine ⟨_, rfl, _, rfl, _, rfl, h, ca, z, m, rfl, p3, hz, hz1, hz2, hm, fun H4 x5 hh4 k4 hx5 hl5 => ?_⟩
      refine ⟨_, rfl, _, rfl, _, _, rfl, rfl, h, ca, c - 1, rfl, by omega, by omega, hh4, fun r2 H5 g0 g1 hh5 k5 => ?_⟩
      have e5 : H5 F0 = some (.dK (kv l)) := k5 _ _ (k4 _ _ p1 nhF) nhF
      have hlen := p2.ln
      refine ⟨_, _, rfl, rfl, _, rfl, _, rfl, F0, _, rfl, DPut.k (k := Sum.inr x5) e5 (by rw [kv_len]; omega), ?_⟩
      refine ⟨⟨_, _, rfl⟩, ⟨putT l x5 (1 + r2), ?_, vt_put p2 hx5 hl5 (by omega) (by omega)⟩, hh5.off but_upd nhF.symm ncF.symm, fun b o e n => ?_⟩
      · rw [upd_same, putK_kv]
      · rw [upd_ne (ne_of_none e hF)]
        exact k5 b o (k4 b o (p4 b o e n) n) n
    · rintro σ H' ⟨⟨v, v7, rfl⟩, ⟨l, p1, p2⟩, p3, p4⟩
      refine ⟨_, rfl, ?_⟩
      exact q H' F0 l p3 p4 hF p1 (p2.mono (Nat.le_refl _) (by omega))
def spCk : Sp := fun vs H Q _ => ∃ h ca : Addr, vs = [.ref h] ∧ TapeAt ca H h ∧ ∀ H' c, TapeAt ca H' h → But h H H' → isCk c → Q (.int c) H'
theorem sc_ck : FnScope ["_law_tape_here"] ["_law_tape_here"] (defScope s__law_clock) := ⟨rfl, rfl, rfl, by decide +kernel, rfl, by decide +kernel, by decide +kernel⟩
theorem ok_ck (T : Top K mg) : Ok P w K mg base 2 "_law_clock" ["_law_tape_here"] spCk := by
  obtain ⟨fd, F⟩ := fn__law_clock T
  refine ⟨⟨fd, ?_, F.bindsN fun _ _ _ _ _ _ us hl => match us, hl with | [_], _ => rfl⟩, g__law_clock T, F.kp⟩
  refine F.ok sc_ck (fun vs H Q E h => ?_) (fun cdv A outer s H vs Q E hr h => ?_)
  · obtain ⟨h, ca, rfl, _⟩ := h
    rfl
  · obtain ⟨h, ca, rfl, hh, q⟩ := h
    refine ⟨_, PSs.nox (pss_one (ps_ret (pe_ix ix_list (pe_lst (pa_cons pe_int (pa_cons pe_int (pa_cons pe_int (pa_cons pe_int (pa_cons pe_int (pa_cons pe_int pa_nil))))))) (pc (ok_pick T) hr (pa_cons (pv 0) (pa_cons pe_int pa_nil))) (fun _ _ => rfl)))), ?_⟩
    refine ⟨by show 6 ≤ sizeLine; rw [sizeLine_eq]; decide, fun L hL => ?_⟩
    obtain ⟨hne, _⟩ := hh.fresh hL
    refine ⟨_, rfl, h, ca, 6, rfl, by decide, by decide, hh.same (same_upd hL), fun r H1 hr0 hr1 h1 k1 => ?_⟩
    obtain ⟨n, rfl⟩ : ∃ n : Nat, r = n := ⟨r.toNat, (Int.toNat_of_nonneg hr0).symm⟩
    have hn : n < 6 := by omega
    have e : ∃ c : Int, isCk c ∧ [V.int 2, V.int 2, V.int 3, V.int 3, V.int 5, V.int 7][n]? = some (V.int c) := by
      have : n = 0 ∨ n = 1 ∨ n = 2 ∨ n = 3 ∨ n = 4 ∨ n = 5 := by omega
      rcases this with rfl | rfl | rfl | rfl | rfl | rfl
      · exact ⟨2, .inl rfl, rfl⟩
      · exact ⟨2, .inl rfl, rfl⟩
      · exact ⟨3, .inr (.inl rfl), rfl⟩
      · exact ⟨3, .inr (.inl rfl), rfl⟩
      · exact ⟨5, .inr (.inr (.inl rfl)), rfl⟩
      · exact ⟨7, .inr (.inr (.inr rfl)), rfl⟩
    obtain ⟨c, hc, ec⟩ := e
    refine ⟨L, _, _, _, rfl, rfl, .inl (.inl (k1 _ _ upd_same hne)), atI_nat ec, ?_⟩
    exact q H1 c h1 (fun b o z n => k1 b o (same_upd hL b o z) n) hc
def spLtr : Sp := fun vs H Q _ => ∃ h ca : Addr, vs = [.ref h] ∧ TapeAt ca H h ∧ ∀ H' z, TapeAt ca H' h → But h H H' → xyz z → 1 ≤ z.length → z.length ≤ 3 → Q (.str z) H'
theorem sc_ltr : FnScope ["_law_tape_here"] ["_law_tape_here"] (defScope s__law_letters) := ⟨rfl, rfl, rfl, by decide +kernel, rfl, by decide +kernel, by decide +kernel⟩
theorem ok_ltr (T : Top K mg) : Ok P w K mg base 2 "_law_letters" ["_law_tape_here"] spLtr := by
  obtain ⟨fd, F⟩ := fn__law_letters T
  refine ⟨⟨fd, ?_, F.bindsN fun _ _ _ _ _ _ us hl => match us, hl with | [_], _ => rfl⟩, g__law_letters T, F.kp⟩
  refine F.ok sc_ltr (fun vs H Q E h => ?_) (fun cdv A outer s H vs Q E hr h => ?_)
  · obtain ⟨h, ca, rfl, _⟩ := h
    rfl
  · obtain ⟨h, ca, rfl, hh, q⟩ := h
    refine ⟨_, PSs.nox (pss_one (ps_ret (pe_ix ix_list (pe_lst (pa_cons pe_str (pa_cons pe_str (pa_cons pe_str (pa_cons pe_str (pa_cons pe_str (pa_cons pe_str (pa_cons pe_str pa_nil)))))))) (pc (ok_pick T) hr (pa_cons (pv 0) (pa_cons pe_int pa_nil))) (fun _ _ => rfl)))), ?_⟩
    refine ⟨by show 7 ≤ sizeLine; rw [sizeLine_eq]; decide, fun L hL => ?_⟩
    obtain ⟨hne, _⟩ := hh.fresh hL
    refine ⟨_, rfl, h, ca, 7, rfl, by decide, by decide, hh.same (same_upd hL), fun r H1 hr0 hr1 h1 k1 => ?_⟩
    obtain ⟨n, rfl⟩ : ∃ n : Nat, r = n := ⟨r.toNat, (Int.toNat_of_nonneg hr0).symm⟩
    have hn : n < 7 := by omega
    have e : ∃ z : Str, xyz z ∧ 1 ≤ z.length ∧ z.length ≤ 3 ∧ [V.str "xy", .str "xy", .str "xy", .str "yx", .str "xyz", .str "x", .str "z"][n]? = some (V.str z) := by
      have : n = 0 ∨ n = 1 ∨ n = 2 ∨ n = 3 ∨ n = 4 ∨ n = 5 ∨ n = 6 := by omega
      rcases this with rfl | rfl | rfl | rfl | rfl | rfl | rfl <;> exact ⟨_, by decide, by decide, by decide, rfl⟩
    obtain ⟨z, hz, hz1, hz3, ez⟩ := e
    refine ⟨L, _, _, _, rfl, rfl, .inl (.inl (k1 _ _ upd_same hne)), atI_nat ez, ?_⟩
    exact q H1 z h1 (fun b o z n => k1 b o (same_upd hL b o z) n) hz hz1 hz3
end
end Fp

set_option Elab.async false
set_option linter.all false
set_option maxRecDepth 100000
set_option maxHeartbeats 4000000
/-! defs that show things with repr: they are called where nothing else is being shown -/
namespace L2
open PySem PySem.Spec PyProof.Rows
abbrev Gd (A : Around) : Prop := A.guards = some []
structure FnG (P : Program) (w : World) (K : PySem.W.Frag) (mg : Str → Option Value) (base : Heap) (k : Nat) (f : Addr) (fd : FuncData) (ps : List Str) (sp : Sp) : Prop where
  len : ∀ vs H Q E, sp vs H Q E → vs.length = ps.length
  run : ∀ (A : Around) (outer : List Env) (s : Shared) (H : Hp) (args : Args) (us : List Value) (vs : List V) (Q : VK) (E : XK), Gd A → Room k A → Env0 P w K mg base A outer s H → BindsTo s fd args (ps.zip us) → Vals vs us → sp vs H Q E → codeAny (model P w) A (.call (.ref f) args) (CR CX0 outer P w H s Q E) s
section
variable {P : Program} {w : World} {K : PySem.W.Frag} {mg : Str → Option Value} {base : Heap}
theorem FnOk.gd {k : Nat} {f : Addr} {fd : FuncData} {ps : List Str} {sp : Sp} (F : FnOk P w K mg base CX0 k f fd ps sp) : FnG P w K mg base k f fd ps sp :=
  ⟨F.len, fun A outer s H args us vs Q E _ => F.run A outer s H args us vs Q E⟩
theorem FunD.okG {x qual : Str} {params : Arguments} {body : List Stmt} {scope : Scope} {dvs : List V} {kws : List (Str × V)} {f : Addr} {fd : FuncData} {N ps : List Str} {k : Nat} {sp : Sp}
    (F : FunD K x qual params body scope dvs kws f fd) (S : FnScope N ps scope) (len : ∀ vs H Q E, sp vs H Q E → vs.length = ps.length)
    (hbody : ∀ (cdv : Value) (A : Around) (outer : List Env) (s : Shared) (H : Hp) (vs : List V) (Q : VK) (E : XK), Gd A → Room k (A.deeper (envOfC qual scope s.heap.objs.size f cdv)) → sp vs H Q E →
      ∃ t, PSs (cxOf CX0 P w K mg base N qual scope f cdv A outer s H E) body t ∧ t { nx := fun _ H' => Q .non H', rt := Q } (start N vs) H) : FnG P w K mg base (k + 1) f fd ps sp := by
  obtain ⟨oc, od, dV, kV, doc, pm, an, cdv, ct, osl, rfl, lk, hcd, _, _⟩ := F.ex
  refine ⟨len, fun A outer s H args us vs Q E hG hr e0 hb r hsp => ?_⟩
  have keep := fun (b : Addr) (o : Obj) (e : base.get? b = some o) => (e0.bs b o e).1
  have inK : K.In s.heap := e0.mod.kin.keeps keep
  have names : ∀ y ∈ ps.zip us, scope.names.lookup y.1 = some .local ∨ (scope.names.lookup y.1 = some .cell ∧ ((cellsFrom (s.heap.objs.size + 1) scope.names []).lookup y.1).isSome = true) := by
    rintro ⟨n, v⟩ hy
    exact (S.par n (List.of_mem_zip hy).1).imp id fun q => ⟨q, PySem.W.cellsFrom_some _ _ _ (.inl q)⟩
  have hlen : us.length = ps.length := r.length.symm.trans (len _ _ _ _ hsp)
  refine codeAny_call_function hr.depth (inK _ _ lk) rfl S.co S.gen rfl (PySem.W.codeRec_of inK hcd) (hb _ _ _ _ ?_)
  refine wpAny_newFunctionEnv_cells S.kind names fun env he s1 x => ?_
  subst he
  obtain ⟨t, ht, hq⟩ := hbody cdv A outer s H vs Q E hG (hr.deeper _) hsp
  have I : Inv (cxOf CX0 P w K mg base N qual scope f cdv A outer s H E) [] (start N vs) H s1 := inv_start S hr.hd e0 (len _ _ _ _ hsp) r x
  have out : ∀ {σ' : St} {H' : Hp} {v : V} {u : Value} {s' : Shared}, Inv (cxOf CX0 P w K mg base N qual scope f cdv A outer s H E) [] σ' H' s' → RelV v u → Q v H' → CE outer P w H s Q u s' :=
    fun J rv q => ⟨_, _, J.os, J.bare, J.base, J.hok, rv, q⟩
  refine ⟨(e0.mod.nolimit.keeps keep).keeps x.toInCall.keep, codeAny_func (wpAny_mono (ht.run [] s1 (start N vs) H _ I hq) (fun fl s' hs => ?_) fun e s' hs => hs)⟩
  match fl, hs with
  | .ret u, ⟨v, σ', H', J, rv, q⟩ => exact out J rv q
  | .next, ⟨σ', H', J, q⟩ => exact out (v := V.non) (u := Value.none) J rfl q
  | .brk, ⟨_, _, _, q⟩ => exact q.elim
  | .cont, ⟨_, _, _, q⟩ => exact q.elim
end
section
variable {X : Cx} {x : Str} {f : Addr} {fd : FuncData} {ps : List Str} {sp : Sp} {k : Nat} {p pos : Pos} {e : Expr} {es : List Expr} {t : TA}
theorem pe_callG (F : FnG X.prog X.w X.K X.mg X.base k f fd ps sp) (hG : Gd X.A) (hr : Room k X.A) (hg : Gl X x) (hm : X.mg x = some (.ref f)) (hk : PySem.W.keepIn X.K (.ref f) = true) (hb : Binds X.K fd ps [])
    (ha : PA X (e :: es) t) (hdb : (x == ("__debug__" : Str)) = false := by decide) (he : starEach (e :: es) X.env = (false, eval e X.env) :: starEach es X.env := by rfl) (hpl : (backTo pos (starEach es X.env)).any (·.1) = false := by rfl) :
    PE X (.Call (.Name x p) (e :: es) [] pos) (tCall sp [] E0 t) := by
  refine ⟨fun pins s σ H Q I h => wpAny_Call_Name_kw (ld_glob I hg hm ?_ hdb)⟩
  refine PySem.W.callWith_K (h₀ := X.base) I.ok.mod.kin hk (thn (ha.run pos pins s σ H _ I h) fun us s1 ⟨vs, H1, I1, r, q⟩ => ⟨I1.kIn, ?_⟩) he hpl
  have q' : sp vs H1 Q E0 := by
    have q0 : sp (vs ++ []) H1 Q E0 := q
    rw [List.append_nil] at q0
    exact q0
  have hl : (us ++ []).length = ps.length := by
    rw [List.append_nil, ← r.length]
    exact F.len _ _ _ _ q'
  have bb := hb s1 us I1.kIn hl
  rw [List.append_nil] at bb
  refine wpAny_call (codeAny_mono (F.run X.A X.stack s1 H1 ⟨us, []⟩ us vs Q E0 hG hr I1.env0 bb r q') fun r s' hq => ?_)
  match r, hq with
  | .error e, hq => exact pass0 pins σ H1 s1 e s' I1 hq
  | .ok (.ret u), hq => exact I1.after hq
  | .ok .next, hq => exact hq.elim
  | .ok .brk, hq => exact hq.elim
  | .ok .cont, hq => exact hq.elim
/-- what repr tells of None and of a tuple of ints -/
def shownT : Option (List Int) → Str
  | none => "None"
  | some ns => (PyData.tuple (ns.map PyData.int)).shown
def rRepr (K : PySem.W.Frag) : List V → Hp → VK → Prop := fun xs H Q => ∃ (x : V) (r : Option (List Int)), xs = [x] ∧ (match r with
  | none => x = .non
  | some ns => ∃ t, x = .ref t ∧ SqT K H t (ns.map V.int)) ∧ (∀ ns, r = some ns → (PyData.tuple (ns.map PyData.int)).showable = true ∧ (shownT (some ns)).length ≤ sizeLine) ∧ Q (.str (shownT r)) H
theorem dp_ints {K : PySem.W.Frag} {H : Hp} : ∀ ns : List Int, DpAll K H (ns.map V.int) (ns.map PyData.int)
  | [] => .nil
  | n :: ns => .cons (.int n) (dp_ints ns)
theorem no_dict : ∀ ns : List Int, (PyData.tuple (ns.map PyData.int)).hasDict = false
  | [] => rfl
  | n :: ns => by
    have h := no_dict ns
    show (PyData.hasDict (.int n) || PyData.hasDictAll (ns.map PyData.int)) = false
    rw [show PyData.hasDictAll (ns.map PyData.int) = false from h]
    rfl
theorem depth_ints : ∀ ns : List Int, PyData.depthAll (ns.map PyData.int) ≤ 1
  | [] => Nat.zero_le _
  | n :: ns => by
    have h := depth_ints ns
    show max (PyData.depth (.int n)) (PyData.depthAll (ns.map PyData.int)) ≤ 1
    have : PyData.depth (.int n) ≤ 1 := by first | exact Nat.zero_le _ | exact Nat.le_refl _
    omega
theorem cr_repr (hG : Gd X.A) (hu : X.A.units + 64 < cLine) : CallR X (.builtin "repr") (rRepr X.K) := by
  intro pins s σ H xs us Q I r h
  obtain ⟨x, r0, rfl, hx, hz, q⟩ := h
  obtain ⟨u, rfl, ru⟩ := r.one
  cases r0 with
  | none =>
    have hx' : x = .non := hx
    subst hx'
    cases ru
    exact PySem.P.repr_of_none ⟨.str _, H, I.tok _, ⟨_, rfl⟩, q⟩
  | some ns =>
    obtain ⟨t, rfl, ht⟩ := hx
    cases ru
    obtain ⟨z1, z2⟩ := hz ns rfl
    obtain ⟨as, rd⟩ := Dp.reads I (.tuple (ns.map PyData.int)) (.ref t) (.ref t) (.tup ht (dp_ints ns)) rfl
    refine PySem.repr_of_reads' rd z1 (fun z => by rw [no_dict] at z; cases z) hG ?_ (fun _ _ e => e) (fun h' u tk k => ⟨.str _, H, I.kept (t' := tk) k, ⟨u, rfl⟩, q⟩) z2
    have := depth_ints ns
    show X.A.units + (PyData.depthAll (ns.map PyData.int) + 1 + 1) < cLine
    omega
end
end L2

set_option Elab.async false
set_option linter.all false
set_option maxRecDepth 100000
set_option maxHeartbeats 2000000
/-! key=lambda _law_word_here: (-len(_law_word_here), _law_word_here), called -/
namespace Fp
open PySem PySem.W PySem.Spec PyProof.Rows
def lmA (p : Pos) : Arguments := { posonlyargs := [], args := [{ arg := "_law_word_here", annotation := none, pos := p }], vararg := none, kwonlyargs := [], kw_defaults := [], kwarg := none, defaults := [] }
def lmB (p1 p2 p3 p4 p5 p6 : Pos) : Expr := .Tuple [.UnaryOp .USub (.Call (.Name "len" p1) [.Name "_law_word_here" p2] [] p3) p4, .Name "_law_word_here" p5] 0 p6
def lmS : Scope := { kind := .function, names := [(PySem.Str.ofString "_law_word_here", .local), (PySem.Str.ofString "len", .globalImplicit)], isGenerator := false, isCoroutine := false }
theorem ldL {M : Model} {s : Shared} {env : Env} {m : Str → Option Value} {pos : Pos} {v : Value} {Q : Value → Shared → Prop} {A : Around} {E : Value → Shared → Prop} (hk : env.scope.kind = .function) (hl : env.kindOf "_law_word_here" = some .local) (hn : s.heap.Ns env.locals m) (hv : m "_law_word_here" = some v) (h : Q v s) :
    wpAny M A (eval (.Name "_law_word_here" pos) env) Q E s := wpAny_Name (wpAny_loadName_local hk hl hn hv h) (by decide)
section
variable {prog : Program} {w : World} {A : Around} {E : Value → Shared → Prop} {s : Shared} {K : Frag} {mg : Str → Option Value} {base : Heap} {f c' : Addr} {qual : Str} {pm ctv : Value} {p0 p1 p2 p3 p4 p5 p6 : Pos}
theorem lam_rank (hf : s.heap.get? f = some (kla_obj "<lambda>" qual (lmA p0) (lmB p1 p2 p3 p4 p5 p6) lmS [] pm c' ctv)) (hc : s.heap.CodeRec (.ref c') qual) (Mo : L2.Mod K mg base) (kb : ∀ b o, base.get? b = some o → s.heap.get? b = some o) (hlen : mg "len" = none) (hroom : A.depth + 1 < recursionLimit)
    {w0 : Str} {t : Tok} (hw : w0.length ≤ sizeLine) : wpAny (model prog w) A (call (.ref f) [.str w0 t]) (KeyPure (rk w0) s) E s := by
  obtain ⟨mb, b1, b2⟩ := Mo.blt
  refine wpAny_call (kla_callFunE (by omega) hf rfl rfl rfl rfl hc ?_)
  refine wpAny_of_eq (show bindArgs _ _ = pure [(PySem.Str.ofString "_law_word_here", Value.str w0 t)] by first | rfl | with_unfolding_all rfl) ?_
  refine wpAny_newFunctionEnv (fun x hx => ?_) (fun x hx => ?_) (fun h' hn sb => ?_)
  · rcases List.mem_cons.mp hx with rfl | hx
    · decide
    · rcases List.mem_cons.mp hx with rfl | hx
      · decide
      · cases hx
  · obtain rfl := List.mem_singleton.mp hx
    first | rfl | decide
  have k : ∀ b o, s.heap.get? b = some o → h'.get? b = some o := fun b o e => (sb.2 b (Nat.ne_of_lt (Heap.lt_size e))).trans (Heap.get?_push_of_some _ e)
  refine ⟨Mo.nolimit.keeps fun b o e => k b o (kb b o e), kla_codeExpr ?_⟩
  have hn' : h'.Ns s.heap.objs.size fun x => List.lookup x [(PySem.Str.ofString "_law_word_here", Value.str w0 t)] := hn
  show wpAny _ _ (eval (lmB p1 p2 p3 p4 p5 p6) _) _ _ _
  unfold lmB
  refine wpAny_Tuple_spliced ?_
  show wpAny _ _ (spliced ((false, eval _ _) :: backTo p6 (starEach [_] _))) _ _ _
  refine Calls.spliced_cons (wpAny_UnaryOp ?_)
  refine wpAny_Call_Name_kw (Calls.Name_function_global rfl rfl (Calls.loadGlobal_builtin (Mo.glob.keeps fun b o e => k b o (kb b o e)) hlen (b1.keeps fun b o e => k b o (kb b o e)) ((b2 "len" (by decide)).trans boot_len) ?_) (by decide))
  have hs : sizeLine = 16777216 := sizeLine_eq
  have hl63 := L2.line63
  have hv : List.lookup (PySem.Str.ofString "_law_word_here") [(PySem.Str.ofString "_law_word_here", Value.str w0 t)] = some (Value.str w0 t) := by
    rw [List.lookup_cons_self]
  refine callWith_builtin1 (spliced_more (ldL (m := fun x => List.lookup x [(PySem.Str.ofString "_law_word_here", Value.str w0 t)]) (v := .str w0 t) rfl rfl hn' hv (spliced_none ?_))) rfl rfl
  refine len_str (by omega) (neg_int ?_)
  show wpAny _ _ (spliced ((false, eval _ _) :: backTo p6 (starEach [] _))) _ _ _
  refine Calls.spliced_cons (ldL (m := fun x => List.lookup x [(PySem.Str.ofString "_law_word_here", Value.str w0 t)]) (v := .str w0 t) rfl rfl hn' hv (Calls.spliced_nil ?_))
  refine ⟨by show 2 ≤ sizeLine; rw [sizeLine_eq]; decide, ?_⟩
  refine ⟨_, _, rfl, fun b o e => Heap.get?_push_of_some _ (k b o e), ?_⟩
  exact Reads.tuple (Heap.get?_push_size _ rfl) rfl rfl (by
    first
    | exact ReadsAll.cons (Reads.int _ _) (ReadsAll.cons (Reads.str _ _) ReadsAll.nil)
    | (have := ReadsAll.cons (h := Heap.push h' _) (Reads.int (-(w0.length : Int)) _) (ReadsAll.cons (Reads.str w0 t) ReadsAll.nil); simpa using this))
end
end Fp

set_option Elab.async false
set_option linter.all false
set_option maxRecDepth 100000
set_option maxHeartbeats 2000000
/-! sorted(xs, key=lambda _law_word_here: (-len(_law_word_here), _law_word_here)) -/
namespace L2
open PySem PySem.Spec PyProof.Rows
def tSortLam (K : PySem.W.Frag) (T : List (Addr × Str)) (t : TA) : TE := fun σ H Q => t σ H fun vs H1 => LamX.Tabs T H1 ∧ ∃ (a : Addr) (ws : List Str), vs = [.ref a] ∧ H1 a = some (.lst (ws.map V.str)) ∧ (∀ w ∈ ws, w.length ≤ sizeLine) ∧
  ∀ H2 p, LamX.ExtN H1 H2 → LamX.Tabs T H2 → H2 p = none → Q (.ref p) (upd H2 p (.lst ((ws.mergeSort Fp.leR).map V.str)))
theorem ext_ok {P : Program} {w : World} {H : Hp} {h : Heap} {a : Addr} {f : Heap → Prop} (x : ObjOk P w H h a (.ext f)) : f h := by
  unfold ObjOk at x
  exact x.1
theorem pe_sortLam {X : Cx} {T : List (Addr × Str)} {c P : Addr} {e : Expr} {t : TA} {p pos lpos kpos p0 p1 p2 p3 p4 p5 p6 : Pos} (hcalm : X.calm = true) (hg : Gl X "sorted") (hm : X.mg "sorted" = none) (hlen : X.mg "len" = none) (hr : Room 1 X.A) (ha : PA X [e] t)
    (TB : LamX.TabB X.base X.mg c P) (hcode : X.env.code = .ref c) (hT : (P, X.env.qual ++ Str.ofString "<lambda>") ∈ T) (hu : ∀ q ∈ T, q.1 = P → q.2 = X.env.qual ++ Str.ofString "<lambda>")
    (he : backTo pos (starEach [e] X.env) = (false, eval e X.env) :: backTo pos (starEach [] X.env) := by rfl) (hpl : ((backTo pos (starEach [e] X.env)).any fun x => x.1) = false := by rfl) (hall : ((backToKw pos (keywordEach [⟨some "key", .Lambda (Fp.lmA p0) (Fp.lmB p1 p2 p3 p4 p5 p6) Fp.lmS lpos, kpos⟩] X.env)).all fun x => x.1.isSome) = true := by rfl) (hnone : ((backToKw pos (keywordEach [⟨some "key", .Lambda (Fp.lmA p0) (Fp.lmB p1 p2 p3 p4 p5 p6) Fp.lmS lpos, kpos⟩] X.env)).any fun x => x.1.isNone) = false := by rfl) (hks : List.filterMap (fun x => x.1) (backToKw pos (keywordEach [⟨some "key", .Lambda (Fp.lmA p0) (Fp.lmB p1 p2 p3 p4 p5 p6) Fp.lmS lpos, kpos⟩] X.env)) = [Str.ofString "key"] := by rfl) :
    PE X (.Call (.Name "sorted" p) [e] [⟨some "key", .Lambda (Fp.lmA p0) (Fp.lmB p1 p2 p3 p4 p5 p6) Fp.lmS lpos, kpos⟩] pos) (tSortLam X.K T t) := by
  refine ⟨fun pins s σ H Q I h => ?_⟩
  refine wpAny_Call_Name_kw (ld_blt I hg hm (show bootBuiltins "sorted" = some (.builtin "sorted") by decide +kernel) (callWith_kw (thn (ha.run pos pins s σ H _ I h) fun us s1 ⟨vs, H1, I1, r1, q1⟩ => ?_) he hpl hall hnone) (by decide) (by decide))
  obtain ⟨hTabs, a, ws, rfl, hS, hwl, q⟩ := q1
  obtain rfl := Vals.ref1 r1
  refine wpAny_evalAll_cons (wpAny_bind ?_)
  refine LamX.lam_make2 I1 TB hcode hT hu hTabs rfl (fun y hy e => ?_) fun f c' pm ctv H2 s2 I2 hext htabs hf hfn hfr hco => ?_
  · rcases List.mem_cons.mp hy with rfl | hy
    · cases e
    · rcases List.mem_cons.mp hy with rfl | hy
      · cases e
      · cases hy
  refine wpAny_bind (wpAny_standAt (wpAny_pure ?_))
  refine wpAny_pure ?_
  have hS2 : SqL X.K H2 a (ws.map V.str) := SqL.of (hext _ _ hS (by intro ps e; cases e))
  obtain ⟨its, rv, hl, hz⟩ := I2.list hS2
  rw [hks]
  have hE : PySem.W.EachIs (fun v w => ∃ t, v = Value.str w t) its ws := by
    have hv := rv
    clear hl hz q hS hS2
    have hl' : its.length = ws.length := by rw [← rv.length, List.length_map]
    refine Fp.strs_each hl' fun j v e => ?_
    have hj : j < ws.length := by rw [← hl']; exact (List.getElem?_eq_some_iff.mp e).1
    have ew : ws[j]? = some ws[j] := List.getElem?_eq_getElem hj
    obtain ⟨u, hu', r⟩ := Vals.get rv (i := j) (x := .str ws[j]) (by rw [List.getElem?_map, ew]; rfl)
    rw [e] at hu'
    obtain ⟨t, rfl⟩ := r
    exact ⟨ws[j], t, ew, Option.some.inj hu'⟩
  have hz2 : ws.length ≤ sizeLine := by rw [List.length_map] at hz; exact hz
  have hun := hr.un
  refine PySem.W.sorted_key_data (b := false) Fp.rk hl.isList hE (Fp.rk_all ws) (Fp.rk_sortable ws) hz2 (fun w0 hw0 => ?_) (PyProof.Rows.ksk_s1 _ _) (fun x => PyProof.Rows.ksk_l1 _ _) (fun x => ksk_t1 _ _) (fun v w0 hR hw0 h tk kp => ?_) fun out n h' tk kp hnew hD hlen ho => ?_
  · have := Fp.rk_depth w0
    omega
  · obtain ⟨t, rfl⟩ := hR
    obtain ⟨oc, cvs, ct, hc1, hc2, hc3⟩ : ∃ oc vs t, s2.heap.get? c' = some oc ∧ oc.data = Data.fields vs ∧ vs[1]? = some (Value.str (X.env.qual ++ Str.ofString "<lambda>") t) := ext_ok (I2.hok _ _ hco)
    refine Fp.lam_rank (s := { heap := h, gens := s2.gens, drawn := s2.drawn, toks := tk, os := s2.os }) (qual := X.env.qual ++ Str.ofString "<lambda>") (kp _ _ hf) ⟨c', oc, cvs, ct, rfl, kp _ _ hc1, hc2, hc3⟩ I2.ok.mod (fun b o e => kp _ _ (I2.bk b o e)) hlen ?_ (hwl w0 hw0)
    have := hr.dp
    show X.A.depth + 1 < _
    omega
  · have hlen2 : ((ws.mergeSort Fp.leR).map V.str).length ≤ sizeLine := by
      rw [List.length_map, List.length_mergeSort]
      exact hz2
    exact ⟨.ref _, upd H2 (s2.heap.objs.size + 1) (.lst ((ws.mergeSort Fp.leR).map V.str)), I2.laid (t' := tk) (fun b o e => kp b o e) (Nat.le_succ _) ⟨hlen2, out, n, Fp.vals_strs ho, hD⟩, rfl, q _ _ hext htabs (I2.hok.fresh (Nat.le_succ _))⟩
end L2

set_option Elab.async false
set_option linter.all false
set_option maxRecDepth 100000
set_option maxHeartbeats 4000000
/-! defs with a lambda: the code object's address is handed to the body; and such that show with repr -/
namespace L2
open PySem PySem.Spec PyProof.Rows
theorem FunD.okC {P : Program} {w : World} {K : PySem.W.Frag} {mg : Str → Option Value} {base : Heap} {x qual : Str} {params : Arguments} {body : List Stmt} {scope : Scope} {dvs : List V} {kws : List (Str × V)} {fd : FuncData} {q : He.Defn}
    {CX : CXT} {N ps : List Str} {k : Nat} {sp : Sp} (F : FunD K x qual params body scope dvs kws (He.fAd K q) fd) (S : FnScope N ps scope) (len : ∀ vs H Q E, sp vs H Q E → vs.length = ps.length)
    (hbody : ∀ (A : Around) (outer : List Env) (s : Shared) (H : Hp) (vs : List V) (Q : VK) (E : XK), Room k (A.deeper (envOfC qual scope s.heap.objs.size (He.fAd K q) (.ref (He.cT K q).1))) → sp vs H Q E →
      ∃ t, PSs (cxOf CX P w K mg base N qual scope (He.fAd K q) (.ref (He.cT K q).1) A outer s H E) body t ∧ t { nx := fun _ H' => Q .non H', rt := Q } (start N vs) H) : FnOk P w K mg base CX (k + 1) (He.fAd K q) fd ps sp := by
  obtain ⟨oc, od, dV, kV, doc, pm, an, cdv, ct, osl, rfl, lk, hcd, _, _⟩ := F.ex
  obtain ⟨c, rfl⟩ := He.codeIn_ref hcd
  have e : (He.cT K q).1 = c := He.codeOf_eq lk rfl
  rw [e] at hbody
  exact fn_of lk hcd S len fun A outer s H vs Q E hr hsp => hbody A outer s H vs Q E hr hsp
section
variable {P : Program} {w : World} {K : PySem.W.Frag} {mg : Str → Option Value} {base : Heap}
theorem FunD.okCG {x qual : Str} {params : Arguments} {body : List Stmt} {scope : Scope} {dvs : List V} {kws : List (Str × V)} {fd : FuncData} {q : He.Defn} {N ps : List Str} {k : Nat} {sp : Sp}
    (F : FunD K x qual params body scope dvs kws (He.fAd K q) fd) (S : FnScope N ps scope) (len : ∀ vs H Q E, sp vs H Q E → vs.length = ps.length)
    (hbody : ∀ (A : Around) (outer : List Env) (s : Shared) (H : Hp) (vs : List V) (Q : VK) (E : XK), Gd A → Room k (A.deeper (envOfC qual scope s.heap.objs.size (He.fAd K q) (.ref (He.cT K q).1))) → sp vs H Q E →
      ∃ t, PSs (cxOf CX0 P w K mg base N qual scope (He.fAd K q) (.ref (He.cT K q).1) A outer s H E) body t ∧ t { nx := fun _ H' => Q .non H', rt := Q } (start N vs) H) : FnG P w K mg base (k + 1) (He.fAd K q) fd ps sp := by
  obtain ⟨oc, od, dV, kV, doc, pm, an, cdv, ct, osl, rfl, lk, hcd, _, _⟩ := F.ex
  obtain ⟨c, rfl⟩ := He.codeIn_ref hcd
  have ec : (He.cT K q).1 = c := He.codeOf_eq lk rfl
  subst ec
  refine ⟨len, fun A outer s H args us vs Q E hG hr e0 hb r hsp => ?_⟩
  have keep := fun (b : Addr) (o : Obj) (e : base.get? b = some o) => (e0.bs b o e).1
  have inK : K.In s.heap := e0.mod.kin.keeps keep
  have names : ∀ y ∈ ps.zip us, scope.names.lookup y.1 = some .local ∨ (scope.names.lookup y.1 = some .cell ∧ ((cellsFrom (s.heap.objs.size + 1) scope.names []).lookup y.1).isSome = true) := by
    rintro ⟨n, v⟩ hy
    exact (S.par n (List.of_mem_zip hy).1).imp id fun q => ⟨q, PySem.W.cellsFrom_some _ _ _ (.inl q)⟩
  have hlen : us.length = ps.length := r.length.symm.trans (len _ _ _ _ hsp)
  refine codeAny_call_function hr.depth (inK _ _ lk) rfl S.co S.gen rfl (PySem.W.codeRec_of inK hcd) (hb _ _ _ _ ?_)
  refine wpAny_newFunctionEnv_cells S.kind names fun env he s1 x => ?_
  subst he
  obtain ⟨t, ht, hq⟩ := hbody A outer s H vs Q E hG (hr.deeper _) hsp
  have I : Inv (cxOf CX0 P w K mg base N qual scope (He.fAd K q) (.ref (He.cT K q).1) A outer s H E) [] (start N vs) H s1 := inv_start S hr.hd e0 (len _ _ _ _ hsp) r x
  have out : ∀ {σ' : St} {H' : Hp} {v : V} {u : Value} {s' : Shared}, Inv (cxOf CX0 P w K mg base N qual scope (He.fAd K q) (.ref (He.cT K q).1) A outer s H E) [] σ' H' s' → RelV v u → Q v H' → CE outer P w H s Q u s' :=
    fun J rv q => ⟨_, _, J.os, J.bare, J.base, J.hok, rv, q⟩
  refine ⟨(e0.mod.nolimit.keeps keep).keeps x.toInCall.keep, codeAny_func (wpAny_mono (ht.run [] s1 (start N vs) H _ I hq) (fun fl s' hs => ?_) fun e s' hs => hs)⟩
  match fl, hs with
  | .ret u, ⟨v, σ', H', J, rv, q⟩ => exact out J rv q
  | .next, ⟨σ', H', J, q⟩ => exact out (v := V.non) (u := Value.none) J rfl q
  | .brk, ⟨_, _, _, q⟩ => exact q.elim
  | .cont, ⟨_, _, _, q⟩ => exact q.elim
end
end L2

set_option Elab.async false
set_option linter.all false
set_option maxRecDepth 100000
set_option maxHeartbeats 4000000
/-! repr of what reads as data; of a tuple of pairs (text, int) -/
namespace L2
open PySem PySem.Spec PyProof.Rows Fp
section
variable {X : Cx}
def rReprD (K : PySem.W.Frag) : List V → Hp → VK → Prop := fun xs H Q => ∃ (a : Addr) (d : PyData), xs = [.ref a] ∧ Dp K H (.ref a) d ∧ d.showable = true ∧ d.hasDict = false ∧ d.depth ≤ 8 ∧ d.shown.length ≤ sizeLine ∧ Q (.str d.shown) H
theorem cr_reprD (hG : Gd X.A) (hu : X.A.units + 64 < cLine) : CallR X (.builtin "repr") (rReprD X.K) := by
  intro pins s σ H xs us Q I r h
  obtain ⟨a, d, rfl, hd, z1, hno, hdp, z2, q⟩ := h
  obtain ⟨u, rfl, ru⟩ := r.one
  cases ru
  obtain ⟨as, rd⟩ := Dp.reads I d (.ref a) (.ref a) hd rfl
  refine PySem.repr_of_reads' rd z1 (fun z => by rw [hno] at z; cases z) hG ?_ (fun _ _ e => e) (fun h' u tk k => ⟨.str _, H, I.kept (t' := tk) k, ⟨u, rfl⟩, q⟩) z2
  omega
end
/-- a table's pairs as data -/
def prD (l : Tb) : PyData := .tuple (l.map fun p => .tuple [.str p.1, .int p.2])
theorem dpAll_pairs {K : PySem.W.Frag} {H : Hp} : ∀ {ps : List Addr} {l : Tb}, Paired (fun p (q : Str × Int) => H p = some (.tup [.str q.1, .int q.2])) ps l → DpAll K H (ps.map V.ref) (l.map fun p => .tuple [.str p.1, .int p.2])
  | [], [], _ => .nil
  | p :: ps, q :: l, .cons h1 h2 => .cons (.tup (SqT.of h1) (.cons (.str _) (.cons (.int _) .nil))) (dpAll_pairs h2)
theorem prD_dict (l : Tb) : (prD l).hasDict = false := by
  show PyData.hasDictAll (l.map fun p => .tuple [.str p.1, .int p.2]) = false
  induction l with
  | nil => rfl
  | cons p l ih =>
    show (PyData.hasDict (.tuple [.str p.1, .int p.2]) || PyData.hasDictAll (l.map fun p => .tuple [.str p.1, .int p.2])) = false
    rw [ih]
    rfl
theorem prD_depth (l : Tb) : (prD l).depth ≤ 2 := by
  show PyData.depthAll (l.map fun p => .tuple [.str p.1, .int p.2]) + 1 ≤ 2
  have : PyData.depthAll (l.map fun p => .tuple [.str p.1, .int p.2]) ≤ 1 := by
    induction l with
    | nil => exact Nat.zero_le _
    | cons p l ih =>
      show max (PyData.depth (.tuple [.str p.1, .int p.2])) (PyData.depthAll (l.map fun p => .tuple [.str p.1, .int p.2])) ≤ 1
      exact Nat.max_le.mpr ⟨Nat.le_refl _, ih⟩
  omega
theorem prD_show {l : Tb} (h : ∀ p ∈ l, 0 ≤ p.2 ∧ p.2 < 1000) : (prD l).showable = true := by
  show PyData.showableAll (l.map fun p => .tuple [.str p.1, .int p.2]) = true
  induction l with
  | nil => rfl
  | cons p l ih =>
    have hp := h p List.mem_cons_self
    have h1 : p.2.natAbs.log2 ≤ p.2.natAbs := Nat.log2_le_self _
    show ((true && (decide (p.2.natAbs.log2 < 1920) && true)) && PyData.showableAll (l.map fun p => .tuple [.str p.1, .int p.2])) = true
    rw [ih fun q hq => h q (List.mem_cons_of_mem _ hq), decide_eq_true (by omega)]
    rfl
theorem prD_len {l : Tb} {m : Nat} (h : ∀ p ∈ l, 0 ≤ p.2 ∧ p.2 < 1000) (hw : ∀ p ∈ l, p.1.length ≤ m ∧ ∀ c ∈ p.1.cps.toList, c < 256) (hk : l.length * (m + 20) ≤ 1000000) : (prD l).shown.length ≤ sizeLine := by
  refine PyData.shown_fits (B := 13) (by decide) (by decide) ?_ ?_
  · show PyData.leavesShortAll 13 (l.map fun p => .tuple [.str p.1, .int p.2]) = true
    clear hk
    induction l with
    | nil => rfl
    | cons p l ih =>
      have hp := h p List.mem_cons_self
      have hq := (hw p List.mem_cons_self).2
      show ((p.1.cps.toList.all (fun c => decide (c < 16 ^ 8)) && (decide ((PyData.shown (.int p.2)).length ≤ 13) && true)) && PyData.leavesShortAll 13 (l.map fun p => .tuple [.str p.1, .int p.2])) = true
      rw [ih (fun q hq => h q (List.mem_cons_of_mem _ hq)) (fun q hq => hw q (List.mem_cons_of_mem _ hq)), decide_eq_true (PyData.shown_int_le (i := p.2) (by omega)), List.all_eq_true.mpr (fun c hc => decide_eq_true (Nat.lt_of_lt_of_le (hq c hc) (by decide)))]
      rfl
  · have key : PyData.weightAll (l.map fun p => .tuple [.str p.1, .int p.2]) ≤ l.length * (m + 20) := by
      clear hk
      induction l with
      | nil => exact Nat.zero_le _
      | cons p l ih =>
        have hp := h p List.mem_cons_self
        have hq := (hw p List.mem_cons_self).1
        have h0 := ih (fun q hq => h q (List.mem_cons_of_mem _ hq)) (fun q hq => hw q (List.mem_cons_of_mem _ hq))
        have h1 : PyData.weight (.int p.2) ≤ 11 := by
          show (if p.2 == 0 then 0 else p.2.natAbs.log2 + 1) ≤ 11
          split
          · exact Nat.zero_le _
          · have : p.2.natAbs.log2 < 10 := (Nat.log2_lt (by rename_i z; intro z2; exact z (by simp; omega))).mpr (by omega)
            omega
        have h2 : PyData.weight (.str p.1) = p.1.length := rfl
        show (PyData.weight (.str p.1) + 1 + (PyData.weight (.int p.2) + 1 + 0)) + 1 + PyData.weightAll (l.map fun p => .tuple [.str p.1, .int p.2]) ≤ (l.length + 1) * (m + 20)
        rw [Nat.succ_mul]
        omega
    show PyData.weightAll (l.map fun p => .tuple [.str p.1, .int p.2]) ≤ 2 ^ 20
    have : (2 : Nat) ^ 20 = 1048576 := by decide
    omega
end L2

set_option Elab.async false
set_option linter.all false
set_option maxRecDepth 100000
set_option maxHeartbeats 4000000
namespace Fp
open PySem PySem.Spec PyProof.Rows L2
theorem BagAt.ext {K : PySem.W.Frag} {H H' : Hp} {b : Addr} {c : Int} {L : Tb} (h : BagAt K H b c L) (k : LamX.ExtN H H') : BagAt K H' b c L := by
  obtain ⟨dx, t, h1, ps, o, e1, e2, e3⟩ := h
  exact ⟨dx, t, k _ _ h1 (by intro ps z; cases z), ps, o, k _ _ e1 (by intro ps z; cases z), e2, Paired.mapP e3 fun a q z => k _ _ z (by intro ps z; cases z)⟩
theorem WordsAt.ext {H H' : Hp} {t : Addr} {L : Tb} (h : WordsAt H t L) (k : LamX.ExtN H H') : WordsAt H' t L := by
  obtain ⟨ps, o, e1, e2, e3⟩ := h
  exact ⟨ps, o, k _ _ e1 (by intro ps z; cases z), e2, Paired.mapP e3 fun a q z => k _ _ z (by intro ps z; cases z)⟩
theorem TapeAt.ext {ca : Addr} {H H' : Hp} {h : Addr} (x : TapeAt ca H h) (k : LamX.ExtN H H') : TapeAt ca H' h := by
  obtain ⟨cs, a, l, sd, tn, h1, h2, r⟩ := x
  exact ⟨cs, a, l, sd, tn, k _ _ h1 (by intro ps z; cases z), k _ _ h2 (by intro ps z; cases z), r⟩
theorem dp_prs {K : PySem.W.Frag} {H : Hp} {t : Addr} {l : Tb} (h : WordsAt H t l) : Dp K H (.ref t) (prD l) := by
  obtain ⟨ps, o, h1, _, h3⟩ := h
  exact .tup (.inl (.inr ⟨o, h1⟩)) (dpAll_pairs h3)
abbrev dPr : He.Defn := ("_law_pairs", none)
def qLam : Str := (envOfC "_law_pairs" (defScope s__law_pairs) 0 0 .none).qual ++ Str.ofString "<lambda>"
def TT (K : PySem.W.Frag) : List (Addr × Str) := [((He.cT K dPr).2, qLam)]
section
variable {P : Program} {w : World} {K : PySem.W.Frag} {mg : Str → Option Value} {base : Heap}
def spPrs (K : PySem.W.Frag) : Sp := fun vs H Q _ => ∃ (d : Addr) (l : Tb), vs = [.ref d] ∧ LamX.Tabs (TT K) H ∧ H d = some (.dK (kv l)) ∧ Nd l ∧ (∀ p ∈ l, p.1.length ≤ 1000000) ∧ l.length ≤ 1000000 ∧ ∀ H' t, LamX.ExtN H H' → LamX.Tabs (TT K) H' → WordsAt H' t (canon l) → Q (.ref t) H'
abbrev nPrs : List Str := ["_law_sparse_here", "_law_word_here"]
theorem sc_prs : FnScope nPrs ["_law_sparse_here"] (defScope s__law_pairs) := ⟨rfl, rfl, rfl, by decide +kernel, rfl, by decide +kernel, by decide +kernel⟩
theorem ok_prs (T : Top K mg) (TB : LamX.TabB base mg (He.cT K dPr).1 (He.cT K dPr).2) : Ok P w K mg base 2 "_law_pairs" ["_law_sparse_here"] (spPrs K) := by
  obtain ⟨fd, F⟩ := fn__law_pairs T
  refine ⟨⟨fd, ?_, F.bindsN fun _ _ _ _ _ _ us hl => match us, hl with | [_], _ => rfl⟩, g__law_pairs T, F.kp⟩
  refine FunD.okC (q := dPr) F sc_prs (fun vs H Q E h => ?_) (fun A outer s H vs Q E hr h => ?_)
  · obtain ⟨d, l, rfl, _⟩ := h
    rfl
  · obtain ⟨d, l, rfl, tb, hd, hnd, hwl, hll, q⟩ := h
    have nd := sc_prs.nd
    have hu := hu_of hr
    have hs : sizeLine = 16777216 := sizeLine_eq
    refine ⟨_, PSs.nox (pss_one (ps_ret (pe_callTy call_tupleF (by rfl) (f_tuple T) (by decide +kernel) (pa_cons (pe_lc (own := [("_law_word_here", 1)]) (g := gName 1) (tt := tYes) (te := tTup (tCons (tVar 1) (tCons (tDGet (tVar 0) (tVar 1)) tNil))) (by rfl) nd (pi_list (pe_sortLam (T := TT K) (c := (He.cT K dPr).1) (P := (He.cT K dPr).2) (by rfl) (by rfl) (f_sorted T) (f_len T) hr (pa_cons (pe_callTy (call_listD rfl) (by rfl) (f_list T) (by decide +kernel) (pa_cons (pv 0) pa_nil)) pa_nil) TB rfl (List.mem_singleton.mpr rfl) (fun z hz _ => by rw [List.mem_singleton.mp hz]; rfl)))
        (blkOk_by (N := nPrs) (sc := defScope s__law_pairs) (by decide +kernel)) (fun _ _ _ _ _ => pg_name (i := 1) nd rfl (Or.inl rfl)) (fun _ _ _ _ _ => pts_nil) (fun _ _ _ _ _ => by exact pe_tup (pa_cons (pv 1) (pa_cons (pe_dget hu (pv 0) (pv 1) (fun _ _ => rfl)) pa_nil)))) pa_nil)))), ?_⟩
    refine ⟨_, rfl, d, kv l, rfl, .inl hd, fun A0 nA => ?_⟩
    have ek : ((kv l).map fun kv => kV kv.1) = (l.map (·.1)).map V.str := by
      unfold kv
      rw [List.map_map, List.map_map]
      rfl
    rw [ek]
    have sA := same_upd (o := .lst ((l.map (·.1)).map V.str)) nA
    have eA := upd_same (H := H) (a := A0) (o := HO.lst ((l.map (·.1)).map V.str))
    replace tb := tb.ext sA
    have xA : LamX.ExtN H (upd H A0 (.lst ((l.map (·.1)).map V.str))) := LamX.ExtN.of sA
    replace hd := sA _ _ hd
    generalize upd H A0 (.lst ((l.map (·.1)).map V.str)) = H1 at eA tb xA hd ⊢
    refine ⟨tb, A0, l.map (·.1), rfl, eA, fun x hx => ?_, fun H2 S x2 tb2 nS => ?_⟩
    · obtain ⟨p, hp, rfl⟩ := List.mem_map.mp hx
      have := hwl p hp
      omega
    have sS := same_upd (o := .lst (((l.map (·.1)).mergeSort leR).map V.str)) nS
    have eS : (upd H2 S (.lst (((l.map (·.1)).mergeSort leR).map V.str))) S = some (.lst ((ordW l).map V.str)) := upd_same
    have x3 := x2.trans (LamX.ExtN.of sS)
    replace tb2 := tb2.ext sS
    replace hd := x3 _ _ hd (by intro ps z; cases z)
    have xH := xA.trans x3
    generalize upd H2 S (.lst (((l.map (·.1)).mergeSort leR).map V.str)) = H3 at eS tb2 hd xH ⊢
    clear x2 x3 sS xA eA tb
    refine ⟨S, rfl, ⟨_, SqL.of eS⟩, fun D hD => ?_⟩
    have nDS : S ≠ D := ne_of_none eS hD
    refine lc_it (walk_list (xs := (ordW l).map V.str)) (fun i H' => ∃ ps : List Addr, H' D = some (.lst (ps.map V.ref)) ∧ ps.length = i ∧ Paired (fun p (q : Str × Int) => H' p = some (.tup [.str q.1, .int q.2])) ps ((canon l).take i) ∧ Same H3 H' ∧ H' S = some (.lst ((ordW l).map V.str)))
      ⟨[], upd_same, rfl, .nil, same_upd hD, by rw [upd_ne nDS]; exact eS⟩ (fun i H' _ hP => .inl (.inl hP.choose_spec.2.2.2.2)) ?_ ?_
    · rintro i x H4 H5 hi ⟨ps, p1, p2, p3, p4, p5⟩ ⟨rfl, e⟩
      rw [List.length_map, ordW_len] at hi
      rw [List.getElem?_map] at e
      cases ew : (ordW l)[i]? with
      | none => rw [ew] at e; cases e
      | some x0 =>
        rw [ew] at e
        have e2 : V.str x0 = x := Option.some.inj e
        subst e2
        have hx0 : x0 ∈ l.map (·.1) := ordW_mem.mp (List.mem_of_getElem? ew)
        refine ⟨rfl, ?_⟩
        refine ⟨_, rfl, _, rfl, _, rfl, d, .int (num l x0), rfl, .inl ⟨kv l, Sum.inr x0, .inl (p4 _ _ hd), rfl, (valV_yes (has_iff.mpr hx0)).symm⟩, ?_⟩
        refine ⟨by show 2 ≤ sizeLine; omega, fun p hp => ?_⟩
        have npD : D ≠ p := ne_of_none p1 hp
        have npS : S ≠ p := ne_of_none p5 hp
        refine ⟨ps.map V.ref, by rw [upd_ne npD]; exact p1, by rw [List.length_map]; omega, ps ++ [p], ?_, ?_, ?_, ?_, ?_⟩
        · rw [upd_same, List.map_append]
          rfl
        · rw [List.length_append, p2]
          rfl
        · have ec : (canon l).take (i + 1) = (canon l).take i ++ [(x0, num l x0)] := by
            rw [List.take_add_one]
            unfold canon
            rw [List.getElem?_map, ew]
            rfl
          rw [ec]
          refine Paired.snoc (Paired.mapP p3 fun a b z => ?_) ?_
          · rw [upd_ne (ne_of z p1 (by intro y; cases y)), upd_ne (ne_of_none z hp)]
            exact z
          · rw [upd_ne npD.symm]
            exact upd_same
        · intro b o z
          rw [upd_ne (ne_of_none z hD)]
          exact same_upd hp _ _ (p4 _ _ z)
        · rw [upd_ne nDS, upd_ne npS]
          exact p5
    · rintro H4 ⟨ps, p1, p2, p3, p4, p5⟩
      have ecl : (canon l).length = l.length := by
        unfold canon
        rw [List.length_map, ordW_len]
      rw [List.length_map, List.take_of_length_le (by rw [ecl, ordW_len]; exact Nat.le_refl _)] at p3
      refine ⟨D, _, rfl, SqL.of p1, fun t o nt po => ?_⟩
      have st := same_upd (o := .frz o (.tup (ps.map V.ref))) nt
      exact q _ t (xH.trans (LamX.ExtN.of (p4.trans st))) (tb2.ext (p4.trans st)) ⟨ps, o, upd_same, po, Paired.mapP p3 fun a b z => st _ _ z⟩
end
end Fp

set_option Elab.async false
set_option linter.all false
set_option maxRecDepth 100000
set_option maxHeartbeats 4000000
namespace Fp
open PySem PySem.Spec PyProof.Rows L2
section
variable {P : Program} {w : World} {K : PySem.W.Frag} {mg : Str → Option Value} {base : Heap}
theorem xyz_256 {z : Str} (h : xyz z) : ∀ c ∈ z.cps.toList, c < 256 := fun c hc => by
  rcases h c hc with rfl | rfl | rfl <;> decide
theorem prD_vt {c : Int} {m k : Nat} {l : Tb} (hc : c ≤ 1000) (v : VT c m k l) (hk : k * (m + 20) ≤ 1000000) : (prD l).showable = true ∧ (prD l).hasDict = false ∧ (prD l).depth ≤ 8 ∧ (prD l).shown.length ≤ sizeLine := by
  have h1 : ∀ p ∈ l, 0 ≤ p.2 ∧ p.2 < 1000 := fun p hp => by
    have := v.nu p hp
    omega
  exact ⟨prD_show h1, prD_dict l, Nat.le_trans (prD_depth l) (by decide), prD_len h1 (fun p hp => ⟨(v.wd p hp).2, xyz_256 (v.wd p hp).1⟩) (Nat.le_trans (Nat.mul_le_mul_right _ v.ln) hk)⟩
def spIs (K : PySem.W.Frag) : Sp := fun vs H Q _ => ∃ (b d : Addr) (c : Int) (m k : Nat) (l : Tb), vs = [.ref b, .int c, .ref d] ∧ LamX.Tabs (TT K) H ∧ BagAt K H b c (canon l) ∧ H d = some (.dK (kv l)) ∧ c ≤ 1000 ∧ VT c m k l ∧ VT c m k (canon l) ∧ k * (m + 20) ≤ 1000000 ∧ ∀ H', LamX.ExtN H H' → LamX.Tabs (TT K) H' → Q (.bl true) H'
abbrev nIs : List Str := ["_law_told_here", "_law_clock_here", "_law_sparse_here", "_law_due_here"]
theorem sc_is : FnScope nIs ["_law_told_here", "_law_clock_here", "_law_sparse_here"] (defScope s__law_is) := ⟨rfl, rfl, rfl, by decide +kernel, rfl, by decide +kernel, by decide +kernel⟩
theorem ok_is (T : Top K mg) (TB : LamX.TabB base mg (He.cT K dPr).1 (He.cT K dPr).2) : ∃ fd, FnG P w K mg base 3 (He.fAd K ("_law_is", none)) fd ["_law_told_here", "_law_clock_here", "_law_sparse_here"] (spIs K) ∧ Binds K fd ["_law_told_here", "_law_clock_here", "_law_sparse_here"] [] ∧ PySem.W.keepIn K (.ref (He.fAd K ("_law_is", none))) = true := by
  obtain ⟨fd, F⟩ := fn__law_is T
  refine ⟨fd, ?_, F.bindsN fun _ _ _ _ _ _ us hl => match us, hl with | [_, _, _], _ => rfl, F.kp⟩
  refine F.okG sc_is (fun vs H Q E h => ?_) (fun cdv A outer s H vs Q E hG hr h => ?_)
  · obtain ⟨b, d, c, m, k, l, rfl, _⟩ := h
    rfl
  · obtain ⟨b, d, c, m, k, l, rfl, tb, hb, hd, hc, v, vc, hk, q⟩ := h
    have nd := sc_is.nd
    have hs : sizeLine = 16777216 := sizeLine_eq
    have hk1 : k * 20 ≤ 1000000 := Nat.le_trans (Nat.mul_le_mul_left k (by omega)) hk
    have hm1 : l ≠ [] → m ≤ 1000000 := fun hl => by
      have : 1 ≤ k := Nat.le_trans (List.length_pos_iff.mpr hl) v.ln
      have : 1 * (m + 20) ≤ k * (m + 20) := Nat.mul_le_mul_right _ this
      omega
    refine ⟨_, PSs.nox (pss_cons (ps_if (PW.pt (pw_or (pt_not (pt_val (pe_callB call_isi (by rfl) (f_isinstance T) (by decide +kernel) (pa_cons (pv 0) (pa_cons (pe_glob (v := .ref (He.ga K "Bag")) rfl (g_Bag T) rfl) pa_nil)))))
        (pw_or (pt_val (pe_callB call_isi (by rfl) (f_isinstance T) (by decide +kernel) (pa_cons (pe_fld (pv 0) rfl) (pa_cons (pe_bltn (v := .ty "bool") (by rfl) (f_bool T) (by decide +kernel) rfl) pa_nil))))
        (pw_or1 (pt_cmpR op_ne (pe_fld (pv 0) rfl) (pv 1) (nomark _)))))) (pss_one (ps_ret pe_bl)) pss_nil)
      (pss_cons (ps_set (i := 3) nd rfl (Or.inl rfl) (pc (ok_prs T TB) hr (pa_cons (pv 2) pa_nil)))
      (pss_one (ps_ret (pe_and (pe_callB call_isi (by rfl) (f_isinstance T) (by decide +kernel) (pa_cons (pe_fld (pv 0) rfl) (pa_cons (pe_bltn (v := .ty "tuple") (by rfl) (f_tuple T) (by decide +kernel) rfl) pa_nil)))
        (pe_and (pe_cmpR (op_eqP hr.units) (pe_fld (pv 0) rfl) (pv 3) (nomark _))
        (pe_one (pe_cmpR op_eq (pe_callB (cr_reprD hG hr.units) (by rfl) (f_repr T) (by decide +kernel) (pa_cons (pe_fld (pv 0) rfl) pa_nil)) (pe_callB (cr_reprD hG hr.units) (by rfl) (f_repr T) (by decide +kernel) (pa_cons (pv 3) pa_nil)) (nomark _))))))))), ?_⟩
    obtain ⟨dx, t, ea, hw⟩ := id hb
    refine ⟨_, rfl, _, _, _, _, true, rfl, .own _, .base (.ins ea (cls_Bag T) (x_class T) (x_get T) (x_takes T) (x_mro T)), x_is T, true, rfl, iteF ?_⟩
    refine ⟨_, rfl, b, _, dx, _, _, rfl, ea, cls_Bag T, na_Bag_clock T, flds_clock _ _, _, _, _, _, false, rfl, .ty "bool", .base (.int _), kit_ty (by decide +kernel), false, rfl, iteF ?_⟩
    refine ⟨_, rfl, b, _, dx, _, _, rfl, ea, cls_Bag T, na_Bag_clock T, flds_clock _ _, _, rfl, rfl, _, rfl, ?_⟩
    rw [decide_eq_true rfl]
    refine iteF ?_
    refine ⟨_, rfl, d, l, rfl, tb, hd, v.nd, fun p hp => Nat.le_trans (v.wd p hp).2 (hm1 fun z => by rw [z] at hp; cases hp), Nat.le_trans v.ln (by omega), fun H1 t2 x1 tb1 w1 => ?_⟩
    obtain ⟨dx', t', ea', hw'⟩ := hb.ext x1
    obtain ⟨ps, o, wa, wb, wc⟩ := id hw'
    refine ⟨_, rfl, b, _, dx', _, _, rfl, ea', cls_Bag T, na_Bag_words T, flds_words _ _, _, _, _, _, true, rfl, .ty "tuple", .fTuple wa, kit_ty (by decide +kernel), true, rfl, iteT ?_⟩
    refine ⟨_, rfl, b, _, dx', _, _, rfl, ea', cls_Bag T, na_Bag_words T, flds_words _ _, _, rfl, dW (canon l), dW (canon l), dp_words hw', dp_words w1, dW_plain _, dW_plain _, dW_depth _, _, rfl, ?_⟩
    rw [dW_eqv, decide_eq_true rfl]
    refine iteT ?_
    obtain ⟨z1, z2, z3, z4⟩ := prD_vt hc vc hk
    refine ⟨_, rfl, b, _, dx', _, _, rfl, ea', cls_Bag T, na_Bag_words T, flds_words _ _, t', prD (canon l), rfl, dp_prs hw', z1, z2, z3, z4, ?_⟩
    refine ⟨_, rfl, t2, prD (canon l), rfl, dp_prs w1, z1, z2, z3, z4, ?_⟩
    refine ⟨rfl, ?_⟩
    rw [decide_eq_true rfl]
    exact q H1 x1 tb1
end
end Fp

set_option Elab.async false
set_option linter.all false
set_option maxRecDepth 100000
set_option maxHeartbeats 2000000
/-! x.rpartition(sep) -/
namespace L2
open PySem PySem.Spec PyProof.Rows
def rpartS (a b : Str) : Str × Str × Str := match Builtin.Str.lastOccurrence a b 0 a.length with
  | some i => (Builtin.Str.strSub a 0 i, b, Builtin.Str.strSub a (i + b.length) a.length)
  | none => (Str.empty, Str.empty, a)
section
variable {X : Cx}
theorem mt_rpart : MtR X "str.rpartition" (fun x xs H Q => ∃ a b, x = .str a ∧ xs = [.str b] ∧ (b.length == 0) = false ∧ a.length ≤ sizeLine ∧
    ∀ p, H p = none → Q (.ref p) (upd H p (.tup [.str (rpartS a b).1, .str (rpartS a b).2.1, .str (rpartS a b).2.2]))) := by
  intro pins s σ H x xs v us Q I rx rs h
  obtain ⟨a, b, rfl, rfl, hb, hz, h⟩ := h
  obtain ⟨t, rfl⟩ := rx
  cases rs with
  | cons r1 rs =>
    cases rs
    obtain ⟨u, rfl⟩ := r1
    refine call_meets F.slot_str_rpartition (typeIs_str _ _ _) F.entry_str_rpartition (F.args_str_rpartition_2 _ _) (meets_str_rpartition a b t u hb hz) ?_
    unfold rpartS at h
    revert h
    cases Builtin.Str.lastOccurrence a b 0 a.length with
    | none => intro h; exact laid_parts I h
    | some i => intro h; exact laid_parts I h
end
end L2

set_option Elab.async false
set_option linter.all false
set_option maxRecDepth 100000
set_option maxHeartbeats 2000000
/-! terms put together with " + ", split again; rpartition by a blank -/
namespace L2
open PySem PySem.Spec PyProof.Rows TL
theorem pre43 {L : List Nat} {i : Nat} (h : L[i + 1]? ≠ some 43) : pre [32, 43, 32] (L.drop i) = false := by
  cases e : pre [32, 43, 32] (L.drop i) with
  | false => rfl
  | true =>
    exfalso
    have e1 : (L.drop i).take 3 = [32, 43, 32] := eq_of_beq e
    refine h ?_
    have e2 : ((L.drop i).take 3)[1]? = some 43 := by rw [e1]; rfl
    rw [List.getElem?_take, if_pos (by decide), List.getElem?_drop] at e2
    exact e2
theorem spl43 : ∀ {parts : List (List Nat)}, parts ≠ [] → (∀ p ∈ parts, 43 ∉ p) → spl [32, 43, 32] 0 [] (joinL [32, 43, 32] parts) = parts
  | [], h, _ => absurd rfl h
  | [p], _, hp => by
    show spl [32, 43, 32] 0 [] p = [p]
    rw [spl_last fun i hi => pre43 fun z => hp p List.mem_cons_self (List.mem_of_getElem? z), List.nil_append]
  | p :: q :: r, _, hp => by
    have h0 := hp p List.mem_cons_self
    show spl [32, 43, 32] 0 [] (p ++ ([32, 43, 32] ++ joinL [32, 43, 32] (q :: r))) = p :: q :: r
    rw [spl_part (by simp) fun i hi => pre43 fun z => ?_, List.nil_append, spl43 (by simp) fun z hz => hp z (List.mem_cons_of_mem _ hz)]
    by_cases e : i + 1 < p.length
    · rw [List.getElem?_append_left e] at z
      exact h0 (List.mem_of_getElem? z)
    · rw [List.getElem?_append_right (by omega), show i + 1 - p.length = 0 by omega] at z
      cases z
def plusS : Str := " + "
theorem split_terms {parts : List Str} (hne : parts ≠ []) (hp : ∀ p ∈ parts, 43 ∉ tl p) : Txt.split (Txt.join plusS parts) plusS = parts := by
  refine map_tl_inj ?_
  have ey : tl plusS = [32, 43, 32] := by decide
  rw [split_spl _ plusS (by rw [ey]; simp) (kind_ok (by decide +kernel)), join_eq, tl_join, ey]
  refine spl43 (fun e => hne (List.map_eq_nil_iff.mp e)) fun p h => ?_
  obtain ⟨z, hz, rfl⟩ := List.mem_map.mp h
  exact hp z hz
def blkS : Str := " "
theorem pre32 {L : List Nat} {i : Nat} : pre [32] (L.drop i) = true ↔ L[i]? = some 32 := by
  show ((L.drop i).take 1 == [32]) = true ↔ _
  rw [beq_iff_eq]
  cases e : L.drop i with
  | nil =>
    have h1 : L[i]? = none := List.getElem?_eq_none_iff.mpr (List.drop_eq_nil_iff.mp e)
    rw [h1]
    simp
  | cons c r =>
    have h1 : L[i]? = some c := by
      have : (L.drop i)[0]? = some c := by rw [e]; rfl
      rw [List.getElem?_drop] at this
      exact this
    rw [h1]
    simp
theorem rpart_none {a : Str} (h : 32 ∉ tl a) : rpartS a blkS = (Str.empty, Str.empty, a) := by
  unfold rpartS
  have ey : tl blkS = [32] := by decide
  rcases PySem.StrLaws.last_spec a blkS with ⟨e, _⟩ | ⟨i, e, hi, _⟩
  · rw [e]
  · exfalso
    have h2 := (at_iff (by rw [ey]; simp) i).mp hi
    rw [ey] at h2
    exact h (List.mem_of_getElem? (pre32.mp h2))
theorem rpart_app {a b : Str} (h : 32 ∉ tl b) : rpartS (a ++ blkS ++ b) blkS = (a, blkS, b) := by
  unfold rpartS
  have ey : tl blkS = [32] := by decide
  have ex : tl (a ++ blkS ++ b) = tl a ++ ([32] ++ tl b) := by rw [tl_append, tl_append, ey, List.append_assoc]
  have hat : ∀ i, PySem.StrLaws.At (a ++ blkS ++ b) blkS (a ++ blkS ++ b).length i ↔ (tl a ++ ([32] ++ tl b))[i]? = some 32 := fun i => by
    rw [at_iff (by rw [ey]; simp) i, ey, ex]
    exact pre32
  have hlen : (a ++ blkS ++ b).length = (tl a).length + (1 + (tl b).length) := by
    rw [len_tl, ex, List.length_append, List.length_append]
    rfl
  rcases PySem.StrLaws.last_spec (a ++ blkS ++ b) blkS with ⟨e, hno⟩ | ⟨i, e, hi, hmax⟩
  · exfalso
    refine hno (tl a).length ((hat _).mpr ?_)
    rw [List.getElem?_append_right (Nat.le_refl _), Nat.sub_self]
    rfl
  · have hia : i = (tl a).length := by
      have h1 : ¬ (tl a).length < i := fun hlt => by
        have h2 := (hat i).mp hi
        rw [List.getElem?_append_right (by omega)] at h2
        obtain ⟨k, hk⟩ : ∃ k, i - (tl a).length = k + 1 := ⟨i - (tl a).length - 1, by omega⟩
        rw [hk] at h2
        exact h (List.mem_of_getElem? (show (tl b)[k]? = some 32 from h2))
      have h3 : ¬ i < (tl a).length := fun hlt => hmax _ hlt ((hat _).mpr (by
        rw [List.getElem?_append_right (Nat.le_refl _), Nat.sub_self]
        rfl))
      omega
    rw [e]
    subst hia
    show (Builtin.Str.strSub (a ++ blkS ++ b) 0 (tl a).length, blkS, Builtin.Str.strSub (a ++ blkS ++ b) ((tl a).length + blkS.length) (a ++ blkS ++ b).length) = _
    have hb1 : blkS.length = 1 := rfl
    refine Prod.ext (ext_tl ?_) (Prod.ext rfl (ext_tl ?_))
    · show tl (Builtin.Str.strSub (a ++ blkS ++ b) 0 (tl a).length) = tl a
      rw [tl_strSub, ex]
      simp
    · show tl (Builtin.Str.strSub (a ++ blkS ++ b) ((tl a).length + blkS.length) (a ++ blkS ++ b).length) = tl b
      rw [tl_strSub_end, ex, hb1, ← List.append_assoc, show (tl a).length + 1 = (tl a ++ [32]).length by rw [List.length_append]; rfl, List.drop_left]
end L2

set_option Elab.async false
set_option linter.all false
set_option maxRecDepth 100000
set_option maxHeartbeats 4000000
namespace Fp
open PySem PySem.Spec PyProof.Rows L2
/-- a number as a text -/
def dgt (n : Int) : Str := toString n
theorem dgt_tl {n : Int} (h1 : 1 ≤ n) (h2 : n < 7) : TL.tl (dgt n) = [48 + n.toNat] := by
  have : n = 1 ∨ n = 2 ∨ n = 3 ∨ n = 4 ∨ n = 5 ∨ n = 6 := by omega
  rcases this with rfl | rfl | rfl | rfl | rfl | rfl <;> rfl
theorem dgt_len {n : Int} (h1 : 1 ≤ n) (h2 : n < 7) : (dgt n).length = 1 := by
  rw [TL.len_tl, dgt_tl h1 h2]
  rfl
/-- a term as it is told -/
def termT (p : Str × Int) : Str := if p.1 = "" then dgt p.2 else if p.2 = 1 then p.1 else dgt p.2 ++ " " ++ p.1
theorem termT_len {p : Str × Int} (h1 : 1 ≤ p.2) (h2 : p.2 < 7) : (termT p).length ≤ p.1.length + 2 := by
  have := dgt_len h1 h2
  unfold termT
  split
  · omega
  · split
    · omega
    · rw [len_app, len_app, this]
      show 1 + 1 + _ ≤ _
      omega
theorem termT_43 {p : Str × Int} (hx : xyz p.1) (h1 : 1 ≤ p.2) (h2 : p.2 < 7) : 43 ∉ TL.tl (termT p) := by
  have hw : 43 ∉ TL.tl p.1 := fun z => by
    rcases hx 43 z with e | e | e <;> cases e
  have hd : 43 ∉ TL.tl (dgt p.2) := fun z => by
    rw [dgt_tl h1 h2] at z
    have := List.mem_singleton.mp z
    omega
  unfold termT
  split
  · exact hd
  · split
    · exact hw
    · rw [TL.tl_append, TL.tl_append]
      intro z
      rcases List.mem_append.mp z with z | z
      · rcases List.mem_append.mp z with z | z
        · exact hd z
        · have := List.mem_singleton.mp (show 43 ∈ [32] from z)
          omega
      · exact hw z
/-- a bag as it is told -/
def textT (l : Tb) : Str := if l = [] then "0" else Txt.join L2.plusS (l.map termT)
section
variable {P : Program} {w : World} {K : PySem.W.Frag} {mg : Str → Option Value} {base : Heap}
def spTerm : Sp := fun vs H Q _ => ∃ (x : Str) (n : Int), vs = [.str x, .int n] ∧ 1 ≤ n ∧ n < 7 ∧ x.length ≤ 1000 ∧ Q (.str (termT (x, n))) H
end
end Fp

set_option Elab.async false
set_option linter.all false
set_option maxRecDepth 100000
set_option maxHeartbeats 4000000
namespace Fp
open PySem PySem.Spec PyProof.Rows L2
theorem sum_le {m : Nat} : ∀ {ys : List Str}, (∀ y ∈ ys, y.length ≤ m) → (ys.map (·.length)).sum ≤ ys.length * m
  | [], _ => Nat.zero_le _
  | y :: ys, h => by
    have h1 := h y List.mem_cons_self
    have h2 := sum_le fun z hz => h z (List.mem_cons_of_mem _ hz)
    rw [List.map_cons, List.sum_cons, List.length_cons, Nat.succ_mul]
    omega
theorem WordsAt.get {H : Hp} {t : Addr} {L : Tb} (h : WordsAt H t L) : ∃ (ps : List Addr) (o : Obj), H t = some (.frz o (.tup (ps.map V.ref))) ∧ ps.length = L.length ∧ ∀ (i : Nat) (q : Str × Int), L[i]? = some q → ∃ p, ps[i]? = some p ∧ H p = some (.tup [.str q.1, .int q.2]) := by
  obtain ⟨ps, o, h1, _, h3⟩ := h
  refine ⟨ps, o, h1, ?_, ?_⟩
  · clear h1
    induction h3 with
    | nil => rfl
    | cons _ _ ih => rw [List.length_cons, List.length_cons, ih]
  · clear h1
    induction h3 with
    | nil => intro i q e; simp at e
    | @cons p q0 ps L e _ ih =>
      intro i q eq
      cases i with
      | zero =>
        have : q0 = q := Option.some.inj eq
        exact ⟨p, rfl, this ▸ e⟩
      | succ i => exact ih i q eq
abbrev gPair (K : PySem.W.Frag) (i j : Nat) : TG := gTup K 2 (gCons (gName i) (gCons (gName j) gNil))
section
variable {P : Program} {w : World} {K : PySem.W.Frag} {mg : Str → Option Value} {base : Heap}
def spBText (K : PySem.W.Frag) : Sp := fun vs H Q _ => ∃ (b : Addr) (c : Int) (L : Tb), vs = [.ref b] ∧ BagAt K H b c L ∧ c ≤ 7 ∧ VT c 12 300 L ∧ ∀ H', Same H H' → Q (.str (textT L)) H'
abbrev nBText : List Str := ["bag", "word", "number"]
end
end Fp

set_option Elab.async false
set_option linter.all false
set_option maxRecDepth 100000
set_option maxHeartbeats 4000000
namespace Fp
open PySem PySem.Spec PyProof.Rows L2
section
variable {P : Program} {w : World} {K : PySem.W.Frag} {mg : Str → Option Value} {base : Heap}
/-- pairs in a list, each where it stands -/
def PrsAt (H : Hp) (ps : List Addr) (l : Tb) : Prop := ps.length = l.length ∧ ∀ (i : Nat) (q : Str × Int), l[i]? = some q → ∃ p, ps[i]? = some p ∧ H p = some (.tup [.str q.1, .int q.2])
theorem PrsAt.same {H H' : Hp} {ps : List Addr} {l : Tb} (h : PrsAt H ps l) (k : Same H H') : PrsAt H' ps l := ⟨h.1, fun i q e => by
  obtain ⟨p, h1, h2⟩ := h.2 i q e
  exact ⟨p, h1, k _ _ h2⟩⟩
def spTextOf : Sp := fun vs H Q _ => ∃ (a : Addr) (ps : List Addr) (l : Tb), vs = [.ref a] ∧ H a = some (.lst (ps.map V.ref)) ∧ PrsAt H ps l ∧ (∀ p ∈ l, 1 ≤ p.2 ∧ p.2 < 7 ∧ p.1.length ≤ 12) ∧ l.length ≤ 300 ∧ ∀ H', Same H H' → Q (.str (textT l)) H'
abbrev nTextOf : List Str := ["_law_pairs_here", "_law_rows", "_law_word_here", "_law_number"]
theorem sc_textOf : FnScope nTextOf ["_law_pairs_here"] (defScope s__law_text_of) := ⟨rfl, rfl, rfl, by decide +kernel, rfl, by decide +kernel, by decide +kernel⟩
theorem ok_textOf (T : Top K mg) : Ok P w K mg base 1 "_law_text_of" ["_law_pairs_here"] spTextOf := by
  obtain ⟨fd, F⟩ := fn__law_text_of T
  refine ⟨⟨fd, ?_, F.bindsN fun _ _ _ _ _ _ us hl => match us, hl with | [_], _ => rfl⟩, g__law_text_of T, F.kp⟩
  refine F.ok sc_textOf (fun vs H Q E h => ?_) (fun cdv A outer s H vs Q E hr h => ?_)
  · obtain ⟨a, ps, l, rfl, _⟩ := h
    rfl
  · obtain ⟨a, ps, l, rfl, ha, hps, hl, hk, q⟩ := h
    have nd := sc_textOf.nd
    have hs : sizeLine = 16777216 := sizeLine_eq
    obtain ⟨e2, e3⟩ := id hps
    refine ⟨_, PSs.nox (pss_cons (ps_set (i := 1) nd rfl (Or.inl rfl) (pe_lst pa_nil))
      (pss_cons (ps_for PassesOwn.never rfl (pi_list (pv 0)) (pg_tup rfl (pgs_cons (pg_name (i := 2) nd rfl (Or.inl rfl)) (pgs_cons (pg_name (i := 3) nd rfl (Or.inl rfl)) pgs_nil)))
        (pss_one (ps_if (pt_cmpR op_eq (pv 2) pe_str (nomark _)) (pss_one (ps_expr (pe_bm PySem.F.plainAttrs_list PySem.F.slot_list_append PySem.F.type_list_append mt_append (pv 1) (pa_cons (pe_callTy call_str_int (by rfl) (f_str T) (by decide +kernel) (pa_cons (pv 3) pa_nil)) pa_nil))))
          (pss_one (ps_if (pt_cmpR op_eq (pv 3) pe_int (nomark _)) (pss_one (ps_expr (pe_bm PySem.F.plainAttrs_list PySem.F.slot_list_append PySem.F.type_list_append mt_append (pv 1) (pa_cons (pv 2) pa_nil))))
            (pss_one (ps_expr (pe_bm PySem.F.plainAttrs_list PySem.F.slot_list_append PySem.F.type_list_append mt_append (pv 1) (pa_cons (pe_op op_add_str (pe_op op_add_str (pe_callTy call_str_int (by rfl) (f_str T) (by decide +kernel) (pa_cons (pv 3) pa_nil)) pe_str) (pv 2)) pa_nil)))))))))
      (pss_cons (ps_if (pt_cmpR op_eq (pe_callB call_len (by rfl) (f_len T) PySem.boot_len (pa_cons (pv 1) pa_nil)) pe_int (nomark _)) (pss_one (ps_ret pe_str)) pss_nil)
      (pss_one (ps_ret (pe_join pe_str (pv 1))))))), ?_⟩
    refine ⟨by show 0 ≤ sizeLine; omega, fun R nR => ?_⟩
    have s0 := same_upd (o := .lst []) nR
    have naR : a ≠ R := ne_of_none ha nR
    refine ⟨_, rfl, a, rfl, ⟨_, SqL.of (s0 _ _ ha)⟩, ?_⟩
    refine for_it (walk_list (xs := ps.map V.ref)) (fun i σ H' => ∃ v2 v3 : Option V, σ = [some (.ref a), some (.ref R), v2, v3] ∧ H' R = some (.lst (((l.take i).map termT).map V.str)) ∧ Same H H')
      ⟨none, none, rfl, upd_same, s0⟩ (fun i σ H' _ hP => by obtain ⟨v2, v3, _, _, z⟩ := hP; exact SqL.of (z _ _ ha)) ?_ ?_
    · rintro i x σ Ha Hb hi ⟨v2, v3, rfl, p1, p2⟩ ⟨rfl, e⟩
      rw [List.length_map] at hi
      have hiL : i < l.length := by omega
      obtain ⟨qa, h1, h2⟩ := e3 i l[i] (List.getElem?_eq_getElem hiL)
      rw [List.getElem?_map, h1] at e
      obtain rfl : V.ref qa = x := Option.some.inj e
      obtain ⟨g1, g2, g3⟩ := hl l[i] (List.getElem_mem hiL)
      have hlog : (l[i].2).natAbs.log2 < 1920 := by
        have := Nat.log2_le_self (l[i].2).natAbs
        omega
      have hd := dgt_len g1 g2
      have fin : ∀ t : Str, t = termT l[i] → ∃ v2' v3' : Option V, [some (V.ref a), some (V.ref R), some (V.str l[i].1), some (V.int l[i].2)] = [some (.ref a), some (.ref R), v2', v3'] ∧ (upd Hb R (.lst (((l.take i).map termT).map V.str ++ [.str t]))) R = some (.lst (((l.take (i + 1)).map termT).map V.str)) ∧ Same H (upd Hb R (.lst (((l.take i).map termT).map V.str ++ [.str t]))) := fun t ht => by
        refine ⟨_, _, rfl, ?_, fun b u z => ?_⟩
        · rw [upd_same, List.take_add_one, List.getElem?_eq_getElem hiL, List.map_append, List.map_append, ht]
          rfl
        · rw [upd_ne (ne_of_none z nR)]
          exact p2 _ _ z
      have hz : (((l.take i).map termT).map V.str).length < sizeLine := by
        rw [List.length_map, List.length_map, List.length_take]
        omega
      refine ⟨qa, _, rfl, .inl (.inl (p2 _ _ h2)), rfl, ?_⟩
      refine ⟨_, _, rfl, _, _, rfl, rfl, ?_⟩
      generalize l[i] = p at fin g1 g2 g3 hlog hd
      obtain ⟨x, n⟩ := p
      refine ⟨_, rfl, rfl, _, rfl, ?_⟩
      by_cases hx0 : x = ""
      · rw [decide_eq_true (show V.str x = V.str "" by rw [hx0])]
        refine iteT ?_
        refine ⟨_, rfl, .inl ⟨rfl, _, SqL.of p1⟩, _, rfl, n, rfl, hlog, R, _, _, rfl, rfl, p1, hz, ?_⟩
        exact fin _ (by unfold termT; rw [if_pos hx0]; rfl)
      rw [decide_eq_false (show ¬ V.str x = V.str "" from fun z => hx0 (by injection z))]
      refine iteF ?_
      refine ⟨_, rfl, rfl, _, rfl, ?_⟩
      by_cases hn : n = 1
      · rw [decide_eq_true (show V.int n = V.int 1 by rw [hn])]
        refine iteT ?_
        refine ⟨_, rfl, .inl ⟨rfl, _, SqL.of p1⟩, _, rfl, R, _, _, rfl, rfl, p1, hz, ?_⟩
        exact fin _ (by unfold termT; rw [if_neg hx0, if_pos hn])
      · rw [decide_eq_false (show ¬ V.int n = V.int 1 from fun z => hn (by injection z))]
        refine iteF ?_
        refine ⟨_, rfl, .inl ⟨rfl, _, SqL.of p1⟩, _, rfl, n, rfl, hlog, _, _, rfl, rfl, ?_, _, rfl, _, _, rfl, rfl, ?_, R, _, _, rfl, rfl, p1, hz, ?_⟩
        · show (dgt n).length + 1 ≤ sizeLine
          have hd' : (dgt n).length = 1 := hd
          omega
        · show (dgt n ++ " ").length + x.length ≤ sizeLine
          rw [len_app, hd]
          show 1 + 1 + _ ≤ _
          have : x.length ≤ 12 := g3
          omega
        · exact fin _ (by unfold termT; rw [if_neg hx0, if_neg hn]; rfl)
    · rintro σ Ha ⟨v2, v3, rfl, p1, p2⟩
      rw [List.length_map, e2, List.take_length] at p1
      unfold textT at q
      refine ⟨_, rfl, .ref R, l.length, rfl, .inl ⟨_, SqL.of p1, by rw [List.length_map, List.length_map]⟩, rfl, _, rfl, ?_⟩
      by_cases hL : l = []
      · rw [if_pos hL] at q
        rw [decide_eq_true (show V.int ((l.length : Nat) : Int) = V.int 0 by rw [hL]; rfl)]
        exact iteT (q _ p2)
      · rw [if_neg hL] at q
        have hpos := List.length_pos_iff.mpr hL
        rw [decide_eq_false (show ¬ V.int ((l.length : Nat) : Int) = V.int 0 from fun z => by injection z with z; omega)]
        refine iteF ?_
        refine ⟨⟨_, rfl⟩, _, rfl, _, R, l.map termT, rfl, rfl, .inl (.inl (.inl p1)), ?_, q Ha p2⟩
        have h14 := sum_le (m := 14) (ys := l.map termT) fun y hy => by
          obtain ⟨p, hp, rfl⟩ := List.mem_map.mp hy
          obtain ⟨h1, h2, h3⟩ := hl p hp
          have := termT_len (p := p) h1 h2
          omega
        rw [List.length_map] at h14
        show ((l.map termT).map (·.length)).sum + (l.map termT).length * 3 ≤ 16777216
        rw [List.length_map]
        omega
end
end Fp

set_option Elab.async false
set_option linter.all false
set_option maxRecDepth 100000
set_option maxHeartbeats 4000000
namespace Fp
open PySem PySem.Spec PyProof.Rows L2
theorem perm_erase {α : Type} : ∀ {l : List α} {i : Nat} {x : α}, l[i]? = some x → (x :: l.eraseIdx i).Perm l
  | [], _, _, h => by simp at h
  | y :: l, 0, x, h => by
    cases Option.some.inj h
    exact List.Perm.refl _
  | y :: l, i + 1, x, h => (List.Perm.swap _ _ _).trans ((perm_erase (l := l) h).cons y)
section
variable {P : Program} {w : World} {K : PySem.W.Frag} {mg : Str → Option Value} {base : Heap}
def spShuf : Sp := fun vs H Q _ => ∃ (h ca a : Addr) (xs : List V), vs = [.ref h, .ref a] ∧ TapeAt ca H h ∧ H a = some (.lst xs) ∧ xs.length ≤ 1000 ∧ ∀ H' r ys, TapeAt ca H' h → But h H H' → H r = none → H' r = some (.lst ys) → ys.Perm xs → Q (.ref r) H'
abbrev nShuf : List Str := ["_law_tape_here", "_law_things", "_law_waiting", "_law_found"]
end
end Fp

set_option Elab.async false
set_option linter.all false
set_option maxRecDepth 100000
set_option maxHeartbeats 2000000
/-! a text told backward: s[::-1] -/
namespace L2
open PySem PySem.Spec PyProof.Rows
def revS (z : Str) : Str := ⟨z.cps.toList.reverse.toArray⟩
theorem revS_len (z : Str) : (revS z).length = z.length := by
  show (z.cps.toList.reverse.toArray).size = z.cps.size
  simp
theorem rev_ix (z : Str) : ((Builtin.Str.strSliceIndices none none (-1) z.length).filterMap (z.cps[·]?)).toArray = (revS z).cps := by
  show ((sliceRange ((z.cps.size : Int) - 1) (-1) (-1)).filterMap (z.cps[·]?)).toArray = _
  rw [PySem.W.krv_sliceRange, PySem.W.krv_range, List.filterMap_reverse, PySem.W.krv_all]
  rfl
def tRevS (te : TE) : TE := fun σ H Q => te σ H fun x H1 => ∃ z, x = .str z ∧ z.length ≤ sizeLine ∧ Q (.str (revS z)) H1
theorem pe_revS {X : Cx} {e : Expr} {te : TE} {k : Nat} {p1 p2 p3 pos : Pos} (he : PE X e te) : PE X (.Subscript e (.Slice none none (some (.UnaryOp .USub (.Constant (.int 1) k p1) p2)) p3) pos) (tRevS te) := by
  refine ⟨fun pins s σ H Q I h => ?_⟩
  refine Subscript_ (thn (he.run pins s σ H _ I h) fun v s1 ⟨x, H1, I1, r1, q1⟩ => ?_)
  obtain ⟨z, ex, hz, q⟩ := q1
  subst ex
  obtain ⟨t, rfl⟩ := r1
  have hst : PO X (some (.UnaryOp .USub (.Constant (.int 1) k p1) p2)) (tPart (tUn (rU fun i => .int (-i)) (tC (.int 1)))) := po_some (pe_un un_neg pe_int)
  refine wpAny_Slice (thn (po_none.run pins s1 σ H1 (fun o H2 => o = none ∧ H2 = H1) I1 ⟨rfl, rfl⟩) fun vl s2 ⟨l, H2, I2, pl, el, e2⟩ => ?_)
  subst el e2
  refine thn (po_none.run pins s2 σ H2 (fun o H3 => o = none ∧ H3 = H2) I2 ⟨rfl, rfl⟩) fun vu s3 ⟨u, H3, I3, pu, eu, e3⟩ => ?_
  subst eu e3
  refine thn (hst.run pins s3 σ H3 (fun o H4 => o = some (-1) ∧ H4 = H3) I3 ⟨1, rfl, -1, rfl, rfl, rfl⟩) fun vs s4 ⟨o, H4, I4, ps, eo, e4⟩ => ?_
  subst eo e4
  have I5 : Inv X pins σ H4 { s4 with heap := s4.heap.push { cls := .type "slice", data := .fields #[vl, vu, vs] } } := I4.kept (t' := s4.toks) fun b ob q => Heap.get?_push_of_some _ q
  obtain ⟨l, rfl, hl⟩ := IsPart.raw pl
  obtain ⟨u, rfl, hu⟩ := IsPart.raw pu
  obtain ⟨st, rfl, hst'⟩ := IsPart.raw ps
  show wpAny (model X.prog X.w) X.A (subscriptTail e (.Slice none none (some (.UnaryOp .USub (.Constant (.int 1) k p1) p2)) p3) (.str z t) (.ref s4.heap.objs.size)) (EP X pins σ Q) X.xe { s4 with heap := s4.heap.push { cls := .type "slice", data := .fields #[partValue l, partValue u, partValue st] } }
  refine tail_any (ops := [.str z t, .ref s4.heap.objs.size]) (typeIs_str _ z t) (F.slot_str_getitem.lookup) ?_ (by with_unfolding_all rfl)
  refine wpAny_getItem_str_slice (l := l) (u := u) (st := st) ⟨_, Heap.get?_push_size _ rfl, rfl, rfl⟩ (by rw [hst'] <;> rfl) ?_
  have e1 : (st.map (·.1)).getD 1 = -1 := by rw [hst'] <;> rfl
  show Made.post (if (((st.map (·.1)).getD 1) == 1 && (Builtin.Str.strSliceIndices (l.map (·.1)) (u.map (·.1)) ((st.map (·.1)).getD 1) z.length).length == z.length) = true then Made.val (.str z t)
    else Made.str ⟨((Builtin.Str.strSliceIndices (l.map (·.1)) (u.map (·.1)) ((st.map (·.1)).getD 1) z.length).filterMap (z.cps[·]?)).toArray⟩) (EP X pins σ Q) _
  rw [e1, hl, hu, if_neg (by simp), rev_ix]
  refine ⟨?_, .str _, H4, I5.tok _, ⟨_, rfl⟩, q⟩
  show (revS z).length ≤ sizeLine
  rw [revS_len]
  exact hz
end L2

set_option Elab.async false
set_option linter.all false
set_option maxRecDepth 100000
set_option maxHeartbeats 2000000
/-! y = {k: v for ..}, y a name of the def -/
namespace L2
open PySem PySem.Spec PyProof.Rows
section
variable {X : Cx}
theorem sw_dict {ke ve : Expr} {cs : List Comprehension} {sco : Scope} {q qy : Pos} {nm : Str} {ln : Nat} {en : Env} (h1 : en.scope.kind = .function) (h2 : en.scope.names.lookup nm = some .local) (h3 : (qy.line == q.line) = true)
    (h4 : (sco.names.any fun (a, b) => a == nm && (b == .local || b == .cell)) = false) : swapsWith (.DictComp ke ve cs sco q) (some (.Name nm qy)) ln en = pure true := by
  have f1 : en.kindOf nm = some .local := h2
  have f2 : en.blockKind = .function := by unfold Env.blockKind; rw [h1] <;> rfl
  unfold swapsWith
  simp only [f1, f2, h4, h3, Expr.pos]
  rfl
theorem ps_setDc {j : Nat} {nm : Str} {qy : Pos} {ke ve tgt itr : Expr} {conds : List Expr} {sco : Scope} {mine : List (Str × Nat)} {q sq : Pos} {ti : TI} {tg : TG} {tc : TT} {t1 t2 : TE} (calm : X.calm = true) (nN : X.N.Nodup) (at_ : X.N[j]? = some nm) (loc : X.env.scope.names.lookup nm = some .local)
    (sw : swapsWith (.DictComp ke ve [⟨tgt, itr, conds, 0⟩] sco q) (some (.Name nm qy)) sq.line X.env = pure true) (pi : PI X tgt itr ti) (bo : BlkOk X.N X.env.scope sco mine)
    (g1 : ∀ (s : Shared) (H : Hp) (C : Addr) (cl : List (Str × Addr)) (fp : List Addr), PG (X.blk s H sco (compEnvC sco cl C X.env) fp) tgt tg) (g2 : ∀ (s : Shared) (H : Hp) (C : Addr) (cl : List (Str × Addr)) (fp : List Addr), PTs (X.blk s H sco (compEnvC sco cl C X.env) fp) conds tc)
    (g3 : ∀ (s : Shared) (H : Hp) (C : Addr) (cl : List (Str × Addr)) (fp : List Addr), PE (X.blk s H sco (compEnvC sco cl C X.env) fp) ke t1) (g4 : ∀ (s : Shared) (H : Hp) (C : Addr) (cl : List (Str × Addr)) (fp : List Addr), PE (X.blk s H sco (compEnvC sco cl C X.env) fp) ve t2)
    (fo : ∀ y, foldedSetIterable itr X.env y = pure y := by intro _; rfl) :
    PS X (.Assign [.Name nm qy] (.DictComp ke ve [⟨tgt, itr, conds, 0⟩] sco q) sq) (tAsg (tDc ti tg tc t1 t2 (mine.map (·.2))) (gName j)) := by
  constructor
  intro pn st sl hp ends inv rd
  rw [exec_Assign_Name_used _ _ _ _ sw]
  refine wpAny_bind (wpAny_standAt ?_)
  refine wpAny_bind ?_
  show wpAny _ X.A (do let _ ← comprehension (.DictComp ke ve [⟨tgt, itr, conds, 0⟩] sco q) sco X.env (firstIterPos [⟨tgt, itr, conds, 0⟩] q) newDict false (eval itr X.env) (some (assign (.Name nm qy) X.env))) _ _ st
  have rd' : tDc ti tg tc t1 t2 (mine.map (·.2)) sl hp (fun x H1 => gName j x sl H1 ends.nx) := rd
  refine wpAny_bind (thn (dc_core (Qf := fun _ st' => SP X pn ends .next st') calm nN inv pi bo g1 g2 g3 g4 fo rd' fun D C st1 mm hp1 inv1 q1 ns fr => ?_) fun _ st' hq => ?_)
  · show wpAny _ _ (assign (.Name nm qy) X.env (.ref D)) _ _ _
    refine wpAny_assign_Name (store_ok2 (v := V.ref D) inv1 nN at_ (.inl loc) rfl (fun st2 inv2 ⟨b, sb, hb⟩ => ?_) (.inr loc))
    obtain ⟨a0, a1, a2, a3, a4, a5⟩ := fr
    have cb : C ≠ b := by
      rcases hb with z | z
      · rw [z]
        exact a1
      · exact fun e => a4 nm b z e.symm
    refine ⟨mm, ns.sameBut sb cb, fun h3 sb3 => ⟨_, hp1, inv2.turned (t' := st2.toks) (fun b o nb e => (sb3.2 b nb).trans e) a0 a1 a3 a4 a5, q1⟩⟩
  · exact wpAny_pure (wpAny_pure hq)
end
end L2

set_option Elab.async false
set_option linter.all false
set_option maxRecDepth 100000
set_option maxHeartbeats 4000000
namespace L2
open PySem PySem.Spec PyProof.Rows
theorem dc_it {J : It} {n : Nat} {G : Hp → Prop} {Y : Nat → Hp → V → Hp → Prop} (wk : Walk J n G Y) {g : TG} {tt : TT} {tk tv : TE} {vs : List Nat} {σ : St} {H1 : Hp} {D : Addr} {Qd : Hp → Prop} (Pv : Nat → Hp → Prop) (z0 : Pv 0 (upd H1 D (.dK [])))
    (zG : ∀ i H, i ≤ n → Pv i H → G H)
    (zs : ∀ i x H H', i < n → Pv i H → Y i H x H' → g x (wipe σ vs) H' fun σ2 H2 => wipe σ2 vs = wipe σ vs ∧ tt σ2 H2 fun b H3 =>
      if b = true then tk σ2 H3 fun y H4 => tv σ2 H4 fun z H5 => ∃ kvs k, y = kV k ∧ H5 D = some (.dK kvs) ∧ kvs.length < sizeLine ∧ Pv (i + 1) (upd H5 D (.dK (putK kvs k z))) else Pv (i + 1) H3)
    (zd : ∀ H, Pv n H → Qd H) :
    ∃ W : Nat → Nat → Hp → Prop, (∃ m, W 0 m (upd H1 D (.dK []))) ∧ ∀ i m H, W i m H →
      (J.stop i H ∧ Qd H) ∨ (J.go i H ∧ ∃ Nx : Hp → Prop, (∀ H', Nx H' → ∃ m', m' < m ∧ W (i + 1) m' H') ∧ ∀ x H', J.yld i H x H' → g x (wipe σ vs) H' fun σ2 H2 => wipe σ2 vs = wipe σ vs ∧ tt σ2 H2 fun b H3 =>
        if b = true then tk σ2 H3 fun y H4 => tv σ2 H4 fun z H5 => ∃ kvs k, y = kV k ∧ H5 D = some (.dK kvs) ∧ kvs.length < sizeLine ∧ Nx (upd H5 D (.dK (putK kvs k z))) else Nx H3) := by
  refine ⟨fun i m H => (m = n - i ∧ i ≤ n) ∧ Pv i H, ⟨n, ⟨by simp, Nat.zero_le _⟩, z0⟩, ?_⟩
  rintro i m H ⟨⟨rfl, hi⟩, p⟩
  have q := zG i H hi p
  by_cases hlt : i < n
  · exact .inr ⟨wk.goes i H hlt q, Pv (i + 1), fun H' p' => ⟨n - (i + 1), by omega, ⟨rfl, hlt⟩, p'⟩, fun x H' y => zs i x H H' hlt p (wk.yields i H x H' hlt q y)⟩
  · obtain rfl : i = n := by omega
    exact .inl ⟨wk.stops H q, zd H p⟩
end L2
namespace Fp
open PySem PySem.Spec PyProof.Rows L2
theorem ck_range {c : Int} (h : isCk c) : 2 ≤ c ∧ c ≤ 7 := by
  rcases h with rfl | rfl | rfl | rfl <;> constructor <;> decide
def nums7 : Tb := [(dgt 1, 1), (dgt 2, 2), (dgt 3, 3), (dgt 4, 4), (dgt 5, 5), (dgt 6, 6)]
/-- the numbers of a clock by their texts -/
def nums (c : Int) : Tb := nums7.take (c.toNat - 1)
theorem nums_put : ∀ i, i < 6 → putT (nums7.take i) (dgt (1 + (i : Nat) : Int)) (1 + (i : Nat) : Int) = nums7.take (i + 1) := by decide +kernel
theorem nums_yes {c n : Int} (hc : isCk c) (h1 : 1 ≤ n) (h2 : n < c) : has (nums c) (dgt n) = true ∧ num (nums c) (dgt n) = n := by
  have : n = 1 ∨ n = 2 ∨ n = 3 ∨ n = 4 ∨ n = 5 ∨ n = 6 := by have := ck_range hc; omega
  rcases hc with rfl | rfl | rfl | rfl <;> rcases this with rfl | rfl | rfl | rfl | rfl | rfl <;> first | omega | decide +kernel
theorem nums_no {c n : Int} (hc : isCk c) (h1 : n < 7) (h2 : c ≤ n) : has (nums c) (dgt n) = false := by
  have : n = 2 ∨ n = 3 ∨ n = 4 ∨ n = 5 ∨ n = 6 := by have := ck_range hc; omega
  rcases hc with rfl | rfl | rfl | rfl <;> rcases this with rfl | rfl | rfl | rfl | rfl <;> first | omega | decide +kernel
theorem nums_key {c : Int} {t : Str} (h : has (nums c) t = true) : ∃ n : Int, 1 ≤ n ∧ n < 7 ∧ t = dgt n := by
  obtain ⟨p, hp, e⟩ := List.mem_map.mp (has_iff.mp h)
  have hp' := List.mem_of_mem_take hp
  have hq : p = (dgt 1, 1) ∨ p = (dgt 2, 2) ∨ p = (dgt 3, 3) ∨ p = (dgt 4, 4) ∨ p = (dgt 5, 5) ∨ p = (dgt 6, 6) := by simpa [nums7] using hp'
  rcases hq with rfl | rfl | rfl | rfl | rfl | rfl
  · exact ⟨1, by decide, by decide, e.symm⟩
  · exact ⟨2, by decide, by decide, e.symm⟩
  · exact ⟨3, by decide, by decide, e.symm⟩
  · exact ⟨4, by decide, by decide, e.symm⟩
  · exact ⟨5, by decide, by decide, e.symm⟩
  · exact ⟨6, by decide, by decide, e.symm⟩
/-- what is told of a term by a clock -/
def toldW (c : Int) (p : Str × Int) : Str × V := if p.2 < c then (p.1, .int p.2) else if p.1 = "" then (dgt p.2, .int 1) else (p.1, .non)
section
variable {P : Program} {w : World} {K : PySem.W.Frag} {mg : Str → Option Value} {base : Heap}
def spTT : Sp := fun vs H Q _ => ∃ (c : Int) (x : Str) (n : Int), vs = [.int c, .str (termT (x, n))] ∧ isCk c ∧ xyz x ∧ x.length ≤ 12 ∧ 1 ≤ n ∧ n < 7 ∧ ∀ H' r, Same H H' → H r = none → H' r = some (.tup [.str (toldW c (x, n)).1, (toldW c (x, n)).2]) → Q (.ref r) H'
abbrev nTT : List Str := ["clock", "term", "numbers", "start", "blank", "word", "number"]
theorem sc_tt : FnScope nTT ["clock", "term"] (defScope s_told_term) := ⟨rfl, rfl, rfl, by decide +kernel, rfl, by decide +kernel, by decide +kernel⟩
theorem ok_tt (T : Top K mg) : Ok P w K mg base 1 "told_term" ["clock", "term"] spTT := by
  obtain ⟨fd, F⟩ := fn_told_term T
  refine ⟨⟨fd, ?_, F.bindsN fun _ _ _ _ _ _ us hl => match us, hl with | [_, _], _ => rfl⟩, g_told_term T, F.kp⟩
  refine F.ok sc_tt (fun vs H Q E h => ?_) (fun cdv A outer s H vs Q E hr h => ?_)
  · obtain ⟨c, x, n, rfl, _⟩ := h
    rfl
  · obtain ⟨c, x, n, rfl, hck, hx, hxl, h1, h2, q⟩ := h
    have nd := sc_tt.nd
    have hu := hu_of hr
    have hs : sizeLine = 16777216 := sizeLine_eq
    obtain ⟨hc2, hc7⟩ := ck_range hck
    refine ⟨_, PSs.nox (pss_cons (ps_setDc (j := 2) (mine := [("number", 6)]) (tg := gName 6) (tc := tYes) (t1 := tFmt (tVar 6)) (t2 := tVar 6) rfl nd rfl rfl (sw_dict rfl rfl rfl (by decide +kernel)) (pi_range2 (by rfl) (f_range T) (pa_cons pe_int (pa_cons (pv 0) pa_nil))) (blkOk_by (N := nTT) (sc := defScope s_told_term) (by decide +kernel))
        (fun _ _ _ _ _ => pg_name (i := 6) nd rfl (Or.inl rfl)) (fun _ _ _ _ _ => by exact pts_nil) (fun _ _ _ _ _ => by exact pe_joined1 (pe_fmt (pv 6))) (fun _ _ _ _ _ => pv 6))
      (pss_cons (ps_if (pt_cmp (pc_din hu (pv 1) (pv 2)) rfl) (pss_one (ps_ret (pe_tup (pa_cons pe_str (pa_cons (pe_dget hu (pv 2) (pv 1) (fun _ _ => rfl)) pa_nil))))) pss_nil)
      (pss_cons (ps_asg (pe_m1 PySem.F.slot_str_rpartition PySem.F.type_str_rpartition mt_rpart (pv 1) pe_str) (pg_tup rfl (pgs_cons (pg_name (i := 3) nd rfl (Or.inl rfl)) (pgs_cons (pg_name (i := 4) nd rfl (Or.inl rfl)) (pgs_cons (pg_name (i := 5) nd rfl (Or.inl rfl)) pgs_nil)))))
      (pss_cons (ps_if (PW.pt (pw_or (pt_cmpR op_eq (pv 5) pe_str (nomark _)) (pw_or1 (pt_cmpR op_eq (pv 3) pe_str (nomark _))))) (pss_one (ps_ret (pe_tup (pa_cons (pv 5) (pa_cons pe_non pa_nil))))) pss_nil)
      (pss_one (ps_ret (pe_tup (pa_cons (pv 5) (pa_cons (pe_ifExp (pt_truth (pv 4) (fun _ => rfl)) (pe_dget1 hu (pv 2) (pv 3) ⟨rfl, rfl, rfl, rfl⟩) pe_int) pa_nil))))))))), ?_⟩
    have hlog : ∀ k : Int, 1 ≤ k → k < 7 → k.natAbs.log2 < 1920 := fun k a b => by
      have := Nat.log2_le_self k.natAbs
      omega
    refine ⟨_, rfl, 1, c, rfl, ⟨by omega, by omega⟩, fun D hD => ?_⟩
    refine dc_it walk_range (fun i H' => H' D = some (.dK (kv (nums7.take i))) ∧ Same H H') ⟨upd_same, same_upd hD⟩ (fun _ _ _ _ => trivial) ?_ ?_
    · rintro i x Ha Hb hi ⟨p1, p2⟩ ⟨rfl, rfl⟩
      have hi6 : i < 6 := by omega
      refine ⟨rfl, ?_⟩
      refine ⟨_, rfl, .inr ⟨_, rfl, hlog _ (by omega) (by omega), ?_⟩⟩
      refine ⟨_, rfl, kv (nums7.take i), Sum.inr (dgt (1 + (i : Nat) : Int)), rfl, p1, ?_, ?_, fun a o z => ?_⟩
      · rw [kv_len, List.length_take]
        omega
      · rw [upd_same, putK_kv, nums_put i hi6]
      · rw [upd_ne (ne_of_none z hD)]
        exact p2 _ _ z
    rintro H2 ⟨p1, p2⟩
    rw [show (c - 1).toNat = c.toNat - 1 by omega] at p1
    have eD : H2 D = some (.dK (kv (nums c))) := p1
    clear p1 hD
    have d32 : 32 ∉ TL.tl (dgt n) := fun z => by
      rw [dgt_tl h1 h2] at z
      have := List.mem_singleton.mp z
      omega
    have x32 : 32 ∉ TL.tl x := fun z => by rcases hx 32 z with e | e | e <;> cases e
    have tkey : ∀ {t : Str}, has (nums c) t = true → ∃ k : Nat, 49 ≤ k ∧ k ≤ 54 ∧ TL.tl t = [k] := fun h => by
      obtain ⟨k, k1, k2, rfl⟩ := nums_key h
      exact ⟨48 + k.toNat, by omega, by omega, dgt_tl k1 k2⟩
    have dne : dgt n ≠ "" := fun e => by
      have := congrArg TL.tl e
      rw [dgt_tl h1 h2] at this
      cases this
    by_cases hx0 : x = ""
    · have et : termT (x, n) = dgt n := by
        unfold termT
        rw [if_pos hx0]
      rw [et]
      by_cases hn : n < c
      · obtain ⟨y1, y2⟩ := nums_yes hck h1 hn
        have ev : valV (kv (nums c)) (Sum.inr (dgt n) : Key) = some (.int n) := by rw [valV_yes y1, y2]
        refine ⟨_, rfl, _, rfl, D, _, rfl, .inl ⟨kv (nums c), Sum.inr (dgt n), .inl eD, rfl, rfl⟩, ?_⟩
        refine ⟨_, rfl, ?_⟩
        rw [ev]
        refine iteT ?_
        refine ⟨_, rfl, _, rfl, D, .int n, rfl, .inl ⟨kv (nums c), Sum.inr (dgt n), .inl eD, rfl, ev.symm⟩, by show 2 ≤ sizeLine; omega, fun r nr => ?_⟩
        refine q _ r (p2.trans (same_upd nr)) (p2.free nr) ?_
        have e : toldW c (x, n) = (x, .int n) := by
          unfold toldW
          rw [if_pos hn]
        rw [e, hx0]
        exact upd_same
      · have fid : toldW c (x, n) = (dgt n, .int 1) := by
          unfold toldW
          rw [if_neg hn, if_pos hx0]
        have ev : valV (kv (nums c)) (Sum.inr (dgt n) : Key) = none := (valV_no (nums_no hck h2 (by omega))).1
        refine ⟨_, rfl, _, rfl, D, _, rfl, .inl ⟨kv (nums c), Sum.inr (dgt n), .inl eD, rfl, rfl⟩, ?_⟩
        refine ⟨_, rfl, ?_⟩
        rw [ev]
        refine iteF ?_
        refine ⟨_, rfl, ⟨_, rfl⟩, dgt n, L2.blkS, rfl, rfl, by decide, by rw [dgt_len h1 h2]; omega, fun p np => ?_⟩
        rw [rpart_none d32]
        have sp := p2.trans (same_upd (o := .tup [.str Str.empty, .str Str.empty, .str (dgt n)]) np)
        have eDp := same_upd (o := .tup [.str Str.empty, .str Str.empty, .str (dgt n)]) np _ _ eD
        refine ⟨p, _, rfl, .inl (.inl upd_same), rfl, ?_⟩
        refine ⟨_, _, rfl, _, _, rfl, _, _, rfl, rfl, ?_⟩
        refine ⟨_, rfl, rfl, _, rfl, ?_⟩
        rw [decide_eq_false (show ¬ V.str (dgt n) = V.str "" from fun z => dne (by injection z))]
        refine ite2 (fun z => absurd z (by decide)) (fun _ => ?_)
        refine ⟨_, rfl, rfl, _, rfl, ?_⟩
        rw [decide_eq_false (show ¬ V.str Str.empty = V.str "1" from fun z => by injection z with z; exact absurd z (by decide))]
        refine iteF ?_
        refine ⟨_, rfl, _, rfl, false, ⟨Nat.zero_le _, rfl⟩, iteF ?_⟩
        refine ⟨by show 2 ≤ sizeLine; omega, fun r nr => ?_⟩
        refine q _ r (sp.trans (same_upd nr)) (sp.free nr) ?_
        rw [fid]
        exact upd_same
    · have xno : has (nums c) x = false := by
        cases e : has (nums c) x with
        | false => rfl
        | true =>
          exfalso
          obtain ⟨k, k1, k2, k3⟩ := tkey e
          rcases hx k (by show k ∈ TL.tl x; rw [k3]; exact List.mem_singleton.mpr rfl) with e | e | e <;> omega
      by_cases hn1 : n = 1
      · have et : termT (x, n) = x := by
          unfold termT
          rw [if_neg hx0, if_pos hn1]
        rw [et]
        have fid : toldW c (x, n) = (x, .int 1) := by
          unfold toldW
          rw [if_pos (show n < c by omega), hn1]
        have ev : valV (kv (nums c)) (Sum.inr (x) : Key) = none := (valV_no xno).1
        refine ⟨_, rfl, _, rfl, D, _, rfl, .inl ⟨kv (nums c), Sum.inr (x), .inl eD, rfl, rfl⟩, ?_⟩
        refine ⟨_, rfl, ?_⟩
        rw [ev]
        refine iteF ?_
        refine ⟨_, rfl, ⟨_, rfl⟩, x, L2.blkS, rfl, rfl, by decide, by omega, fun p np => ?_⟩
        rw [rpart_none x32]
        have sp := p2.trans (same_upd (o := .tup [.str Str.empty, .str Str.empty, .str (x)]) np)
        have eDp := same_upd (o := .tup [.str Str.empty, .str Str.empty, .str (x)]) np _ _ eD
        refine ⟨p, _, rfl, .inl (.inl upd_same), rfl, ?_⟩
        refine ⟨_, _, rfl, _, _, rfl, _, _, rfl, rfl, ?_⟩
        refine ⟨_, rfl, rfl, _, rfl, ?_⟩
        rw [decide_eq_false (show ¬ V.str (x) = V.str "" from fun z => hx0 (by injection z))]
        refine ite2 (fun z => absurd z (by decide)) (fun _ => ?_)
        refine ⟨_, rfl, rfl, _, rfl, ?_⟩
        rw [decide_eq_false (show ¬ V.str Str.empty = V.str "1" from fun z => by injection z with z; exact absurd z (by decide))]
        refine iteF ?_
        refine ⟨_, rfl, _, rfl, false, ⟨Nat.zero_le _, rfl⟩, iteF ?_⟩
        refine ⟨by show 2 ≤ sizeLine; omega, fun r nr => ?_⟩
        refine q _ r (sp.trans (same_upd nr)) (sp.free nr) ?_
        rw [fid]
        exact upd_same
      · have et : termT (x, n) = dgt n ++ L2.blkS ++ x := by
          unfold termT
          rw [if_neg hx0, if_neg hn1]
          rfl
        rw [et]
        have tlen : (dgt n ++ L2.blkS ++ x).length = 2 + x.length := by
          rw [len_app, len_app, dgt_len h1 h2]
          rfl
        have xpos : 0 < x.length := by
          cases e : x.length with
          | zero => exact absurd (TL.ext_tl (List.eq_nil_of_length_eq_zero (by rw [← TL.len_tl]; exact e))) hx0
          | succ k => omega
        have hno : has (nums c) (dgt n ++ L2.blkS ++ x) = false := by
          cases e : has (nums c) (dgt n ++ L2.blkS ++ x) with
          | false => rfl
          | true =>
            exfalso
            obtain ⟨k, k1, k2, k3⟩ := tkey e
            have := congrArg List.length k3
            rw [← TL.len_tl, tlen] at this
            have e1 : ([k] : List Nat).length = 1 := rfl
            omega
        have ev : valV (kv (nums c)) (Sum.inr (dgt n ++ L2.blkS ++ x) : Key) = none := (valV_no hno).1
        refine ⟨_, rfl, _, rfl, D, _, rfl, .inl ⟨kv (nums c), Sum.inr (dgt n ++ L2.blkS ++ x), .inl eD, rfl, rfl⟩, ?_⟩
        refine ⟨_, rfl, ?_⟩
        rw [ev]
        refine iteF ?_
        refine ⟨_, rfl, ⟨_, rfl⟩, dgt n ++ L2.blkS ++ x, L2.blkS, rfl, rfl, by decide, by omega, fun p np => ?_⟩
        rw [rpart_app x32]
        have sp := p2.trans (same_upd (o := .tup [.str (dgt n), .str L2.blkS, .str x]) np)
        have eDp := same_upd (o := .tup [.str (dgt n), .str L2.blkS, .str x]) np _ _ eD
        refine ⟨p, _, rfl, .inl (.inl upd_same), rfl, ?_⟩
        refine ⟨_, _, rfl, _, _, rfl, _, _, rfl, rfl, ?_⟩
        refine ⟨_, rfl, rfl, _, rfl, ?_⟩
        rw [decide_eq_false (show ¬ V.str x = V.str "" from fun z => hx0 (by injection z))]
        refine ite2 (fun z => absurd z (by decide)) (fun _ => ?_)
        refine ⟨_, rfl, rfl, _, rfl, ?_⟩
        have hd1 : dgt n ≠ "1" := fun e => by
          have := congrArg TL.tl e
          rw [dgt_tl h1 h2] at this
          have e2 : 48 + n.toNat = 49 := by
            have h3 : ([48 + n.toNat] : List Nat) = [49] := this
            exact List.singleton_inj.mp h3
          omega
        rw [decide_eq_false (show ¬ V.str (dgt n) = V.str "1" from fun z => hd1 (by injection z))]
        refine iteF ?_
        refine ⟨_, rfl, _, rfl, true, ⟨show L2.blkS.length ≤ sizeLine by decide, rfl⟩, iteT ?_⟩
        refine ⟨_, rfl, D, rfl, .inl ⟨_, .inl eDp⟩, _, rfl, _, DGet.k (k := Sum.inr (dgt n)) eDp, ?_⟩
        refine ⟨by show 2 ≤ sizeLine; omega, fun r nr => ?_⟩
        refine q _ r (sp.trans (same_upd nr)) (sp.free nr) ?_
        by_cases hn : n < c
        · obtain ⟨y1, y2⟩ := nums_yes hck h1 hn
          have e : toldW c (x, n) = (x, .int n) := by
            unfold toldW
            rw [if_pos hn]
          rw [e, valV_yes y1, y2]
          exact upd_same
        · have e : toldW c (x, n) = (x, .non) := by
            unfold toldW
            rw [if_neg hn, if_neg hx0]
          rw [e, (valV_no (nums_no hck h2 (by omega))).1]
          exact upd_same
end
end Fp

set_option Elab.async false
set_option linter.all false
set_option maxRecDepth 100000
set_option maxHeartbeats 2000000
/-! what any text is split into, and what stands before and behind its last blank -/
namespace L2
open PySem PySem.Spec PyProof.Rows TL
theorem spl_any (S : List Nat) : ∀ (L : List Nat) (k : Nat) (acc : List Nat), spl S k acc L ≠ [] ∧ (spl S k acc L).length ≤ L.length + 1 ∧ ∀ p ∈ spl S k acc L, p.length ≤ acc.length + L.length
  | [], k, acc => by
    rw [spl_nil]
    exact ⟨by simp, by simp, fun p hp => by rw [List.mem_singleton.mp hp]; exact Nat.le_add_right _ _⟩
  | c :: r, 0, acc => by
    cases e : pre S (c :: r) with
    | true =>
      rw [spl_hit e]
      obtain ⟨_, h2, h3⟩ := spl_any S r (S.length - 1) []
      refine ⟨by simp, by rw [List.length_cons, List.length_cons]; omega, fun p hp => ?_⟩
      rcases List.mem_cons.mp hp with rfl | hp
      · exact Nat.le_add_right _ _
      · have := h3 p hp
        rw [List.length_cons]
        simp at this
        omega
    | false =>
      rw [spl_miss e]
      obtain ⟨h1, h2, h3⟩ := spl_any S r 0 (acc ++ [c])
      refine ⟨h1, by rw [List.length_cons]; omega, fun p hp => ?_⟩
      have := h3 p hp
      rw [List.length_append, List.length_singleton] at this
      rw [List.length_cons]
      omega
  | c :: r, k + 1, acc => by
    obtain ⟨h1, h2, h3⟩ := spl_any S r k acc
    refine ⟨h1, by rw [List.length_cons]; exact Nat.le_succ_of_le h2, fun p hp => ?_⟩
    have := h3 p hp
    rw [List.length_cons]
    omega
theorem split_any (x : Str) {y : Str} (hy : tl y ≠ []) (hk : y.cps.all (· < 256) = true) : Txt.split x y ≠ [] ∧ (Txt.split x y).length ≤ x.length + 1 ∧ ∀ p ∈ Txt.split x y, p.length ≤ x.length := by
  have e := split_spl x y hy (kind_ok hk)
  obtain ⟨h1, h2, h3⟩ := spl_any (tl y) (tl x) 0 []
  rw [← e] at h1 h2 h3
  rw [← len_tl] at h2
  refine ⟨fun z => h1 (by rw [z]; rfl), by rw [List.length_map] at h2; exact h2, fun p hp => ?_⟩
  have := h3 _ (List.mem_map.mpr ⟨p, hp, rfl⟩)
  rw [← len_tl, ← len_tl] at this
  simpa using this
theorem joinL_concat {S : List Nat} : ∀ {init : List (List Nat)} {w : List Nat}, init ≠ [] → joinL S (init ++ [w]) = joinL S init ++ (S ++ w)
  | [], _, h => absurd rfl h
  | [p], w, _ => rfl
  | p :: q :: r, w, _ => by
    show p ++ (S ++ joinL S ((q :: r) ++ [w])) = (p ++ (S ++ joinL S (q :: r))) ++ (S ++ w)
    rw [joinL_concat (by simp)]
    simp [List.append_assoc]
theorem joinL_two {S : List Nat} : ∀ {l : List (List Nat)}, 2 ≤ l.length → ∀ c ∈ S, c ∈ joinL S l
  | [], h => by simp at h
  | [_], h => by simp at h
  | p :: q :: r, _ => fun c hc => List.mem_append.mpr (.inr (List.mem_append.mpr (.inl hc)))
/-- the signs of a text, and what rpartition tells -/
theorem rpart_signs (t : Str) : ∃ (init : List Str) (w : Str), Txt.split t blkS = init ++ [w] ∧ 32 ∉ tl w ∧ ((init = [] ∧ t = w ∧ rpartS t blkS = (Str.empty, Str.empty, w)) ∨
    (init ≠ [] ∧ rpartS t blkS = (Txt.join blkS init, blkS, w) ∧ (2 ≤ init.length → 32 ∈ tl (Txt.join blkS init)) ∧ ∀ s, init = [s] → Txt.join blkS init = s)) := by
  have ey : tl blkS = [32] := by decide
  have hne := (split_any t (y := blkS) (by rw [ey]; simp) (by decide +kernel)).1
  have hj : Txt.join blkS (Txt.split t blkS) = t := by
    rw [join_eq]
    exact PySem.StrLaws.join_split t blkS
  have hfree : ∀ p ∈ Txt.split t blkS, 32 ∉ tl p := fun p hp => PySem.StrLaws.split_free t 32 p hp
  rcases List.eq_nil_or_concat (Txt.split t blkS) with e | ⟨init, w, e⟩
  · exact absurd e hne
  rw [List.concat_eq_append] at e
  have hw : 32 ∉ tl w := hfree w (by rw [e]; simp)
  refine ⟨init, w, e, hw, ?_⟩
  rw [e] at hj
  by_cases hi : init = []
  · subst hi
    have e2 : t = w := by
      rw [← hj, join_eq]
      refine ext_tl ?_
      rw [tl_join]
      rfl
    refine .inl ⟨rfl, e2, ?_⟩
    rw [e2]
    exact rpart_none hw
  · have e2 : t = Txt.join blkS init ++ blkS ++ w := by
      rw [← hj, join_eq, join_eq]
      refine ext_tl ?_
      rw [tl_join, tl_append, tl_append, tl_join, List.map_append, List.map_cons, List.map_nil, joinL_concat (fun z => hi (List.map_eq_nil_iff.mp z))]
      simp [List.append_assoc]
    refine .inr ⟨hi, ?_, fun h2 => ?_, fun s es => ?_⟩
    · conv => lhs; rw [e2]
      exact rpart_app hw
    · rw [join_eq, tl_join, ey]
      exact joinL_two (by rw [List.length_map]; exact h2) 32 (List.mem_singleton.mpr rfl)
    · rw [es, join_eq]
      refine ext_tl ?_
      rw [tl_join]
      rfl
end L2

set_option Elab.async false
set_option linter.all false
set_option maxRecDepth 100000
set_option maxHeartbeats 4000000
/-! told_term of any text -/
namespace Fp
open PySem PySem.Spec PyProof.Rows L2
theorem nums_iff {c : Int} (hc : isCk c) {t : Str} : has (nums c) t = true ↔ ∃ n : Int, 1 ≤ n ∧ n < c ∧ t = dgt n := by
  constructor
  · intro h
    obtain ⟨n, h1, h2, rfl⟩ := nums_key h
    by_cases hn : n < c
    · exact ⟨n, h1, hn, rfl⟩
    · rw [nums_no hc h2 (by omega)] at h
      cases h
  · rintro ⟨n, h1, h2, rfl⟩
    exact (nums_yes hc h1 h2).1
theorem nums_num {c n : Int} (hc : isCk c) (h1 : 1 ≤ n) (h2 : n < c) : num (nums c) (dgt n) = n := (nums_yes hc h1 h2).2
/-- what the program tells of a term -/
def ttP (c : Int) (t : Str) : Str × V := if has (nums c) t = true then ("", .int (num (nums c) t)) else
  if (rpartS t blkS).2.2 = "" ∨ (rpartS t blkS).1 = "1" then ((rpartS t blkS).2.2, .non) else
  ((rpartS t blkS).2.2, if (rpartS t blkS).2.1 = Str.empty then .int 1 else if has (nums c) (rpartS t blkS).1 = true then .int (num (nums c) (rpartS t blkS).1) else .non)
/-- a pair that a bag may hold -/
def Good (c : Int) (p : Str × V) : Prop := xyz p.1 ∧ p.1.length ≤ 12 ∧ ∃ n : Int, p.2 = .int n ∧ 1 ≤ n ∧ n < c
theorem ttP_val {c : Int} {t : Str} : (∃ n, (ttP c t).2 = .int n) ∨ (ttP c t).2 = .non := by
  unfold ttP
  split
  · exact .inl ⟨_, rfl⟩
  · split
    · exact .inr rfl
    · by_cases h1 : (rpartS t blkS).2.1 = Str.empty
      · exact .inl ⟨1, if_pos h1⟩
      · by_cases h2 : has (nums c) (rpartS t blkS).1 = true
        · exact .inl ⟨_, (if_neg h1).trans (if_pos h2)⟩
        · exact .inr ((if_neg h1).trans (if_neg h2))
theorem rpart_b (t : Str) : ((rpartS t blkS).2.1 = Str.empty ∨ (rpartS t blkS).2.1 = blkS) ∧ True := by
  obtain ⟨init, w, _, _, ⟨_, _, e⟩ | ⟨_, e, _⟩⟩ := rpart_signs t
  · rw [e]
    exact ⟨.inl rfl, trivial⟩
  · rw [e]
    exact ⟨.inr rfl, trivial⟩
section
variable {P : Program} {w : World} {K : PySem.W.Frag} {mg : Str → Option Value} {base : Heap}
def spTTG : Sp := fun vs H Q _ => ∃ (c : Int) (t : Str), vs = [.int c, .str t] ∧ isCk c ∧ t.length ≤ 1000000 ∧ ∀ H' r, Same H H' → H r = none → H' r = some (.tup [.str (ttP c t).1, (ttP c t).2]) → Q (.ref r) H'
theorem ok_ttG (T : Top K mg) : Ok P w K mg base 1 "told_term" ["clock", "term"] spTTG := by
  obtain ⟨fd, F⟩ := fn_told_term T
  refine ⟨⟨fd, ?_, F.bindsN fun _ _ _ _ _ _ us hl => match us, hl with | [_, _], _ => rfl⟩, g_told_term T, F.kp⟩
  refine F.ok sc_tt (fun vs H Q E h => ?_) (fun cdv A outer s H vs Q E hr h => ?_)
  · obtain ⟨c, t, rfl, _⟩ := h
    rfl
  · obtain ⟨c, t, rfl, hck, hlen, q⟩ := h
    have nd := sc_tt.nd
    have hu := hu_of hr
    have hs : sizeLine = 16777216 := sizeLine_eq
    obtain ⟨hc2, hc7⟩ := ck_range hck
    refine ⟨_, PSs.nox (pss_cons (ps_setDc (j := 2) (mine := [("number", 6)]) (tg := gName 6) (tc := tYes) (t1 := tFmt (tVar 6)) (t2 := tVar 6) rfl nd rfl rfl (sw_dict rfl rfl rfl (by decide +kernel)) (pi_range2 (by rfl) (f_range T) (pa_cons pe_int (pa_cons (pv 0) pa_nil))) (blkOk_by (N := nTT) (sc := defScope s_told_term) (by decide +kernel))
        (fun _ _ _ _ _ => pg_name (i := 6) nd rfl (Or.inl rfl)) (fun _ _ _ _ _ => by exact pts_nil) (fun _ _ _ _ _ => by exact pe_joined1 (pe_fmt (pv 6))) (fun _ _ _ _ _ => pv 6))
      (pss_cons (ps_if (pt_cmp (pc_din hu (pv 1) (pv 2)) rfl) (pss_one (ps_ret (pe_tup (pa_cons pe_str (pa_cons (pe_dget hu (pv 2) (pv 1) (fun _ _ => rfl)) pa_nil))))) pss_nil)
      (pss_cons (ps_asg (pe_m1 PySem.F.slot_str_rpartition PySem.F.type_str_rpartition mt_rpart (pv 1) pe_str) (pg_tup rfl (pgs_cons (pg_name (i := 3) nd rfl (Or.inl rfl)) (pgs_cons (pg_name (i := 4) nd rfl (Or.inl rfl)) (pgs_cons (pg_name (i := 5) nd rfl (Or.inl rfl)) pgs_nil)))))
      (pss_cons (ps_if (PW.pt (pw_or (pt_cmpR op_eq (pv 5) pe_str (nomark _)) (pw_or1 (pt_cmpR op_eq (pv 3) pe_str (nomark _))))) (pss_one (ps_ret (pe_tup (pa_cons (pv 5) (pa_cons pe_non pa_nil))))) pss_nil)
      (pss_one (ps_ret (pe_tup (pa_cons (pv 5) (pa_cons (pe_ifExp (pt_truth (pv 4) (fun _ => rfl)) (pe_dget1 hu (pv 2) (pv 3) ⟨rfl, rfl, rfl, rfl⟩) pe_int) pa_nil))))))))), ?_⟩
    have hlog : ∀ k : Int, 1 ≤ k → k < 7 → k.natAbs.log2 < 1920 := fun k a b => by
      have := Nat.log2_le_self k.natAbs
      omega
    refine ⟨_, rfl, 1, c, rfl, ⟨by omega, by omega⟩, fun D hD => ?_⟩
    refine dc_it walk_range (fun i H' => H' D = some (.dK (kv (nums7.take i))) ∧ Same H H') ⟨upd_same, same_upd hD⟩ (fun _ _ _ _ => trivial) ?_ ?_
    · rintro i x Ha Hb hi ⟨p1, p2⟩ ⟨rfl, rfl⟩
      have hi6 : i < 6 := by omega
      refine ⟨rfl, ?_⟩
      refine ⟨_, rfl, .inr ⟨_, rfl, hlog _ (by omega) (by omega), ?_⟩⟩
      refine ⟨_, rfl, kv (nums7.take i), Sum.inr (dgt (1 + (i : Nat) : Int)), rfl, p1, ?_, ?_, fun a o z => ?_⟩
      · rw [kv_len, List.length_take]
        omega
      · rw [upd_same, putK_kv, nums_put i hi6]
      · rw [upd_ne (ne_of_none z hD)]
        exact p2 _ _ z
    rintro H2 ⟨p1, p2⟩
    rw [show (c - 1).toNat = c.toNat - 1 by omega] at p1
    have eD : H2 D = some (.dK (kv (nums c))) := p1
    clear p1 hD
    have fin : ∀ (H3 : Hp) (r : Addr) (x : Str) (v : V), Same H2 H3 → H3 r = none → (x, v) = ttP c t → Q (.ref r) (upd H3 r (.tup [.str x, v])) := fun H3 r x v s3 nr e => by
      refine q _ r ((p2.trans s3).trans (same_upd nr)) ((p2.trans s3).free nr) ?_
      rw [← e]
      exact upd_same
    refine ⟨_, rfl, _, rfl, D, _, rfl, .inl ⟨kv (nums c), Sum.inr t, .inl eD, rfl, rfl⟩, ?_⟩
    refine ⟨_, rfl, ?_⟩
    cases eh : has (nums c) t with
    | true =>
      rw [valV_yes eh]
      refine iteT ?_
      refine ⟨_, rfl, _, rfl, D, .int (num (nums c) t), rfl, .inl ⟨kv (nums c), Sum.inr t, .inl eD, rfl, (valV_yes eh).symm⟩, by show 2 ≤ sizeLine; omega, fun r nr => ?_⟩
      exact fin H2 r _ _ (Same.refl _) nr (by unfold ttP; rw [if_pos eh])
    | false =>
      rw [(valV_no eh).1]
      refine iteF ?_
      have hneg : ¬ has (nums c) t = true := by rw [eh]; exact Bool.false_ne_true
      refine ⟨_, rfl, ⟨_, rfl⟩, t, L2.blkS, rfl, rfl, by decide, by omega, fun p np => ?_⟩
      have hb := (rpart_b t).1
      have ett : ttP c t = if (rpartS t blkS).2.2 = "" ∨ (rpartS t blkS).1 = "1" then ((rpartS t blkS).2.2, .non) else
          ((rpartS t blkS).2.2, if (rpartS t blkS).2.1 = Str.empty then .int 1 else if has (nums c) (rpartS t blkS).1 = true then .int (num (nums c) (rpartS t blkS).1) else .non) := by
        unfold ttP
        rw [if_neg hneg]
      rw [ett] at fin
      clear ett
      generalize rpartS t L2.blkS = r3 at hb fin ⊢
      obtain ⟨st, bk, wd⟩ := r3
      have sp := same_upd (o := .tup [.str st, .str bk, .str wd]) np
      have eDp := sp _ _ eD
      refine ⟨p, _, rfl, .inl (.inl upd_same), rfl, ?_⟩
      refine ⟨_, _, rfl, _, _, rfl, _, _, rfl, rfl, ?_⟩
      refine ⟨_, rfl, rfl, _, rfl, ite2 (fun z => ?_) (fun z => ?_)⟩
      · have z' : wd = "" := by
          have := of_decide_eq_true z
          injection this
        refine ⟨_, rfl, by show 2 ≤ sizeLine; omega, fun r nr => ?_⟩
        exact fin _ r _ _ sp nr (by rw [if_pos (.inl z')])
      · have z' : ¬ wd = "" := fun e => z (decide_eq_true (congrArg V.str e))
        refine ⟨_, rfl, rfl, _, rfl, ite2 (fun y => ?_) (fun y => ?_)⟩
        · have y' : st = "1" := by
            have := of_decide_eq_true y
            injection this
          refine ⟨_, rfl, by show 2 ≤ sizeLine; omega, fun r nr => ?_⟩
          exact fin _ r _ _ sp nr (by rw [if_pos (.inr y')])
        · have y' : ¬ st = "1" := fun e => y (decide_eq_true (congrArg V.str e))
          have eni : ¬ (wd = "" ∨ st = "1") := fun e => e.elim z' y'
          rcases hb with hb | hb
          · have hb' : bk = Str.empty := hb
            subst hb'
            refine ⟨_, rfl, _, rfl, false, ⟨Nat.zero_le _, rfl⟩, iteF ?_⟩
            refine ⟨by show 2 ≤ sizeLine; omega, fun r nr => ?_⟩
            exact fin _ r _ _ sp nr (by rw [if_neg eni, if_pos rfl])
          · have hb' : bk = L2.blkS := hb
            subst hb'
            have nbe : ¬ L2.blkS = Str.empty := by decide
            refine ⟨_, rfl, _, rfl, true, ⟨by show 1 ≤ sizeLine; omega, rfl⟩, iteT ?_⟩
            cases eg : has (nums c) st with
            | true =>
              refine ⟨_, rfl, D, rfl, .inl ⟨_, .inl eDp⟩, _, rfl, some (.int (num (nums c) st)), .inl ⟨kv (nums c), Sum.inr st, .inl eDp, rfl, (valV_yes eg).symm⟩, by show 2 ≤ sizeLine; omega, fun r nr => ?_⟩
              exact fin _ r _ _ sp nr (by rw [if_neg eni, if_neg nbe, if_pos eg]; rfl)
            | false =>
              refine ⟨_, rfl, D, rfl, .inl ⟨_, .inl eDp⟩, _, rfl, none, .inl ⟨kv (nums c), Sum.inr st, .inl eDp, rfl, (valV_no eg).1.symm⟩, by show 2 ≤ sizeLine; omega, fun r nr => ?_⟩
              exact fin _ r _ _ sp nr (by rw [if_neg eni, if_neg nbe, if_neg (by rw [eg]; exact Bool.false_ne_true)]; rfl)
end
end Fp

set_option Elab.async false
set_option linter.all false
set_option maxRecDepth 100000
set_option maxHeartbeats 4000000
namespace Fp
open PySem PySem.Spec PyProof.Rows L2
/-! ### the order of words: total, no two alike -/
theorem leR_total : PySem.W.TotalLe leR := PySem.W.sortLe_total (listOrd itemOrd) false fun b => PySem.W.keyToks (rk b)
theorem rk_inj {a b : Str} (h : PySem.W.keyToks (rk a) = PySem.W.keyToks (rk b)) : a = b := by
  unfold rk at h
  simp only [PySem.W.keyToks, PySem.W.keyToksAll] at h
  have : a.cps.toList = b.cps.toList := by simp at h; rw [h.2]
  exact PySem.W.str_of_cps this
theorem leR_anti {a b : Str} (h1 : leR a b = true) (h2 : leR b a = true) : a = b := by
  have e1 : PySem.W.dataLt (rk b) (rk a) = false := by
    have : (!PySem.W.dataLt (rk b) (rk a)) = true := h1
    simpa using this
  have e2 : PySem.W.dataLt (rk a) (rk b) = false := by
    have : (!PySem.W.dataLt (rk a) (rk b)) = true := h2
    simpa using this
  exact rk_inj ((listOrd itemOrd).total _ _ e2 e1)
theorem ord_perm {l m : List Str} (h : l.Perm m) : l.mergeSort leR = m.mergeSort leR :=
  List.Perm.eq_of_pairwise (le := fun a b => leR a b = true) (fun a b _ _ h1 h2 => leR_anti h1 h2) (PySem.W.sort_pairwise leR_total l) (PySem.W.sort_pairwise leR_total m)
    (((List.mergeSort_perm l leR).trans h).trans (List.mergeSort_perm m leR).symm)
/-! ### tables in order -/
theorem num_find {l : Tb} (h : Nd l) {p : Str × Int} (hp : p ∈ l) : num l p.1 = p.2 := by
  obtain ⟨i, hi, e⟩ := List.mem_iff_getElem.mp hp
  exact num_of h (i := i) (by rw [List.getElem?_eq_getElem hi, e])
theorem num_not {l : Tb} {x : Str} (h : x ∉ l.map (·.1)) : num l x = 0 := by
  refine (valV_no ?_).2
  cases e : has l x with
  | false => rfl
  | true => exact absurd (has_iff.mp e) h
theorem canon_keys (l : Tb) : (canon l).map (·.1) = ordW l := by
  unfold canon
  rw [List.map_map]
  exact List.map_id' _
theorem canon_nd {l : Tb} (h : Nd l) : Nd (canon l) := by
  unfold Nd
  rw [canon_keys]
  exact (List.mergeSort_perm _ _).nodup_iff.mpr h
theorem canon_mem {l : Tb} {p : Str × Int} (h : p ∈ canon l) : p.1 ∈ l.map (·.1) ∧ p.2 = num l p.1 := by
  unfold canon at h
  obtain ⟨x, hx, rfl⟩ := List.mem_map.mp h
  exact ⟨ordW_mem.mp hx, rfl⟩
theorem canon_num {l : Tb} (h : Nd l) (x : Str) : num (canon l) x = num l x := by
  by_cases hx : x ∈ l.map (·.1)
  · have hm : (x, num l x) ∈ canon l := by
      unfold canon
      exact List.mem_map.mpr ⟨x, ordW_mem.mpr hx, rfl⟩
    exact num_find (canon_nd h) hm
  · rw [num_not hx, num_not]
    rw [canon_keys]
    exact fun z => hx (ordW_mem.mp z)
/-- the same words with the same numbers: the same in order -/
theorem canon_eq {l m : Tb} (hl : Nd l) (hm : Nd m) (hk : ∀ x, x ∈ l.map (·.1) ↔ x ∈ m.map (·.1)) (hn : ∀ x, num l x = num m x) : canon l = canon m := by
  have e : ordW l = ordW m := ord_perm ((List.perm_ext_iff_of_nodup hl hm).mpr hk)
  unfold canon
  rw [e]
  exact List.map_congr_left fun x _ => by rw [hn x]
theorem canon_canon {l : Tb} (h : Nd l) : canon (canon l) = canon l :=
  canon_eq (canon_nd h) h (fun x => by rw [canon_keys]; exact ordW_mem) (canon_num h)
theorem vt_canon {c : Int} {m k : Nat} {l : Tb} (h : VT c m k l) : VT c m k (canon l) := by
  have key : ∀ p ∈ canon l, p ∈ l := fun p hp => by
    obtain ⟨h1, h2⟩ := canon_mem hp
    obtain ⟨q, hq, e⟩ := List.mem_map.mp h1
    have := num_find h.nd hq
    have : p = q := by
      obtain ⟨a, b⟩ := p
      obtain ⟨a', b'⟩ := q
      simp only at e h2 this
      subst e
      rw [h2, this]
    rw [this]
    exact hq
  refine ⟨canon_nd h.nd, fun p hp => h.nu p (key p hp), fun p hp => h.wd p (key p hp), ?_⟩
  have : (canon l).length = l.length := by
    unfold canon
    rw [List.length_map, ordW_len]
  rw [this]
  exact h.ln
/-- a number changed: not the same -/
theorem canon_ne {l m : Tb} (hl : Nd l) (hm : Nd m) {x : Str} (h : num l x ≠ num m x) : canon l ≠ canon m := fun e => h (by rw [← canon_num hl, ← canon_num hm, e])
theorem num_put {l : Tb} (x : Str) (n : Int) : num (putT l x n) x = n := by
  unfold putT
  cases e : has l x with
  | true =>
    rw [if_pos rfl]
    unfold num
    have : ∀ r : Tb, has r x = true → ((r.map fun p => if p.1 = x then (p.1, n) else p).find? fun p => decide (p.1 = x)).map (·.2) = some n := by
      intro r
      induction r with
      | nil => intro h; cases h
      | cons p r ih =>
        intro h
        by_cases hp : p.1 = x
        · rw [List.map_cons, if_pos hp, List.find?_cons_of_pos (by simpa using hp)]
          rfl
        · rw [List.map_cons, if_neg hp, List.find?_cons_of_neg (by simpa using hp)]
          refine ih ?_
          unfold has at h ⊢
          rw [List.any_cons] at h
          simpa [hp] using h
    rw [this l e]
    rfl
  | false =>
    rw [if_neg Bool.false_ne_true]
    unfold num
    rw [List.find?_append]
    have : l.find? (fun p => decide (p.1 = x)) = none := by
      rw [has_find] at e
      cases z : l.find? fun p => decide (p.1 = x) with
      | none => rfl
      | some p => rw [z] at e; cases e
    rw [this]
    simp
theorem num_drop {l : Tb} (x : Str) : num (dropT l x) x = 0 := by
  refine num_not fun h => ?_
  obtain ⟨p, hp, e⟩ := List.mem_map.mp h
  have := (List.mem_filter.mp hp).2
  simp [e] at this
theorem num_putM (c : Int) (l : Tb) (x : Str) (n : Int) : num (putM c l x n) x = (num l x + n) % c := by
  unfold putM
  split
  · rename_i h
    rw [num_drop, h]
  · exact num_put x _
theorem num_range {c : Int} {m k : Nat} {l : Tb} (hc : 0 < c) (h : VT c m k l) (x : Str) : 0 ≤ num l x ∧ num l x < c := by
  by_cases hx : x ∈ l.map (·.1)
  · obtain ⟨p, hp, rfl⟩ := List.mem_map.mp hx
    rw [num_find h.nd hp]
    have := h.nu p hp
    omega
  · rw [num_not hx]
    omega
/-- words put in backward -/
theorem puts_new : ∀ (xs : List Str) (f : Str → Int) (a : Tb), (a.map (·.1) ++ xs).Nodup → xs.foldl (fun a x => putT a x (f x)) a = a ++ xs.map fun x => (x, f x)
  | [], f, a, _ => by simp
  | x :: r, f, a, h => by
    have h1 : x ∉ a.map (·.1) := fun z => by
      have := (List.nodup_append.mp h).2.2 x z x List.mem_cons_self
      exact this rfl
    have e : putT a x (f x) = a ++ [(x, f x)] := by
      unfold putT
      have : has a x = false := by
        cases z : has a x with
        | false => rfl
        | true => exact absurd (has_iff.mp z) h1
      rw [this, if_neg Bool.false_ne_true]
    rw [List.foldl_cons, e, puts_new r f _ (by rw [List.map_append, List.append_assoc]; exact h), List.map_cons, List.append_assoc]
    rfl
def backT (l : Tb) : Tb := (ordW l).reverse.map fun x => (x, num l x)
theorem backT_keys (l : Tb) : (backT l).map (·.1) = (ordW l).reverse := by
  unfold backT
  rw [List.map_map]
  exact List.map_id' _
theorem ordW_nd {l : Tb} (h : Nd l) : (ordW l).Nodup := (List.mergeSort_perm _ _).nodup_iff.mpr h
theorem backT_nd {l : Tb} (h : Nd l) : Nd (backT l) := by
  unfold Nd
  rw [backT_keys]
  exact (List.reverse_perm _).nodup_iff.mpr (ordW_nd h)
theorem backT_num {l : Tb} (h : Nd l) (x : Str) : num (backT l) x = num l x := by
  by_cases hx : x ∈ l.map (·.1)
  · have hm : (x, num l x) ∈ backT l := by
      unfold backT
      exact List.mem_map.mpr ⟨x, List.mem_reverse.mpr (ordW_mem.mpr hx), rfl⟩
    exact num_find (backT_nd h) hm
  · rw [num_not hx, num_not]
    rw [backT_keys]
    exact fun z => hx (ordW_mem.mp (List.mem_reverse.mp z))
theorem backT_canon {l : Tb} (h : Nd l) : canon (backT l) = canon l :=
  canon_eq (backT_nd h) h (fun x => by rw [backT_keys, List.mem_reverse]; exact ordW_mem) (backT_num h)
theorem vt_back {c : Int} {m k : Nat} {l : Tb} (h : VT c m k l) : VT c m k (backT l) := by
  have key : ∀ p ∈ backT l, p ∈ l := fun p hp => by
    unfold backT at hp
    obtain ⟨x, hx, rfl⟩ := List.mem_map.mp hp
    obtain ⟨q, hq, e⟩ := List.mem_map.mp (ordW_mem.mp (List.mem_reverse.mp hx))
    have := num_find h.nd hq
    obtain ⟨a, b⟩ := q
    simp only at e this
    subst e
    rw [this]
    exact hq
  refine ⟨backT_nd h.nd, fun p hp => h.nu p (key p hp), fun p hp => h.wd p (key p hp), ?_⟩
  unfold backT
  rw [List.length_map, List.length_reverse, ordW_len]
  exact h.ln
end Fp

set_option Elab.async false
set_option linter.all false
set_option maxRecDepth 100000
set_option maxHeartbeats 2000000
/-! x.strip(z) is not empty where a sign of x is none of z -/
namespace L2
open PySem PySem.Spec PyProof.Rows
theorem tw_ltS {g : Nat → Bool} : ∀ {l : List Nat}, (∃ c ∈ l, g c = false) → (l.takeWhile g).length < l.length
  | [], ⟨_, h, _⟩ => by cases h
  | a :: r, ⟨c, h, e⟩ => by
    rw [List.takeWhile_cons]
    cases ha : g a with
    | false => exact Nat.succ_pos _
    | true =>
      have : ∃ c ∈ r, g c = false := by
        rcases List.mem_cons.mp h with rfl | h
        · rw [ha] at e
          cases e
        · exact ⟨c, h, e⟩
      have := tw_ltS this
      show (r.takeWhile g).length + 1 < r.length + 1
      omega
theorem drop_badS {g : Nat → Bool} : ∀ {l : List Nat}, (∃ c ∈ l, g c = false) → ∃ c ∈ l.drop (l.takeWhile g).length, g c = false
  | [], ⟨_, h, _⟩ => by cases h
  | a :: r, ⟨c, h, e⟩ => by
    rw [List.takeWhile_cons]
    cases ha : g a with
    | false => exact ⟨c, h, e⟩
    | true =>
      have : ∃ c ∈ r, g c = false := by
        rcases List.mem_cons.mp h with rfl | h
        · rw [ha] at e
          cases e
        · exact ⟨c, h, e⟩
      exact drop_badS this
theorem strip_bad {w z : Str} (hex : ∃ c ∈ w.cps.toList, z.cps.contains c = false) : PySem.Txt.stripChars w z ≠ (Str.ofString "") := by
  have h1 := tw_ltS hex
  have h2 := tw_ltS (g := z.cps.contains) (l := (w.cps.toList.drop (w.cps.toList.takeWhile z.cps.contains).length).reverse) (by
    obtain ⟨c, hc, e⟩ := drop_badS hex
    exact ⟨c, List.mem_reverse.mpr hc, e⟩)
  rw [List.length_reverse, List.length_drop] at h2
  have hsz : w.length = w.cps.toList.length := by simp [Str.length]
  have hlo : stripLo z.cps.contains true w = (w.cps.toList.takeWhile z.cps.contains).length := by
    unfold stripLo
    rw [if_pos rfl]
  unfold PySem.Txt.stripChars PySem.Txt.stripBy
  cases e : stripSame z.cps.contains true true w with
  | true =>
    rw [if_pos rfl]
    intro e2
    rw [e2] at hex
    obtain ⟨c, hc, _⟩ := hex
    cases hc
  | false =>
    rw [if_neg Bool.false_ne_true]
    intro e2
    have e3 := congrArg (fun s : Str => s.cps.size) e2
    unfold stripped at e3
    rw [hlo] at e3
    unfold stripHi at e3
    rw [if_pos rfl] at e3
    unfold Builtin.Str.strSub at e3
    simp at e3
    have h3 : w.cps.size = w.cps.toList.length := by simp
    have h4 : w.length = w.cps.size := rfl
    have h5 : (Str.ofString "").cps.size = 0 := rfl
    simp at h1 h2
    omega
end L2

set_option Elab.async false
set_option linter.all false
set_option maxRecDepth 100000
set_option maxHeartbeats 4000000
/-! what is no word, no number, no table: are_words of any table that a text has left -/
namespace L2
open PySem PySem.Spec PyProof.Rows
theorem pe_alt {X : Cx} {e : Expr} {t1 t2 : TE} (h1 : PE X e t1) (h2 : PE X e t2) : PE X e (fun σ H Q => t1 σ H Q ∨ t2 σ H Q) := ⟨fun pins s σ H Q I h => h.elim (h1.run pins s σ H Q I) (h2.run pins s σ H Q I)⟩
end L2
namespace Fp
open PySem PySem.Spec PyProof.Rows L2
theorem strip_no {x : Str} (h : ¬ xyz x) : PySem.Txt.stripChars x "xyz" ≠ "" := by
  refine strip_bad ?_
  by_cases h2 : ∃ c ∈ x.cps.toList, ("xyz" : Str).cps.contains c = false
  · exact h2
  · refine absurd (fun c hc => ?_) h
    cases e : ("xyz" : Str).cps.contains c with
    | false => exact absurd ⟨c, hc, e⟩ h2
    | true =>
      have h3 : c ∈ ("xyz" : Str).cps := Array.contains_iff_mem.mp e
      have h4 : c ∈ ([120, 121, 122] : List Nat) := Array.mem_toList_iff.mpr h3
      simpa using h4
def kvp (ps : List (Str × V)) : List (Key × V) := ps.map fun p => ((Sum.inr p.1 : Key), p.2)
theorem kvp_len (ps : List (Str × V)) : (kvp ps).length = ps.length := List.length_map _
theorem kvp_keys (ps : List (Str × V)) : (kvp ps).map (·.1) = (ps.map (·.1)).map fun x => (Sum.inr x : Key) := by
  unfold kvp
  rw [List.map_map, List.map_map]
  rfl
theorem kvp_nd {ps : List (Str × V)} (h : (ps.map (·.1)).Nodup) : ((kvp ps).map (·.1)).Nodup := by
  rw [kvp_keys]
  exact List.pairwise_map.mpr (List.Pairwise.imp (fun {a b} (z : a ≠ b) e => z (Sum.inr.inj e)) h)
theorem valV_at : ∀ {kvs : List (Key × V)} {i : Nat} {k : Key} {v : V}, (kvs.map (·.1)).Nodup → kvs[i]? = some (k, v) → valV kvs k = some v
  | [], i, k, v, _, h => by simp at h
  | p :: r, 0, k, v, _, h => by
    cases Option.some.inj h
    exact valV_pos (p := (k, v)) rfl
  | p :: r, i + 1, k, v, hn, h => by
    obtain ⟨h1, h2⟩ := List.nodup_cons.mp (show (p.1 :: r.map (·.1)).Nodup from hn)
    have h3 : r[i]? = some (k, v) := h
    exact (valV_neg (p := p) fun z => h1 (by rw [z]; exact List.mem_map.mpr ⟨(k, v), List.mem_of_getElem? h3, rfl⟩)).trans (valV_at h2 h3)
theorem valV_not : ∀ {kvs : List (Key × V)} {k : Key}, k ∉ kvs.map (·.1) → valV kvs k = none
  | [], k, _ => rfl
  | p :: r, k, h => (valV_neg (p := p) fun z => h (List.mem_map.mpr ⟨p, List.mem_cons_self, z⟩)).trans (valV_not fun z => h (List.mem_cons_of_mem _ z))
theorem putK_not {kvs : List (Key × V)} {k : Key} {v : V} (h : k ∉ kvs.map (·.1)) : putK kvs k v = kvs ++ [(k, v)] := by
  unfold putK
  rw [if_neg]
  intro e
  obtain ⟨p, hp, hk⟩ := List.any_eq_true.mp e
  exact h (List.mem_map.mpr ⟨p, hp, by simpa using hk⟩)
section
variable {P : Program} {w : World} {K : PySem.W.Frag} {mg : Str → Option Value} {base : Heap}
def spWordG : Sp := fun vs H Q _ => ∃ x : Str, vs = [.str x] ∧ x.length ≤ 1000000 ∧ ∀ b : Bool, (b = true ↔ xyz x) → Q (.bl b) H
theorem ok_wordG (T : Top K mg) : Ok P w K mg base 1 "is_word" ["thing"] spWordG := by
  obtain ⟨fd, F⟩ := fn_is_word T
  obtain ⟨tk, hL⟩ := t_LETTERS T
  refine ⟨⟨fd, ?_, F.bindsN fun _ _ _ _ _ _ us hl => match us, hl with | [_], _ => rfl⟩, g_is_word T, F.kp⟩
  refine F.ok sc_is_word (fun vs H Q E h => ?_) (fun cdv A outer s H vs Q E hr h => ?_)
  · obtain ⟨i, rfl, _⟩ := h
    rfl
  · obtain ⟨x, rfl, hl, q⟩ := h
    have hs : sizeLine = 16777216 := sizeLine_eq
    refine ⟨_, PSs.nox (pss_one (ps_ret (pe_and (pe_callB call_isi (by rfl) (f_isinstance T) (by decide +kernel) (pa_cons (pv 0) (pa_cons (pe_bltn (v := .ty "str") (by rfl) (f_str T) (by decide +kernel) rfl) pa_nil)))
      (pe_one (pe_cmpR op_eq (pe_m1 PySem.F.slot_str_strip PySem.F.type_str_strip mt_stripChars (pv 0) (pe_glob (v := .str "xyz") rfl hL ⟨_, rfl⟩)) pe_str (nomark _)))))), ?_⟩
    refine ⟨_, rfl, .str x, _, _, _, true, rfl, .ty "str", .base (.str x), kit_ty (by decide +kernel), true, rfl, iteT ?_⟩
    refine ⟨_, rfl, ⟨x, rfl⟩, x, _, rfl, rfl, by omega, rfl, ?_⟩
    refine q _ ?_
    rw [decide_eq_true_eq]
    constructor
    · intro e
      by_cases hx : xyz x
      · exact hx
      · exact absurd (by injection e) (strip_no hx)
    · intro hx
      rw [strip_xyz hx]
def spShortG : Sp := fun vs H Q _ => ∃ x : Str, vs = [.str x] ∧ x.length ≤ 1000000 ∧ ∀ b : Bool, (b = true ↔ xyz x ∧ x.length ≤ 12) → Q (.bl b) H
theorem ok_shortG (T : Top K mg) : Ok P w K mg base 2 "is_short_word" ["thing"] spShortG := by
  obtain ⟨fd, F⟩ := fn_is_short_word T
  obtain ⟨tk, hL⟩ := i_MOST_LETTERS T
  refine ⟨⟨fd, ?_, F.bindsN fun _ _ _ _ _ _ us hl => match us, hl with | [_], _ => rfl⟩, g_is_short_word T, F.kp⟩
  refine F.ok sc_is_short_word (fun vs H Q E h => ?_) (fun cdv A outer s H vs Q E hr h => ?_)
  · obtain ⟨i, rfl, _⟩ := h
    rfl
  · obtain ⟨x, rfl, hl, q⟩ := h
    have hs : sizeLine = 16777216 := sizeLine_eq
    refine ⟨_, PSs.nox (pss_one (ps_ret (pe_and (pc (ok_wordG T) hr (pa_cons (pv 0) pa_nil)) (pe_one (pe_cmpR op_le (pe_callB call_len_str (by rfl) (f_len T) PySem.boot_len (pa_cons (pv 0) pa_nil)) (pe_glob (v := .int 12) rfl hL ⟨_, rfl⟩) (nomark _)))))), ?_⟩
    refine ⟨_, rfl, x, rfl, hl, fun b hb => ⟨b, rfl, ?_⟩⟩
    cases b with
    | false =>
      refine iteF (q false ?_)
      constructor
      · intro z
        cases z
      · rintro ⟨z, _⟩
        exact hb.mpr z
    | true =>
      refine iteT ?_
      refine ⟨_, rfl, x, rfl, by omega, _, _, rfl, rfl, ?_⟩
      refine q _ ?_
      rw [decide_eq_true_eq]
      constructor
      · intro z
        exact ⟨hb.mp rfl, by omega⟩
      · rintro ⟨_, z⟩
        omega
def spNoInt : Sp := fun vs H Q _ => vs = [.non] ∧ Q (.bl false) H
theorem ok_int_no (T : Top K mg) : Ok P w K mg base 1 "is_integer" ["thing"] spNoInt := by
  obtain ⟨fd, F⟩ := fn_is_integer T
  refine ⟨⟨fd, ?_, F.bindsN fun _ _ _ _ _ _ us hl => match us, hl with | [_], _ => rfl⟩, g_is_integer T, F.kp⟩
  refine F.ok sc_is_integer (fun vs H Q E h => ?_) (fun cdv A outer s H vs Q E hr h => ?_)
  · obtain ⟨rfl, _⟩ := h
    rfl
  · obtain ⟨rfl, q⟩ := h
    refine ⟨_, PSs.nox (pss_one (ps_ret (pe_and (pe_callB call_isi (by rfl) (f_isinstance T) (by decide +kernel) (pa_cons (pv 0) (pa_cons (pe_bltn (v := .ty "int") (by rfl) (f_int T) boot_int rfl) pa_nil)))
      (pe_one (pe_not (pe_callB call_isi (by rfl) (f_isinstance T) (by decide +kernel) (pa_cons (pv 0) (pa_cons (pe_bltn (v := .ty "bool") (by rfl) (f_bool T) (by decide +kernel) rfl) pa_nil)))))))), ?_⟩
    exact ⟨_, rfl, .non, _, _, _, false, rfl, .ty "int", .base .non, kit_ty (by decide +kernel), false, rfl, iteF q⟩
def spNoFT : Sp := fun vs H Q _ => ∃ lo hi : Int, vs = [.non, .int lo, .int hi] ∧ Q (.bl false) H
theorem ok_ft_no (T : Top K mg) : Ok P w K mg base 2 "is_from_to" ["thing", "low", "high"] spNoFT := by
  obtain ⟨fd, F⟩ := fn_is_from_to T
  refine ⟨⟨fd, ?_, F.bindsN fun _ _ _ _ _ _ us hl => match us, hl with | [_, _, _], _ => rfl⟩, g_is_from_to T, F.kp⟩
  refine F.ok sc_is_from_to (fun vs H Q E h => ?_) (fun cdv A outer s H vs Q E hr h => ?_)
  · obtain ⟨lo, hi, rfl, _⟩ := h
    rfl
  · obtain ⟨lo, hi, rfl, q⟩ := h
    refine ⟨_, PSs.nox (pss_one (ps_ret (pe_and (pc (ok_int_no T) hr (pa_cons (pv 0) pa_nil)) (pe_one (pe_chain op_le op_le (pv 1) (pv 0) (pv 2)))))), ?_⟩
    exact ⟨_, rfl, rfl, false, rfl, iteF q⟩
def spAreG : Sp := fun vs H Q _ => ∃ (c : Int) (d : Addr) (ps : List (Str × V)), vs = [.int c, .ref d] ∧ H d = some (.dK (kvp ps)) ∧ (ps.map (·.1)).Nodup ∧ (∀ p ∈ ps, p.1.length ≤ 1000000 ∧ ((∃ n, p.2 = .int n) ∨ p.2 = .non)) ∧ ∀ H' b, Same H H' → (b = true ↔ ps.length ≤ 300 ∧ ∀ p ∈ ps, Good c p) → Q (.bl b) H'
theorem ok_areG (T : Top K mg) : Ok P w K mg base 4 "are_words" ["clock", "thing"] spAreG := by
  obtain ⟨fd, F⟩ := fn_are_words T
  obtain ⟨tk, hL⟩ := i_MOST_WORDS T
  refine ⟨⟨fd, ?_, F.bindsN fun _ _ _ _ _ _ us hl => match us, hl with | [_, _], _ => rfl⟩, g_are_words T, F.kp⟩
  refine F.ok sc_are_words (fun vs H Q E h => ?_) (fun cdv A outer s H vs Q E hr h => ?_)
  · obtain ⟨c, d, l, rfl, _⟩ := h
    rfl
  · obtain ⟨c, d, ps, rfl, hd, hnd, hv, q⟩ := h
    have hu := hu_of hr
    have nd := sc_are_words.nd
    have hr2 : Room 2 _ := hr.mono (by decide)
    have hs : sizeLine = 16777216 := sizeLine_eq
    refine ⟨_, PSs.nox (pss_cons (ps_if (PW.pt (pw_or (pt_not (pt_val (pe_callB call_isi (by rfl) (f_isinstance T) (by decide +kernel) (pa_cons (pv 1) (pa_cons (pe_bltn (v := .ty "dict") (by rfl) (f_dict T) (by decide +kernel) rfl) pa_nil)))))
        (pw_or1 (pt_cmpR op_gt (pe_callB call_lenD (by rfl) (f_len T) PySem.boot_len (pa_cons (pv 1) pa_nil)) (pe_glob (v := .int 300) rfl hL ⟨_, rfl⟩) (nomark _))))) (pss_one (ps_ret pe_bl)) pss_nil)
      (pss_one (ps_ret (pe_callB (cr_all rfl) (by rfl) (f_all T) (by decide +kernel) (pa_cons (pe_lock (pe_lc (own := [("word", 2)]) (g := gName 2) (tt := tYes) rfl nd (pi_keys (pv 1)) (blkOk_by (N := nAreWords) (sc := defScope s_are_words) (by decide +kernel))
        (fun _ _ _ _ _ => pg_name (i := 2) nd rfl (Or.inl rfl)) (fun _ _ _ _ _ => pts_nil)
        (fun _ _ _ _ _ => pe_and (pc (ok_shortG T) hr2 (pa_cons (pv 2) pa_nil)) (pe_one (pe_alt (pc (ok_is_from_to T) hr2 (pa_cons (pe_dget hu (pv 1) (pv 2) (fun _ _ => rfl)) (pa_cons pe_int (pa_cons (pe_op op_sub (pv 0) pe_int) pa_nil))))
          (pc (ok_ft_no T) hr2 (pa_cons (pe_dget hu (pv 1) (pv 2) (fun _ _ => rfl)) (pa_cons pe_int (pa_cons (pe_op op_sub (pv 0) pe_int) pa_nil))))))))) pa_nil))))), ?_⟩
    refine ⟨_, rfl, .ref d, _, _, _, true, rfl, .ty "dict", .base (.dK hd), kit_ty (by decide +kernel), true, rfl, iteF ?_⟩
    refine ⟨_, rfl, d, _, rfl, hd, _, _, rfl, rfl, _, rfl, ?_⟩
    rw [kvp_len]
    refine ite2 (fun hgt => ?_) (fun hgt => ?_)
    · refine q H false (Same.refl H) ⟨fun z => (nomatch z), fun z => ?_⟩
      have := of_decide_eq_true hgt
      omega
    have hln : ps.length ≤ 300 := by
      by_cases h : ps.length ≤ 300
      · exact h
      · exact (hgt (decide_eq_true (by omega))).elim
    refine ⟨d, _, hd, trivial, fun od => ?_⟩
    refine ⟨_, rfl, d, od, rfl, .inl ⟨kvp ps, upd_same, fun D hD => ?_⟩⟩
    have nD : D ≠ d := fun e => by
      rw [e, upd_same] at hD
      cases hD
    refine lc_it walk_keys (fun i H' => (∃ bs : List Bool, H' D = some (.lst (bs.map V.bl)) ∧ bs.length = i ∧ (bs.all id = true ↔ ∀ p ∈ ps.take i, Good c p)) ∧ But d H H' ∧ H' d = some (.frz od (.dK (kvp ps)))) ⟨⟨[], upd_same, rfl, by simp⟩, ?_, ?_⟩ (fun i H' _ hP => hP.2.2) ?_ ?_
    · intro b o e n
      have nb : b ≠ D := by
        rintro rfl
        rw [upd_ne n, e] at hD
        cases hD
      rw [upd_ne nb, upd_ne n]
      exact e
    · rw [upd_ne nD.symm]
      exact upd_same
    · rintro i x H1 H2 hi ⟨⟨bs, p1, p1l, p1b⟩, p2, p3⟩ ⟨rfl, k, v, e, rfl⟩
      rw [kvp_len] at hi
      have ev := valV_at (kvp_nd hnd) e
      have e' : (kvp ps)[i]? = some ((Sum.inr ps[i].1 : Key), ps[i].2) := by
        unfold kvp
        rw [List.getElem?_map, List.getElem?_eq_getElem hi]
        rfl
      rw [e'] at e
      have e2 := Option.some.inj e
      injection e2 with ek evv
      subst ek evv
      obtain ⟨a1, a2⟩ := hv ps[i] (List.getElem_mem hi)
      have fin : ∀ b : Bool, (b = true ↔ Good c ps[i]) → ∃ acc, H2 D = some (.lst acc) ∧ acc.length < sizeLine ∧ ((∃ bs : List Bool, (upd H2 D (.lst (acc ++ [V.bl b]))) D = some (.lst (bs.map V.bl)) ∧ bs.length = i + 1 ∧ (bs.all id = true ↔ ∀ p ∈ ps.take (i + 1), Good c p)) ∧ But d H (upd H2 D (.lst (acc ++ [V.bl b]))) ∧ (upd H2 D (.lst (acc ++ [V.bl b]))) d = some (.frz od (.dK (kvp ps)))) := fun b hb => by
        refine ⟨_, p1, by rw [List.length_map]; omega, ⟨bs ++ [b], ?_, ?_, ?_⟩, fun b' o z n => ?_, ?_⟩
        · rw [upd_same, List.map_append]
          rfl
        · rw [List.length_append, p1l]
          rfl
        · rw [List.all_append, List.take_add_one, List.getElem?_eq_getElem hi, Bool.and_eq_true, p1b]
          constructor
          · rintro ⟨g1, g2⟩ p hp
            rcases List.mem_append.mp hp with hp | hp
            · exact g1 p hp
            · have : p = ps[i] := by simpa using hp
              rw [this]
              exact hb.mp (by simpa using g2)
          · intro g
            refine ⟨fun p hp => g p (List.mem_append.mpr (.inl hp)), ?_⟩
            have := hb.mpr (g _ (List.mem_append.mpr (.inr (by simp))))
            simpa using this
        · have nb : b' ≠ D := by
            rintro rfl
            rw [upd_ne n, z] at hD
            cases hD
          rw [upd_ne nb]
          exact p2 b' o z n
        · rw [upd_ne nD.symm]
          exact p3
      unfold Good at fin
      generalize ps[i] = p at a1 a2 fin ev
      refine ⟨rfl, ?_⟩
      refine ⟨_, rfl, p.1, rfl, a1, fun b hb => ⟨b, rfl, ?_⟩⟩
      cases b with
      | false =>
        refine iteF (fin false ⟨fun z => (nomatch z), fun z => hb.mpr ⟨z.1, z.2.1⟩⟩)
      | true =>
        have hb' := hb.mp rfl
        refine iteT ?_
        rcases a2 with ⟨n, en⟩ | en
        · rw [en] at ev fin
          refine .inl ⟨_, rfl, _, rfl, d, .int n, rfl, .inl ⟨kvp ps, Sum.inr p.1, .inr ⟨od, p3⟩, rfl, ev.symm⟩, _, rfl, _, _, rfl, rfl, n, 1, c - 1, rfl, ?_⟩
          refine fin _ ?_
          rw [Bool.and_eq_true, decide_eq_true_eq, decide_eq_true_eq]
          exact ⟨fun z => ⟨hb'.1, hb'.2, n, rfl, z.1, by omega⟩, fun z => by
            obtain ⟨_, _, n', e', z1, z2⟩ := z
            injection e' with e'
            subst e'
            exact ⟨z1, by omega⟩⟩
        · rw [en] at ev fin
          refine .inr ⟨_, rfl, _, rfl, d, .non, rfl, .inl ⟨kvp ps, Sum.inr p.1, .inr ⟨od, p3⟩, rfl, ev.symm⟩, _, rfl, _, _, rfl, rfl, 1, c - 1, rfl, ?_⟩
          refine fin false ⟨fun z => (nomatch z), fun z => ?_⟩
          obtain ⟨_, _, n', e', _⟩ := z
          cases e'
    · rintro H' ⟨⟨bs, p1, p1l, p1b⟩, p2, p3⟩
      rw [kvp_len, List.take_length] at p1b
      refine ⟨p3, D, bs, rfl, .inl (.inl ?_), ?_⟩
      · rw [upd_ne nD]
        exact p1
      · refine q _ _ (fun b o e => ?_) ⟨fun z => ⟨hln, p1b.mp z⟩, fun z => p1b.mpr z.2⟩
        by_cases n : b = d
        · rw [n, upd_same, ← hd, ← n, e]
        · rw [upd_ne n]
          exact p2 b o e n
end
end Fp

set_option Elab.async false
set_option linter.all false
set_option maxRecDepth 100000
set_option maxHeartbeats 4000000
namespace Fp
open PySem PySem.Spec PyProof.Rows L2
/-! ### defs that may raise -/
structure OkX (P : Program) (w : World) (K : PySem.W.Frag) (mg : Str → Option Value) (base : Heap) (k : Nat) (x : Str) (ps : List Str) (sp : Sp) : Prop where
  ex : ∃ fd, FnOk P w K mg base (L2.CX P w) k (He.ga K x) fd ps sp ∧ Binds K fd ps []
  g : mg x = some (.ref (He.ga K x))
  kp : PySem.W.keepIn K (.ref (He.ga K x)) = true
/-- called where it doesn't raise -/
theorem pcL {X : Cx} {x : Str} {p pos : Pos} {e : Expr} {es : List Expr} {t : TA} {k : Nat} {ps : List Str} {sp : Sp} (G : OkX X.prog X.w X.K X.mg X.base k x ps sp) (hr : Room k X.A) (ha : PA X (e :: es) t) (hg : Gl X x := by rfl) (hdb : (x == ("__debug__" : Str)) = false := by decide)
    (he : starEach (e :: es) X.env = (false, eval e X.env) :: starEach es X.env := by rfl) (hpl : (backTo pos (starEach es X.env)).any (·.1) = false := by rfl) : PE X (.Call (.Name x p) (e :: es) [] pos) (tCall sp [] E0 t) := by
  obtain ⟨fd, F, b⟩ := G.ex
  exact pe_call F hr hg G.g G.kp b .nil passL ha hdb he hpl
/-- called where it may -/
theorem pcX {X : Cx} {W : WX} (tk : Takes X W) {x : Str} {p pos : Pos} {e : Expr} {es : List Expr} {t : TA} {k : Nat} {ps : List Str} {sp : Sp} (G : OkX X.prog X.w X.K X.mg X.base k x ps sp) (hr : Room k X.A) (ha : PA X (e :: es) t) (hg : Gl X x := by rfl) (hdb : (x == ("__debug__" : Str)) = false := by decide)
    (he : starEach (e :: es) X.env = (false, eval e X.env) :: starEach es X.env := by rfl) (hpl : (backTo pos (starEach es X.env)).any (·.1) = false := by rfl) : PE X (.Call (.Name x p) (e :: es) [] pos) (tCallS sp (fun σ => WE W σ) t) := by
  obtain ⟨fd, F, b⟩ := G.ex
  exact pe_callS F hr hg G.g G.kp b (fun σ => passAt tk σ) ha hdb he hpl
theorem takesF {X : Cx} : L2.Takes X (fun _ _ _ _ => False) := fun _ _ x => by
  obtain ⟨_, _, _, _, _, _, _, _, _, _, _, _, _, _, _, _, z⟩ := x
  exact z.elim
/-- a field's class with an __init__ of its own -/
def spIni (K : PySem.W.Frag) (f : Str) : Sp := fun vs H Q _ => ∃ (a C : Addr) (y : V), vs = [.ref a, y] ∧ OexC K C ∧ PySem.W.findIn K (.ref C) f = some none ∧ H a = some (exo a C none) ∧ ∀ dx, H dx = none → dx ≠ a → Q .non (upd (upd H dx (exd dx [(f, y)])) a (exo a C (some dx)))
/-- what stood stays behind a raise -/
theorem mk_same {H : Hp} {a dx : Addr} {o u v z : HO} (h1 : H a = none) (h2 : H dx = none) : Same H (upd (L2.del (upd (upd (upd H a o) dx u) a v) a) dx z) := fun b w e => by
  have n1 : b ≠ a := fun q => by rw [q, h1] at e; cases e
  have n2 : b ≠ dx := fun q => by rw [q, h2] at e; cases e
  rw [upd_ne n2, L2.del_ne n1, upd_ne n1, upd_ne n2, upd_ne n1]
  exact e
end Fp

set_option Elab.async false
set_option linter.all false
set_option maxRecDepth 100000
set_option maxHeartbeats 4000000
/-! told_bag of any text -/
namespace Fp
open PySem PySem.Spec PyProof.Rows L2
def PSt (c : Int) (t : Str) : List (Str × V) := (Txt.split t plusS).map (ttP c)
def asV (p : Str × Int) : Str × V := (p.1, .int p.2)
/-- a text is read as this table -/
def Reads (c : Int) (t : Str) (l : Tb) : Prop := (t = "0" ∧ l = []) ∨ (t ≠ "0" ∧ PSt c t = l.map asV ∧ VT c 12 300 l)
theorem ttP_len {c : Int} {t : Str} : (ttP c t).1.length ≤ t.length := by
  have h3 : (rpartS t blkS).2.2.length ≤ t.length := by
    have ey : TL.tl blkS = [32] := by decide
    have hs := (split_any t (y := blkS) (by rw [ey]; simp) (by decide +kernel)).2.2
    obtain ⟨init, w, e, _, ⟨_, _, e2⟩ | ⟨_, e2, _⟩⟩ := rpart_signs t
    · rw [e2]
      exact hs w (by rw [e]; simp)
    · rw [e2]
      exact hs w (by rw [e]; simp)
  unfold ttP
  split
  · exact Nat.zero_le _
  · split
    · exact h3
    · exact h3
theorem asV_keys (l : Tb) : (l.map asV).map (·.1) = l.map (·.1) := by
  rw [List.map_map]
  rfl
theorem kvp_as (l : Tb) : kvp (l.map asV) = kv l := by
  unfold kvp kv
  rw [List.map_map]
  rfl
def toI (p : Str × V) : Str × Int := (p.1, match p.2 with | .int n => n | _ => 0)
theorem good_as {c : Int} {ps : List (Str × V)} (h : ∀ p ∈ ps, Good c p) : ps = (ps.map toI).map asV := by
  rw [List.map_map]
  conv => lhs; rw [← List.map_id ps]
  refine List.map_congr_left fun p hp => ?_
  obtain ⟨_, _, n, e, _⟩ := h p hp
  obtain ⟨x, v⟩ := p
  simp only at e
  subst e
  rfl
theorem good_vt {c : Int} {ps : List (Str × V)} (h : ∀ p ∈ ps, Good c p) (hn : (ps.map (·.1)).Nodup) (hl : ps.length ≤ 300) : VT c 12 300 (ps.map toI) := by
  refine ⟨?_, fun q hq => ?_, fun q hq => ?_, by rw [List.length_map]; exact hl⟩
  · show ((ps.map toI).map (·.1)).Nodup
    rw [List.map_map]
    exact hn
  · obtain ⟨p, hp, rfl⟩ := List.mem_map.mp hq
    obtain ⟨_, _, n, e, h1, h2⟩ := h p hp
    unfold toI
    rw [e]
    exact ⟨h1, h2⟩
  · obtain ⟨p, hp, rfl⟩ := List.mem_map.mp hq
    obtain ⟨h1, h2, _⟩ := h p hp
    exact ⟨h1, h2⟩
theorem vt_good {c : Int} {l : Tb} (v : VT c 12 300 l) : ∀ p ∈ l.map asV, Good c p := fun p hp => by
  obtain ⟨q, hq, rfl⟩ := List.mem_map.mp hp
  exact ⟨(v.wd q hq).1, (v.wd q hq).2, q.2, rfl, (v.nu q hq).1, (v.nu q hq).2⟩
section
variable {P : Program} {w : World} {K : PySem.W.Frag} {mg : Str → Option Value} {base : Heap}
theorem made_dict {H : Hp} {d x dx : Addr} {o u v : HO} (hd : H d = some o) (hx : H x = none) (hdx : H dx = none) : (upd (upd H dx u) x v) d = some o := by
  rw [upd_ne (ne_of_none hd hx), upd_ne (ne_of_none hd hdx)]
  exact hd
theorem made_same {H H' : Hp} {x dx : Addr} {u v : HO} (k : But x (upd (upd H dx u) x v) H') (hx : H x = none) (hdx : H dx = none) : Same H H' := fun b o e => by
  refine k b o ?_ (ne_of_none e hx)
  rw [upd_ne (ne_of_none e hx), upd_ne (ne_of_none e hdx)]
  exact e
def spTBG (K : PySem.W.Frag) : Sp := fun vs H Q _ => ∃ (c : Int) (t : Str), vs = [.int c, .str t] ∧ isCk c ∧ t.length ≤ 200000 ∧ (∀ l, Reads c t l → ∀ H' b, Same H H' → H b = none → BagAt K H' b c (canon l) → Q (.ref b) H') ∧ ((¬ ∃ l, Reads c t l) → ∀ H', Same H H' → Q .non H')
abbrev nTBg : List Str := ["clock", "text", "table", "term", "word", "number"]
theorem sc_tbg : FnScope nTBg ["clock", "text"] (defScope s_told_bag) := ⟨rfl, rfl, rfl, by decide +kernel, rfl, by decide +kernel, by decide +kernel⟩
theorem ok_tbG (T : Top K mg) : Ok P w K mg base 7 "told_bag" ["clock", "text"] (spTBG K) := by
  obtain ⟨fd, F⟩ := fn_told_bag T
  refine ⟨⟨fd, ?_, F.bindsN fun _ _ _ _ _ _ us hl => match us, hl with | [_, _], _ => rfl⟩, g_told_bag T, F.kp⟩
  refine F.ok sc_tbg (fun vs H Q E h => ?_) (fun cdv A outer s H vs Q E hr h => ?_)
  · obtain ⟨c, t, rfl, _⟩ := h
    rfl
  · obtain ⟨c, t, rfl, hck, hlen, qy, qn⟩ := h
    have nd := sc_tbg.nd
    have hu := hu_of hr
    have hs : sizeLine = 16777216 := sizeLine_eq
    obtain ⟨hc2, hc7⟩ := ck_range hck
    have hr1 : Room 1 _ := hr.mono (by decide)
    have hr4 : Room 4 _ := hr.mono (by decide)
    refine ⟨_, PSs.nox (pss_cons (ps_if (pt_cmpR op_eq (pv 1) pe_str (nomark _)) (pss_one (ps_ret (pbag T hr (pa_cons (pv 0) (pa_cons pe_dnewK pa_nil))))) pss_nil)
      (pss_cons (ps_set (i := 2) nd rfl (Or.inl rfl) pe_dnewK)
      (pss_cons (ps_for PassesOwn.never rfl (pi_list (pe_m1 PySem.F.slot_str_split PySem.F.type_str_split mt_split (pv 1) pe_str)) (pg_name (i := 3) nd rfl (Or.inl rfl))
        (pss_cons (ps_asg (pc (ok_ttG T) hr1 (pa_cons (pv 0) (pa_cons (pv 3) pa_nil))) (pg_tup rfl (pgs_cons (pg_name (i := 4) nd rfl (Or.inl rfl)) (pgs_cons (pg_name (i := 5) nd rfl (Or.inl rfl)) pgs_nil))))
        (pss_cons (ps_if (pt_cmp (pc_din hu (pv 4) (pv 2)) rfl) (pss_one (ps_ret pe_non)) pss_nil)
        (pss_one (ps_dput hu (pv 2) (pv 4) (pv 5) rfl)))))
      (pss_one (ps_ret (pe_ifExp (pt_val (pc (ok_areG T) hr4 (pa_cons (pv 0) (pa_cons (pv 2) pa_nil)))) (pbag T hr (pa_cons (pv 0) (pa_cons (pv 2) pa_nil))) pe_non)))))), ?_⟩
    refine ⟨_, rfl, rfl, _, rfl, ite2 (fun h0 => ?_) (fun h0 => ?_)⟩
    · have e0 : t = "0" := by
        have := of_decide_eq_true h0
        injection this
      refine ⟨_, rfl, fun D0 nD0 => ?_⟩
      refine fun b dx hb hdx ne => ?_
      refine ⟨b, D0, dx, c, [], rfl, upd_same, hck, made_dict upd_same hb hdx, (vt_nil c 12).mono (Nat.le_refl _) (by decide), fun H9 k9 hB => ⟨rfl, ?_⟩⟩
      exact qy [] (.inl ⟨e0, rfl⟩) H9 b ((same_upd nD0).trans (made_same k9 hb hdx)) ((same_upd nD0).free hb) hB
    · have e0 : t ≠ "0" := fun e => h0 (decide_eq_true (congrArg V.str e))
      refine fun D nD => ?_
      have s1 := same_upd (o := .dK []) nD
      have eD : (upd H D (.dK [])) D = some (.dK (kvp ((PSt c t).take 0))) := upd_same
      generalize upd H D (.dK []) = H1 at s1 eD ⊢
      have ey : TL.tl plusS = [32, 43, 32] := by decide
      obtain ⟨_, tl1, tl2⟩ := split_any t (y := plusS) (by rw [ey]; simp) (by decide +kernel)
      refine ⟨_, rfl, ⟨_, rfl⟩, t, L2.plusS, rfl, rfl, by decide, by omega, fun R nR => ?_⟩
      have pl : (PSt c t).length = (Txt.split t plusS).length := List.length_map _
      have s2 := same_upd (o := .lst ((Txt.split t plusS).map V.str)) nR
      have eR : (upd H1 R (.lst ((Txt.split t plusS).map V.str))) R = some (.lst ((Txt.split t plusS).map V.str)) := upd_same
      have nDR : D ≠ R := ne_of_none eD nR
      replace eD := s2 _ _ eD
      replace s1 := s1.trans s2
      generalize upd H1 R (.lst ((Txt.split t plusS).map V.str)) = H2 at s1 eD eR ⊢
      refine ⟨R, rfl, ⟨_, SqL.of eR⟩, ?_⟩
      refine for_it (walk_list (xs := (Txt.split t plusS).map V.str)) (fun i σ H' => ∃ v3 v4 v5 : Option V, σ = [some (.int c), some (.str t), some (.ref D), v3, v4, v5] ∧ H' D = some (.dK (kvp ((PSt c t).take i))) ∧ (((PSt c t).take i).map (·.1)).Nodup ∧ But D H2 H')
        ⟨none, none, none, rfl, eD, List.nodup_nil, But.refl _ _⟩ (fun i σ H' _ hP => by obtain ⟨_, _, _, _, _, _, z⟩ := hP; exact SqL.of (z _ _ eR nDR.symm)) ?_ ?_
      · rintro i x σ Ha Hb hi ⟨v3, v4, v5, rfl, p1, pn, p2⟩ ⟨rfl, e⟩
        rw [List.length_map] at hi
        rw [List.getElem?_map, List.getElem?_eq_getElem hi] at e
        obtain rfl : V.str (Txt.split t plusS)[i] = x := Option.some.inj e
        have hi2 : i < (PSt c t).length := by omega
        have ep : (PSt c t)[i] = ttP c (Txt.split t plusS)[i] := List.getElem_map _
        have et : (PSt c t).take (i + 1) = (PSt c t).take i ++ [(PSt c t)[i]] := by
          rw [List.take_add_one, List.getElem?_eq_getElem hi2]
          rfl
        refine ⟨_, rfl, _, rfl, c, (Txt.split t plusS)[i], rfl, hck, by have := tl2 _ (List.getElem_mem hi); omega, fun Hc r sc nr er => ?_⟩
        rw [← ep] at er
        replace p1 := sc _ _ p1
        refine ⟨r, _, rfl, .inl (.inl er), rfl, ?_⟩
        refine ⟨_, _, rfl, _, _, rfl, rfl, ?_⟩
        refine ⟨_, rfl, _, rfl, D, _, rfl, .inl ⟨kvp ((PSt c t).take i), Sum.inr (PSt c t)[i].1, .inl p1, rfl, rfl⟩, ?_⟩
        refine ⟨_, rfl, ?_⟩
        by_cases hin : (PSt c t)[i].1 ∈ ((PSt c t).take i).map (·.1)
        · obtain ⟨v, hv⟩ : ∃ v, valV (kvp ((PSt c t).take i)) (Sum.inr (PSt c t)[i].1 : Key) = some v := by
            obtain ⟨p, hp, e2⟩ := List.mem_map.mp hin
            obtain ⟨j, hj, e3⟩ := List.mem_iff_getElem.mp hp
            refine ⟨p.2, valV_at (i := j) (kvp_nd pn) ?_⟩
            unfold kvp
            rw [List.getElem?_map, List.getElem?_eq_getElem hj, e3]
            show some ((Sum.inr p.1 : Key), p.2) = _
            rw [e2]
          rw [hv]
          refine iteT ?_
          refine qn ?_ _ fun b o z => sc _ _ (p2 _ _ (s1 _ _ z) (ne_of_none z nD))
          rintro ⟨l, ⟨z, _⟩ | ⟨_, z, v⟩⟩
          · exact e0 z
          · have h1 : (((PSt c t).take (i + 1)).map (·.1)).Nodup := by
              rw [List.map_take]
              refine (List.take_sublist _ _).nodup ?_
              rw [z, asV_keys]
              exact v.nd
            rw [et, List.map_append] at h1
            exact (List.nodup_append.mp h1).2.2 _ hin _ (by simp) rfl
        · have hk : (Sum.inr (PSt c t)[i].1 : Key) ∉ (kvp ((PSt c t).take i)).map (·.1) := fun z => by
            rw [kvp_keys] at z
            obtain ⟨y, hy, ey⟩ := List.mem_map.mp z
            exact hin (by rw [← Sum.inr.inj ey]; exact hy)
          rw [valV_not hk]
          refine iteF ?_
          refine ⟨_, rfl, _, rfl, _, rfl, D, _, rfl, DPut.k (k := Sum.inr (PSt c t)[i].1) p1 (by rw [kvp_len, List.length_take]; omega), ?_⟩
          refine ⟨_, _, _, rfl, ?_, ?_, fun a o z n => ?_⟩
          · rw [upd_same, putK_not hk, et]
            unfold kvp
            rw [List.map_append]
            rfl
          · rw [et, List.map_append]
            refine List.nodup_append.mpr ⟨pn, by simp, fun a ha b hb => ?_⟩
            rw [List.map_cons, List.map_nil] at hb
            rw [List.mem_singleton.mp hb]
            intro z
            exact hin (z ▸ ha)
          · rw [upd_ne n]
            exact sc _ _ (p2 _ _ z n)
      · rintro σ Ha ⟨v3, v4, v5, rfl, p1, pn, p2⟩
        rw [List.length_map, ← pl, List.take_length] at p1 pn
        have sH : Same H Ha := fun a o z => p2 _ _ (s1 _ _ z) (ne_of_none z nD)
        have hv : ∀ p ∈ PSt c t, p.1.length ≤ 1000000 ∧ ((∃ n, p.2 = .int n) ∨ p.2 = .non) := fun p hp => by
          obtain ⟨z, hz, rfl⟩ := List.mem_map.mp hp
          exact ⟨by have := tl2 z hz; have := ttP_len (c := c) (t := z); omega, ttP_val⟩
        refine ⟨_, rfl, _, rfl, c, D, PSt c t, rfl, p1, pn, hv, fun Hb b sb hb => ⟨b, rfl, ?_⟩⟩
        cases b with
        | true =>
          obtain ⟨hl, hg⟩ := hb.mp rfl
          have v := good_vt hg pn hl
          have ea := good_as hg
          have eD2 : Hb D = some (.dK (kv ((PSt c t).map toI))) := by
            rw [← kvp_as, ← ea]
            exact sb _ _ p1
          refine iteT ?_
          refine ⟨_, rfl, _, rfl, fun b dx hb hdx ne => ?_⟩
          refine ⟨b, D, dx, c, (PSt c t).map toI, rfl, upd_same, hck, made_dict eD2 hb hdx, v, fun Hc kc hB => ⟨rfl, ?_⟩⟩
          exact qy _ (.inr ⟨e0, ea, v⟩) Hc b (sH.trans (sb.trans (made_same kc hb hdx))) ((sH.trans sb).free hb) hB
        | false =>
          refine iteF ?_
          refine qn ?_ Hb (sH.trans sb)
          rintro ⟨l, ⟨z, _⟩ | ⟨_, z, v⟩⟩
          · exact e0 z
          · have := hb.mpr ⟨by rw [z, List.length_map]; exact v.ln, by rw [z]; exact vt_good v⟩
            cases this
end
end Fp

set_option Elab.async false
set_option linter.all false
set_option maxRecDepth 100000
set_option maxHeartbeats 4000000
/-! odd things: what is no text and no clock; read_bag of anything -/
namespace L2
open PySem PySem.Spec PyProof.Rows
/-- X(), X an own class without __init__ -/
theorem pmk_own0 {X : Cx} {C : Addr} {bmB : List Value} {B newId initId : String} {x : Str} {p pos : Pos} (F : ExcBaseFacts B newId initId bmB) (q : PySem.W.excIn X.K C bmB newId = true) (gC : X.mg x = some (.ref C))
    (kC : PySem.W.keepIn X.K (.ref C) = true) (r : Raises X (.ref C)) (hg : Gl X x) (hdb : (x == ("__debug__" : Str)) = false := by decide) : PMk X (.Call (.Name x p) [] [] pos) (fun _ H Q => Q (.ref C) none H) := by
  intro pins s σ H Q I h
  refine wpAny_Call_Name_kw (ld_glob I hg gC ?_ hdb)
  refine PySem.W.callWith_K0 (K := X.K) I.kIn kC ?_
  show wpAny _ _ (call (.ref C) []) _ _ _
  obtain ⟨bm, N, nm, qn, bs, hdct, sn, sub, ab, col, dd, k0, k1, k2, k3, k5, mN, hC, hN, hni, T⟩ := exc_obj I.kIn q
  refine wpAny_call_exc_subT F T hC hN hni (fun h' e hm => ?_) (Nat.zero_le _)
  exact mk_of I hm r h (I.hok.gone hm.new)
end L2
namespace Fp
open PySem PySem.Spec PyProof.Rows L2
inductive OddA (H : Hp) (a : Addr) : Prop where
  | tup {xs : List V} (e : H a = some (.tup xs)) : OddA H a
  | lst {xs : List V} (e : H a = some (.lst xs)) : OddA H a
  | dct {kvs : List (Key × V)} (e : H a = some (.dK kvs)) : OddA H a
theorem OddA.same {H H' : Hp} {a : Addr} (h : OddA H a) (k : Same H H') : OddA H' a := by
  cases h with
  | tup e => exact .tup (k _ _ e)
  | lst e => exact .lst (k _ _ e)
  | dct e => exact .dct (k _ _ e)
theorem OddA.ext {H H' : Hp} {a : Addr} (h : OddA H a) (k : LamX.ExtN H H') : OddA H' a := by
  cases h with
  | tup e => exact .tup (k _ _ e (by intro ps z; cases z))
  | lst e => exact .lst (k _ _ e (by intro ps z; cases z))
  | dct e => exact .dct (k _ _ e (by intro ps z; cases z))
/-- a thing that is no text and no bag -/
inductive Odd (H : Hp) : V → Prop where
  | non : Odd H .non
  | bl (b : Bool) : Odd H (.bl b)
  | int (i : Int) : Odd H (.int i)
  | str (s : Str) : Odd H (.str s)
  | ref {a : Addr} (h : OddA H a) : Odd H (.ref a)
theorem Odd.same {H H' : Hp} {x : V} (h : Odd H x) (k : Same H H') : Odd H' x := by
  cases h with
  | non => exact .non
  | bl b => exact .bl b
  | int i => exact .int i
  | str s => exact .str s
  | ref h => exact .ref (h.same k)
theorem Odd.ext {H H' : Hp} {x : V} (h : Odd H x) (k : LamX.ExtN H H') : Odd H' x := by
  cases h with
  | non => exact .non
  | bl b => exact .bl b
  | int i => exact .int i
  | str s => exact .str s
  | ref h => exact .ref (h.ext k)
/-- a thing that is no text -/
def NoS (K : PySem.W.Frag) (H : Hp) (x : V) : Prop := (Odd H x ∧ ∀ s, x ≠ .str s) ∨ ∃ a c L, x = .ref a ∧ BagAt K H a c L
/-- a thing that is no clock -/
def NoC (H : Hp) (x : V) : Prop := Odd H x ∧ ∀ c, isCk c → x ≠ .int c
theorem NoS.ext {K : PySem.W.Frag} {H H' : Hp} {x : V} (h : NoS K H x) (k : LamX.ExtN H H') : NoS K H' x := by
  rcases h with ⟨h1, h2⟩ | ⟨a, c, L, h1, h2⟩
  · exact .inl ⟨h1.ext k, h2⟩
  · exact .inr ⟨a, c, L, h1, h2.ext k⟩
theorem NoC.ext {H H' : Hp} {x : V} (h : NoC H x) (k : LamX.ExtN H H') : NoC H' x := ⟨h.1.ext k, h.2⟩
section
variable {P : Program} {w : World} {K : PySem.W.Frag} {mg : Str → Option Value} {base : Heap}
theorem nos_ty (T : Top K mg) {H : Hp} {x : V} (h : NoS K H x) : ∃ t, TyX K H x t ∧ PySem.W.kitOne K t (.type "str") = some false := by
  rcases h with ⟨h1, h2⟩ | ⟨a, c, L, rfl, dx, t, ea, _⟩
  · cases h1 with
    | non => exact ⟨_, .base .non, kit_ty (by decide +kernel)⟩
    | bl b => exact ⟨_, .base (.bl b), kit_ty (by decide +kernel)⟩
    | int i => exact ⟨_, .base (.int i), kit_ty (by decide +kernel)⟩
    | str s => exact absurd rfl (h2 s)
    | ref h => cases h with
      | tup e => exact ⟨_, .base (.tup e), kit_ty (by decide +kernel)⟩
      | lst e => exact ⟨_, .base (.lst e), kit_ty (by decide +kernel)⟩
      | dct e => exact ⟨_, .base (.dK e), kit_ty (by decide +kernel)⟩
  · exact ⟨_, .base (.ins ea (cls_Bag T) (x_class T) (x_get T) (x_takes T) (x_mro T)), xs_Bag T⟩
def spIntG : Sp := fun vs H Q _ => ∃ x : V, vs = [x] ∧ Odd H x ∧ ∀ b : Bool, (b = true ↔ ∃ i, x = .int i) → Q (.bl b) H
theorem ok_intG (T : Top K mg) : Ok P w K mg base 1 "is_integer" ["thing"] spIntG := by
  obtain ⟨fd, F⟩ := fn_is_integer T
  refine ⟨⟨fd, ?_, F.bindsN fun _ _ _ _ _ _ us hl => match us, hl with | [_], _ => rfl⟩, g_is_integer T, F.kp⟩
  refine F.ok sc_is_integer (fun vs H Q E h => ?_) (fun cdv A outer s H vs Q E hr h => ?_)
  · obtain ⟨x, rfl, _⟩ := h
    rfl
  · obtain ⟨x, rfl, hx, q⟩ := h
    refine ⟨_, PSs.nox (pss_one (ps_ret (pe_and (pe_callB call_isi (by rfl) (f_isinstance T) (by decide +kernel) (pa_cons (pv 0) (pa_cons (pe_bltn (v := .ty "int") (by rfl) (f_int T) boot_int rfl) pa_nil)))
      (pe_one (pe_not (pe_callB call_isi (by rfl) (f_isinstance T) (by decide +kernel) (pa_cons (pv 0) (pa_cons (pe_bltn (v := .ty "bool") (by rfl) (f_bool T) (by decide +kernel) rfl) pa_nil)))))))), ?_⟩
    cases hx with
    | non => exact ⟨_, rfl, _, _, _, _, false, rfl, .ty "int", .base .non, kit_ty (by decide +kernel), false, rfl, iteF (q false ⟨fun z => (nomatch z), fun ⟨_, z⟩ => (nomatch z)⟩)⟩
    | bl b =>
      refine ⟨_, rfl, _, _, _, _, true, rfl, .ty "int", .base (.bl b), kit_ty (by decide +kernel), true, rfl, iteT ?_⟩
      exact ⟨_, rfl, _, _, _, _, true, rfl, .ty "bool", .base (.bl b), kit_ty (by decide +kernel), true, rfl, q false ⟨fun z => (nomatch z), fun ⟨_, z⟩ => (nomatch z)⟩⟩
    | int i =>
      refine ⟨_, rfl, _, _, _, _, true, rfl, .ty "int", .base (.int i), kit_ty (by decide +kernel), true, rfl, iteT ?_⟩
      exact ⟨_, rfl, _, _, _, _, false, rfl, .ty "bool", .base (.int i), kit_ty (by decide +kernel), false, rfl, q true ⟨fun _ => ⟨i, rfl⟩, fun _ => rfl⟩⟩
    | str s => exact ⟨_, rfl, _, _, _, _, false, rfl, .ty "int", .base (.str s), kit_ty (by decide +kernel), false, rfl, iteF (q false ⟨fun z => (nomatch z), fun ⟨_, z⟩ => (nomatch z)⟩)⟩
    | ref h => cases h with
      | tup e => exact ⟨_, rfl, _, _, _, _, false, rfl, .ty "int", .base (.tup e), kit_ty (by decide +kernel), false, rfl, iteF (q false ⟨fun z => (nomatch z), fun ⟨_, z⟩ => (nomatch z)⟩)⟩
      | lst e => exact ⟨_, rfl, _, _, _, _, false, rfl, .ty "int", .base (.lst e), kit_ty (by decide +kernel), false, rfl, iteF (q false ⟨fun z => (nomatch z), fun ⟨_, z⟩ => (nomatch z)⟩)⟩
      | dct e => exact ⟨_, rfl, _, _, _, _, false, rfl, .ty "int", .base (.dK e), kit_ty (by decide +kernel), false, rfl, iteF (q false ⟨fun z => (nomatch z), fun ⟨_, z⟩ => (nomatch z)⟩)⟩
def spCkG : Sp := fun vs H Q _ => ∃ x : V, vs = [x] ∧ Odd H x ∧ ∀ b : Bool, (b = true ↔ ∃ c, isCk c ∧ x = .int c) → Q (.bl b) H
theorem ok_ckG (T : Top K mg) : Ok P w K mg base 2 "is_clock" ["thing"] spCkG := by
  obtain ⟨fd, F⟩ := fn_is_clock T
  refine ⟨⟨fd, ?_, F.bindsN fun _ _ _ _ _ _ us hl => match us, hl with | [_], _ => rfl⟩, g_is_clock T, F.kp⟩
  refine F.ok sc_is_clock (fun vs H Q E h => ?_) (fun cdv A outer s H vs Q E hr h => ?_)
  · obtain ⟨x, rfl, _⟩ := h
    rfl
  · obtain ⟨x, rfl, hx, q⟩ := h
    refine ⟨_, PSs.nox (pss_one (ps_ret (pe_and (pc (ok_intG T) hr (pa_cons (pv 0) pa_nil)) (pe_one (pe_cmpR op_in_seq (pv 0) (pe_glob (v := .ref (He.ga K "CLOCKS")) rfl (g_CLOCKS T) rfl) (by rfl)))))), ?_⟩
    refine ⟨_, rfl, x, rfl, hx, fun b hb => ⟨b, rfl, ?_⟩⟩
    cases b with
    | false =>
      refine iteF (q false ⟨fun z => (nomatch z), fun ⟨c, _, z⟩ => hb.mpr ⟨c, z⟩⟩)
    | true =>
      obtain ⟨i, rfl⟩ := hb.mp rfl
      refine iteT ?_
      refine ⟨_, rfl, _, _, rfl, .inr (x_CLOCKS T _), rfl, rfl, ?_⟩
      refine q _ ?_
      rw [if_neg Bool.false_ne_true]
      have e : inV (V.int i) [.int 2, .int 3, .int 5, .int 7] = ((2 : Int) == i || ((3 : Int) == i || ((5 : Int) == i || ((7 : Int) == i || false)))) := rfl
      rw [e]
      constructor
      · intro z
        refine ⟨i, ?_, rfl⟩
        simp only [Bool.or_eq_true, beq_iff_eq, Bool.or_false] at z
        rcases z with z | z | z | z
        · exact .inl z.symm
        · exact .inr (.inl z.symm)
        · exact .inr (.inr (.inl z.symm))
        · exact .inr (.inr (.inr z.symm))
      · rintro ⟨c, z1, z2⟩
        cases z2
        rcases z1 with rfl | rfl | rfl | rfl <;> decide
theorem sc_BadText : FnScope ["self", "line"] ["self", "line"] (defScope s_BadText__init__) := ⟨rfl, rfl, rfl, by decide +kernel, rfl, by decide +kernel, by decide +kernel⟩
theorem ini_BadText (T : Top K mg) : ∃ fd, FnOk P w K mg base CX0 1 (He.ma K (He.ga K "BadText") "__init__") fd ["self", "line"] (spIni K "line") ∧ Binds K fd ["self", "line"] [] := by
  obtain ⟨fd, F⟩ := fn_BadText__init__ T
  refine ⟨fd, ?_, F.bindsN fun _ _ _ _ _ _ us hl => match us, hl with | [_, _], _ => rfl⟩
  refine F.ok sc_BadText (fun vs H Q E h => ?_) (fun cdv A outer s H vs Q E hr h => ?_)
  · obtain ⟨a, C, y, rfl, _⟩ := h
    rfl
  · obtain ⟨a, C, y, rfl, T1, hno, e, q⟩ := h
    refine ⟨_, PSs.nox (pss_one (ps_ost (pv 0) (pv 1))), ?_⟩
    exact ⟨_, rfl, _, rfl, a, C, rfl, T1, hno, .inl ⟨e, fun dx h1 h2 => q dx h1 h2⟩⟩
/-- BadText(n), raised -/
theorem mk_badT (T : Top K mg) {H : Hp} {n : Int} {Q : XK} (q : ∀ H' dx, Same H H' → H' dx = some (.xd [("line", .int n)]) → Q (.ref (He.ga K "BadText")) (some dx) H') : ∀ σ, tMkO (He.ga K "BadText") (spIni K "line") [] (tCons (tC (.int n)) tNil) σ H Q := fun σ =>
  ⟨by show 1 ≤ 1000; decide, fun a ha => ⟨a, He.ga K "BadText", _, rfl, xo_BadText T, xp_BadText T, upd_same, fun dx h1 h2 => ⟨rfl, dx, [("line", .int n)], upd_same, by rw [upd_ne h2, upd_same], by rw [upd_ne h2] at h1; exact h1, q _ dx (mk_same ha (by rw [upd_ne h2] at h1; exact h1)) upd_same⟩⟩⟩
def spCCG (K : PySem.W.Frag) : Sp := fun vs H Q E => ∃ x : V, vs = [x] ∧ ((∃ c, isCk c ∧ x = .int c ∧ Q .non H) ∨ (NoC H x ∧ E (.ref (He.ga K "NoClock")) none H))
def spCSG (K : PySem.W.Frag) : Sp := fun vs H Q E => ∃ x : V, vs = [x] ∧ ((∃ s, x = .str s ∧ Q .non H) ∨ (NoS K H x ∧ ∀ H' dx, Same H H' → H' dx = some (.xd [("line", .int 0)]) → E (.ref (He.ga K "BadText")) (some dx) H'))
theorem sc_cs : FnScope ["text"] ["text"] (defScope s_check_string) := ⟨rfl, rfl, rfl, by decide +kernel, rfl, by decide +kernel, by decide +kernel⟩
theorem okX_cs (T : Top K mg) : OkX P w K mg base 3 "check_string" ["text"] (spCSG K) := by
  obtain ⟨fd, F⟩ := fn_check_string T
  obtain ⟨fd1, F1, b1⟩ := ini_BadText (P := P) (w := w) (base := base) T
  refine ⟨⟨fd, ?_, F.bindsN fun _ _ _ _ _ _ us hl => match us, hl with | [_], _ => rfl⟩, g_check_string T, F.kp⟩
  refine F.ok sc_cs (fun vs H Q E h => ?_) (fun cdv A outer s H vs Q E hr h => ?_)
  · obtain ⟨x, rfl, _⟩ := h
    rfl
  · obtain ⟨x, rfl, h⟩ := h
    refine ⟨_, pss_one (ps_if (pt_not (pt_val (pe_callB call_isi (by rfl) (f_isinstance T) (by decide +kernel) (pa_cons (pv 0) (pa_cons (pe_bltn (v := .ty "str") (by rfl) (f_str T) (by decide +kernel) rfl) pa_nil)))))
      (pss_one (ps_raise rfl (takes_of rfl rfl rfl rfl) (pmk_oex (xo_BadText T) (xi_BadText T) (xt_BadText T) F1 hr b1 .nil (fun _ _ _ _ _ _ _ z => z.elim) rfl (g_BadText T) (pa_cons pe_int pa_nil)))) pss_nil), ?_⟩
    rcases h with ⟨s, rfl, q⟩ | ⟨hn, q⟩
    · exact ⟨_, rfl, _, _, _, _, true, rfl, .ty "str", .base (.str s), kit_ty (by decide +kernel), true, rfl, iteF q⟩
    · obtain ⟨t, h1, h2⟩ := nos_ty T hn
      exact ⟨_, rfl, _, _, _, _, false, rfl, .ty "str", h1, h2, false, rfl, iteT (mk_badT T q _)⟩
/-- read_bag of anything -/
def spRBG (K : PySem.W.Frag) : Sp := fun vs H Q E => ∃ x y : V, vs = [x, y] ∧ ((NoC H x ∧ E (.ref (He.ga K "NoClock")) none H) ∨
  ∃ c, x = .int c ∧ isCk c ∧ ((NoS K H y ∧ ∀ H' dx, Same H H' → H' dx = some (.xd [("line", .int 0)]) → E (.ref (He.ga K "BadText")) (some dx) H') ∨
    ∃ t, y = .str t ∧ t.length ≤ 200000 ∧ (∀ l, Reads c t l → ∀ H' b, Same H H' → H b = none → BagAt K H' b c (canon l) → Q (.ref b) H') ∧ ((¬ ∃ l, Reads c t l) → ∀ H' dx, Same H H' → H' dx = some (.xd [("line", .int 1)]) → E (.ref (He.ga K "BadText")) (some dx) H')))
abbrev nRB : List Str := ["clock", "text", "found"]
end
end Fp

set_option Elab.async false
set_option linter.all false
set_option maxRecDepth 100000
set_option maxHeartbeats 4000000
/-! what the law's own reader tells of a term -/
namespace Fp
open PySem PySem.Spec PyProof.Rows L2
theorem good_num {c n : Int} {t : Str} (hc : isCk c) (h1 : 1 ≤ n) (h2 : n < c) (e : t = dgt n) : ttP c t = (("" : Str), V.int n) := by
  unfold ttP
  rw [if_pos ((nums_iff hc).mpr ⟨n, h1, h2, e⟩), e, nums_num hc h1 h2]
/-- a term that is no number -/
theorem ttP_signs {c : Int} {t : Str} {init : List Str} {w : Str} (hc : isCk c) (hn : ∀ n, 1 ≤ n → n < c → t ≠ dgt n) (hs : Txt.split t blkS = init ++ [w]) (hw : w ≠ "") :
    (init = [] → ttP c t = (w, .int 1)) ∧ (∀ s, init = [s] → (∀ n, 2 ≤ n → n < c → s = dgt n → ttP c t = (w, .int n)) ∧ ((∀ n, 2 ≤ n → n < c → s ≠ dgt n) → ttP c t = (w, .non))) ∧ (2 ≤ init.length → ttP c t = (w, .non)) := by
  have h0 : ¬ has (nums c) t = true := fun z => by
    obtain ⟨n, h1, h2, e⟩ := (nums_iff hc).mp z
    exact hn n h1 h2 e
  have nbe : ¬ blkS = Str.empty := by decide
  have cr := ck_range hc
  have d1 : ("1" : Str) = dgt 1 := rfl
  obtain ⟨init', w', e', _, r⟩ := rpart_signs t
  obtain ⟨e1, e2⟩ := List.append_inj' (hs.symm.trans e') rfl
  cases e2
  subst e1
  unfold ttP
  rw [if_neg h0]
  rcases r with ⟨hi, _, er⟩ | ⟨hi, er, r2, r1⟩
  · subst hi
    rw [er]
    refine ⟨fun _ => ?_, fun s z => (nomatch z), fun z => by simp at z⟩
    rw [if_neg (show ¬ (w = "" ∨ Str.empty = "1") from fun z => z.elim hw (by decide)), if_pos rfl]
  · rw [er]
    refine ⟨fun z => absurd z hi, fun s es => ?_, fun h2 => ?_⟩
    · have e3 := r1 s es
      rw [e3]
      refine ⟨fun n h1 h2 e => ?_, fun hno => ?_⟩
      · have hs1 : s ≠ "1" := fun z => by
          have := congrArg TL.tl (e.symm.trans (z.trans d1))
          rw [dgt_tl (by omega) (by omega), dgt_tl (by omega) (by omega)] at this
          have := List.singleton_inj.mp this
          omega
        have hh : has (nums c) s = true := (nums_iff hc).mpr ⟨n, by omega, h2, e⟩
        rw [if_neg (show ¬ (w = "" ∨ s = "1") from fun z => z.elim hw hs1)]
        show (w, if blkS = Str.empty then V.int 1 else if has (nums c) s = true then V.int (num (nums c) s) else V.non) = _
        rw [if_neg nbe, if_pos hh, e, nums_num hc (by omega) h2]
      · by_cases hs1 : s = "1"
        · rw [if_pos (.inr hs1)]
        · rw [if_neg (show ¬ (w = "" ∨ s = "1") from fun z => z.elim hw hs1)]
          show (w, if blkS = Str.empty then V.int 1 else if has (nums c) s = true then V.int (num (nums c) s) else V.non) = _
          have hh : ¬ has (nums c) s = true := fun z => by
            obtain ⟨n, h1, h2, e⟩ := (nums_iff hc).mp z
            by_cases h3 : n = 1
            · exact hs1 (by rw [e, h3]; rfl)
            · exact hno n (by omega) h2 e
          rw [if_neg nbe, if_neg hh]
    · have h32 := r2 h2
      have hd : ∀ n : Int, 1 ≤ n → n < 7 → Txt.join blkS init ≠ dgt n := fun n h1 h2 e => by
        rw [e, dgt_tl h1 h2] at h32
        have := List.mem_singleton.mp h32
        omega
      have hs1 : Txt.join blkS init ≠ "1" := fun z => hd 1 (by decide) (by decide) z
      rw [if_neg (show ¬ (w = "" ∨ Txt.join blkS init = "1") from fun z => z.elim hw hs1)]
      show (w, if blkS = Str.empty then V.int 1 else if has (nums c) (Txt.join blkS init) = true then V.int (num (nums c) (Txt.join blkS init)) else V.non) = _
      have hh : ¬ has (nums c) (Txt.join blkS init) = true := fun z => by
        obtain ⟨n, h1, h2, e⟩ := (nums_iff hc).mp z
        exact hd n h1 (by omega) e
      rw [if_neg nbe, if_neg hh]
theorem ttP_word {c : Int} {t : Str} {init : List Str} {w : Str} (hc : isCk c) (hn : ∀ n, 1 ≤ n → n < c → t ≠ dgt n) (hs : Txt.split t blkS = init ++ [w]) : (ttP c t).1 = w ∧ (w = "" → (ttP c t).2 = .non) := by
  have h0 : ¬ has (nums c) t = true := fun z => by
    obtain ⟨n, h1, h2, e⟩ := (nums_iff hc).mp z
    exact hn n h1 h2 e
  obtain ⟨init', w', e', _, r⟩ := rpart_signs t
  obtain ⟨e1, e2⟩ := List.append_inj' (hs.symm.trans e') rfl
  cases e2
  subst e1
  have e3 : (rpartS t blkS).2.2 = w := by
    rcases r with ⟨_, _, er⟩ | ⟨_, er, _⟩ <;> rw [er]
  unfold ttP
  rw [if_neg h0, e3]
  by_cases h : w = "" ∨ (rpartS t blkS).1 = "1"
  · rw [if_pos h]
    exact ⟨rfl, fun _ => rfl⟩
  · rw [if_neg h]
    exact ⟨rfl, fun z => absurd (.inl z) h⟩
def badL (l : List Nat) : List Nat := l.filter fun c => !decide (c ∈ ("xyz" : Str).cps.toList)
theorem badL_nil {x : Str} : badL x.cps.toList = [] ↔ xyz x := by
  unfold badL
  rw [List.filter_eq_nil_iff]
  constructor
  · intro h c hc
    have := h c hc
    have h2 : c ∈ ("xyz" : Str).cps.toList := by simpa using this
    have h4 : c ∈ ([120, 121, 122] : List Nat) := h2
    simpa using h4
  · intro h c hc
    have h4 : c ∈ ([120, 121, 122] : List Nat) := by
      rcases h c hc with rfl | rfl | rfl <;> decide
    have h2 : c ∈ ("xyz" : Str).cps.toList := h4
    simpa using h2
section
variable {P : Program} {w : World} {K : PySem.W.Frag} {mg : Str → Option Value} {base : Heap}
def spWT : Sp := fun vs H Q _ => ∃ (c : Int) (t : Str), vs = [.int c, .str t] ∧ isCk c ∧ t.length ≤ 200000 ∧ (∀ x n, ttP c t = (x, .int n) → Good c (x, .int n) → ∀ H' p, Same H H' → H' p = some (.tup [.str x, .int n]) → Q (.ref p) H') ∧ (¬ Good c (ttP c t) → ∀ H', Same H H' → Q .non H')
abbrev nWT : List Str := ["_law_clock_here", "_law_text", "_law_signs", "_law_number", "_law_word_here", "_law_sign"]
theorem sc_wt : FnScope nWT ["_law_clock_here", "_law_text"] (defScope s__law_word_told) := ⟨rfl, rfl, rfl, by decide +kernel, rfl, by decide +kernel, by decide +kernel⟩
theorem ok_wt (T : Top K mg) : Ok P w K mg base 1 "_law_word_told" ["_law_clock_here", "_law_text"] spWT := by
  obtain ⟨fd, F⟩ := fn__law_word_told T
  refine ⟨⟨fd, ?_, F.bindsN fun _ _ _ _ _ _ us hl => match us, hl with | [_, _], _ => rfl⟩, g__law_word_told T, F.kp⟩
  refine F.ok sc_wt (fun vs H Q E h => ?_) (fun cdv A outer s H vs Q E hr h => ?_)
  · obtain ⟨c, t, rfl, _⟩ := h
    rfl
  · obtain ⟨c, t, rfl, hck, hlen, qy, qn⟩ := h
    have nd := sc_wt.nd
    have hs : sizeLine = 16777216 := sizeLine_eq
    obtain ⟨hc2, hc7⟩ := ck_range hck
    refine ⟨_, PSs.nox (pss_cons (ps_set (i := 2) nd rfl (Or.inl rfl) (pe_m1 PySem.F.slot_str_split PySem.F.type_str_split mt_split (pv 1) pe_str))
      (pss_cons (ps_for PassesOwn.never rfl (pi_range2 (by rfl) (f_range T) (pa_cons pe_int (pa_cons (pv 0) pa_nil))) (pg_name (i := 3) nd rfl (Or.inl rfl))
        (pss_one (ps_if (pt_cmpR op_eq (pv 1) (pe_callTy call_str_int (by rfl) (f_str T) (by decide +kernel) (pa_cons (pv 3) pa_nil)) (nomark _)) (pss_one (ps_ret (pe_tup (pa_cons pe_str (pa_cons (pv 3) pa_nil))))) pss_nil)))
      (pss_cons (ps_set (i := 4) nd rfl (Or.inl rfl) (pe_ix ix_list (pv 2) (pe_un un_neg pe_int) (fun _ _ => rfl)))
      (pss_cons (ps_if (PW.pt (pw_or (pt_cmpR op_lt (pe_callB call_len_str (by rfl) (f_len T) PySem.boot_len (pa_cons (pv 4) pa_nil)) pe_int (nomark _))
        (pw_or (pt_cmpR op_gt (pe_callB call_len_str (by rfl) (f_len T) PySem.boot_len (pa_cons (pv 4) pa_nil)) pe_int (nomark _))
        (pw_or1 (pt_cmpR op_gt (pe_callB call_len_seq (by rfl) (f_len T) PySem.boot_len (pa_cons (pe_lc (own := [("_law_sign", 5)]) (g := gName 5) rfl nd (pi_str (pv 4)) (blkOk_by (N := nWT) (sc := defScope s__law_word_told) (by decide +kernel))
          (fun _ _ _ _ _ => pg_name (i := 5) nd rfl (Or.inl rfl)) (fun _ _ _ _ _ => by exact pts_one (pt_cmpR op_notIn_sign (pv 5) pe_str (by rfl))) (fun _ _ _ _ _ => by exact pv 5)) pa_nil)) pe_int (nomark _)))))) (pss_one (ps_ret pe_non)) pss_nil)
      (pss_cons (ps_if (pt_cmpR op_eq (pe_callB call_len_seq (by rfl) (f_len T) PySem.boot_len (pa_cons (pv 2) pa_nil)) pe_int (nomark _)) (pss_one (ps_ret (pe_tup (pa_cons (pv 4) (pa_cons pe_int pa_nil))))) pss_nil)
      (pss_cons (ps_for PassesOwn.never rfl (pi_range2 (by rfl) (f_range T) (pa_cons pe_int (pa_cons (pv 0) pa_nil))) (pg_name (i := 3) nd rfl (Or.inl rfl))
        (pss_one (ps_if (PW.pt (pw_and (pt_cmpR op_eq (pe_callB call_len_seq (by rfl) (f_len T) PySem.boot_len (pa_cons (pv 2) pa_nil)) pe_int (nomark _)) (pw_and1 (pt_cmpR op_eq (pe_ix ix_list (pv 2) pe_int (fun _ _ => rfl)) (pe_callTy call_str_int (by rfl) (f_str T) (by decide +kernel) (pa_cons (pv 3) pa_nil)) (nomark _)))))
          (pss_one (ps_ret (pe_tup (pa_cons (pv 4) (pa_cons (pv 3) pa_nil))))) pss_nil)))
      (pss_one (ps_ret pe_non)))))))), ?_⟩
    have hlog : ∀ k : Int, 1 ≤ k → k < 7 → k.natAbs.log2 < 1920 := fun k a b => by
      have := Nat.log2_le_self k.natAbs
      omega
    have ey : TL.tl blkS = [32] := by decide
    obtain ⟨_, sl1, sl2⟩ := split_any t (y := blkS) (by rw [ey]; simp) (by decide +kernel)
    obtain ⟨init, wd, esp, _, _⟩ := rpart_signs t
    have hwl : wd.length ≤ 200000 := by
      have := sl2 wd (by rw [esp]; simp)
      omega
    refine ⟨_, rfl, ⟨_, rfl⟩, t, L2.blkS, rfl, rfl, by decide, by omega, fun R nR => ?_⟩
    have hil : (init ++ [wd]).length ≤ 200001 := by
      rw [← esp]
      omega
    rw [esp]
    have s1 := same_upd (o := .lst ((init ++ [wd]).map V.str)) nR
    have eR : (upd H R (.lst ((init ++ [wd]).map V.str))) R = some (.lst ((init ++ [wd]).map V.str)) := upd_same
    generalize upd H R (.lst ((init ++ [wd]).map V.str)) = H1 at s1 eR ⊢
    refine ⟨_, rfl, 1, c, rfl, ⟨by omega, by omega⟩, ?_⟩
    refine for_it walk_range (fun i σ H' => (∃ v3, σ = [some (.int c), some (.str t), some (.ref R), v3, none, none]) ∧ H' = H1 ∧ ∀ n : Int, 1 ≤ n → n < 1 + (i : Nat) → t ≠ dgt n) ⟨⟨none, rfl⟩, rfl, fun n h1 h2 => by omega⟩ (fun _ _ _ _ _ => trivial) ?_ ?_
    · rintro i x σ Ha Hb hi ⟨⟨v3, rfl⟩, rfl, p2⟩ ⟨rfl, rfl⟩
      have hn1 : (1 : Int) + (i : Nat) < c := by omega
      refine ⟨_, rfl, _, rfl, _, rfl, hlog _ (by omega) (by omega), rfl, _, rfl, ite2 (fun z => ?_) (fun z => ?_)⟩
      · have e : t = dgt (1 + (i : Nat)) := by
          have := of_decide_eq_true z
          injection this
        refine ⟨_, rfl, by show 2 ≤ sizeLine; omega, fun p np => ?_⟩
        exact qy "" (1 + (i : Nat)) (good_num hck (by omega) hn1 e) ⟨show xyz "" by decide, show ("" : Str).length ≤ 12 by decide, _, rfl, by omega, hn1⟩ _ p (s1.trans (same_upd np)) upd_same
      · refine ⟨⟨_, rfl⟩, rfl, fun n h1 h2 e => ?_⟩
        by_cases h3 : n < 1 + (i : Nat)
        · exact p2 n h1 h3 e
        · have : n = 1 + (i : Nat) := by omega
          rw [this] at e
          exact z (decide_eq_true (congrArg V.str e))
    rintro σ Ha ⟨⟨v3, rfl⟩, rfl, p2⟩
    have hnum : ∀ n : Int, 1 ≤ n → n < c → t ≠ dgt n := fun n h1 h2 => p2 n h1 (by omega)
    obtain ⟨tw1, tw2⟩ := ttP_word hck hnum esp
    have nog : (wd = "" ∨ ¬ xyz wd ∨ 12 < wd.length) → ¬ Good c (ttP c t) := fun h g => by
      obtain ⟨g1, g2, n, g3, _⟩ := g
      rw [tw1] at g1 g2
      rcases h with h | h | h
      · rw [tw2 h] at g3
        cases g3
      · exact h g1
      · omega
    refine ⟨_, rfl, _, rfl, R, _, -1, .str wd, rfl, rfl, SqL.of eR, by rw [List.map_append]; exact atI_last _ _, ?_⟩
    refine ⟨_, rfl, wd, rfl, by omega, _, _, rfl, rfl, _, rfl, ite2 (fun z => ?_) (fun z => ?_)⟩
    · have h0 : wd.length = 0 := by
        have := of_decide_eq_true z
        omega
      exact qn (nog (.inl (TL.ext_tl (List.eq_nil_of_length_eq_zero (by rw [← TL.len_tl]; exact h0))))) _ s1
    have hpos : 1 ≤ wd.length := by
      by_cases h : 1 ≤ wd.length
      · exact h
      · exact (z (decide_eq_true (by omega))).elim
    have hwne : wd ≠ "" := fun e => by
      rw [e] at hpos
      exact absurd hpos (by decide)
    refine ⟨_, rfl, wd, rfl, by omega, _, _, rfl, rfl, _, rfl, ite2 (fun z => ?_) (fun z => ?_)⟩
    · have h0 : 12 < wd.length := by
        have := of_decide_eq_true z
        omega
      exact qn (nog (.inr (.inr h0))) _ s1
    have h12 : wd.length ≤ 12 := by
      by_cases h : wd.length ≤ 12
      · exact h
      · exact (z (decide_eq_true (by omega))).elim
    refine ⟨_, rfl, wd, rfl, fun D hD => ?_⟩
    have wsz : wd.cps.size = wd.cps.toList.length := by simp
    refine lc_it walk_str (fun i H' => H' D = some (.lst ((badL (wd.cps.toList.take i)).map fun k => V.str ⟨#[k]⟩)) ∧ Same Ha H') ⟨upd_same, same_upd hD⟩ (fun _ _ _ _ => trivial) ?_ ?_
    · rintro i x H3 H4 hi ⟨g1, g2⟩ ⟨rfl, b, eb, rfl⟩
      have eb' : wd.cps.toList[i]? = some b := by
        rw [Array.getElem?_toList]
        exact eb
      refine ⟨rfl, ?_⟩
      refine ⟨_, rfl, b, "xyz", rfl, rfl, _, rfl, ?_⟩
      have hlb : (badL (wd.cps.toList.take i)).length ≤ i := Nat.le_trans (List.length_filter_le _ _) (by rw [List.length_take]; omega)
      by_cases hb : b ∈ ("xyz" : Str).cps.toList
      · rw [decide_eq_true hb]
        refine iteF ⟨?_, g2⟩
        rw [List.take_add_one, eb']
        unfold badL
        rw [List.filter_append, show (some b).toList.filter (fun c => !decide (c ∈ ("xyz" : Str).cps.toList)) = [] from List.filter_cons_of_neg (by simp [hb]), List.append_nil]
        exact g1
      · rw [decide_eq_false hb]
        have szw : wd.cps.size = wd.length := rfl
        refine iteT ⟨_, rfl, _, g1, by rw [List.length_map]; omega, ?_, fun b' o' y => ?_⟩
        · rw [upd_same, List.take_add_one, eb']
          unfold badL
          rw [List.filter_append, show (some b).toList.filter (fun c => !decide (c ∈ ("xyz" : Str).cps.toList)) = [b] from List.filter_cons_of_pos (by simp [hb]), List.map_append]
          rfl
        · rw [upd_ne (ne_of_none y hD)]
          exact g2 _ _ y
    rintro G ⟨g1, g2⟩
    rw [List.take_of_length_le (by rw [Array.length_toList]; exact Nat.le_refl _)] at g1
    have sG := s1.trans g2
    have eRG := g2 _ _ eR
    refine ⟨D, _, rfl, .inl (SqL.of g1), _, _, rfl, rfl, _, rfl, ?_⟩
    rw [List.length_map]
    refine ite2 (fun z => ?_) (fun z => ?_)
    · have hb : ¬ xyz wd := fun hx => by
        have h0 := badL_nil.mpr hx
        have := of_decide_eq_true z
        rw [h0] at this
        simp at this
      exact qn (nog (.inr (.inl hb))) _ sG
    have hx : xyz wd := badL_nil.mp (by
      by_cases h : badL wd.cps.toList = []
      · exact h
      · have := List.length_pos_iff.mpr h
        exact (z (decide_eq_true (by omega))).elim)
    obtain ⟨t0, t1, t2⟩ := ttP_signs hck hnum esp hwne
    have elen : ((init ++ [wd]).map V.str).length = init.length + 1 := by simp
    refine ⟨_, rfl, R, _, rfl, .inl (SqL.of eRG), rfl, _, rfl, ?_⟩
    rw [elen]
    refine ite2 (fun z => ?_) (fun z => ?_)
    · have hi0 : init = [] := List.eq_nil_of_length_eq_zero (by
        have := of_decide_eq_true z
        injection this with this
        omega)
      refine ⟨_, rfl, by show 2 ≤ sizeLine; omega, fun p np => ?_⟩
      exact qy wd 1 (t0 hi0) ⟨hx, h12, 1, rfl, by decide, by omega⟩ _ p (sG.trans (same_upd np)) upd_same
    have hi0 : init ≠ [] := fun e => z (decide_eq_true (by rw [e]; rfl))
    refine ⟨_, rfl, 2, c, rfl, ⟨by omega, by omega⟩, ?_⟩
    refine for_it walk_range (fun i σ H' => (∃ v3, σ = [some (.int c), some (.str t), some (.ref R), v3, some (.str wd), none]) ∧ H' = G ∧ ∀ n : Int, 2 ≤ n → n < 2 + (i : Nat) → ∀ s0, init = [s0] → s0 ≠ dgt n) ⟨⟨_, rfl⟩, rfl, fun n h1 h2 => by omega⟩ (fun _ _ _ _ _ => trivial) ?_ ?_
    · rintro i x σ Hx Hy hi ⟨⟨v3, rfl⟩, rfl, p3⟩ ⟨rfl, rfl⟩
      have hn1 : (2 : Int) + (i : Nat) < c := by omega
      refine ⟨_, rfl, R, _, rfl, .inl (SqL.of eRG), rfl, _, rfl, ?_⟩
      rw [elen]
      refine ite2 (fun z2 => ?_) (fun z2 => ?_)
      · have hi1 : init.length = 1 := by
          have := of_decide_eq_true z2
          injection this with this
          omega
        obtain ⟨s0, rfl⟩ := List.length_eq_one_iff.mp hi1
        refine ⟨_, rfl, R, _, _, _, rfl, rfl, SqL.of eRG, atI_nat (j := 0) rfl, _, rfl, _, rfl, hlog _ (by omega) (by omega), rfl, _, rfl, ite2 (fun z3 => ?_) (fun z3 => ?_)⟩
        · have e : s0 = dgt (2 + (i : Nat)) := by
            have := of_decide_eq_true z3
            injection this
          refine ⟨_, rfl, _, rfl, by show 2 ≤ sizeLine; omega, fun p np => ?_⟩
          exact qy wd (2 + (i : Nat)) ((t1 s0 rfl).1 _ (by omega) hn1 e) ⟨hx, h12, _, rfl, by omega, hn1⟩ _ p (sG.trans (same_upd np)) upd_same
        · refine ⟨⟨_, rfl⟩, rfl, fun n h1 h2 s1' e1 e => ?_⟩
          cases e1
          by_cases h3 : n < 2 + (i : Nat)
          · exact p3 n h1 h3 s0 rfl e
          · have : n = 2 + (i : Nat) := by omega
            rw [this] at e
            exact z3 (decide_eq_true (congrArg V.str e))
      · refine ⟨⟨_, rfl⟩, rfl, fun n h1 h2 s0 e1 e => ?_⟩
        subst e1
        exact z2 (decide_eq_true rfl)
    rintro σ Hx ⟨⟨v3, rfl⟩, rfl, p3⟩
    refine qn (fun g => ?_) _ sG
    obtain ⟨_, _, n, g3, _⟩ := g
    have key : ttP c t = (wd, .non) := by
      by_cases h2 : 2 ≤ init.length
      · exact t2 h2
      · have hi1 : init.length = 1 := by
          have := List.length_pos_iff.mpr hi0
          omega
        obtain ⟨s0, rfl⟩ := List.length_eq_one_iff.mp hi1
        exact (t1 s0 rfl).2 fun n h1 h2 => p3 n h1 (by omega) s0 rfl
    rw [key] at g3
    cases g3
end
end Fp

set_option Elab.async false
set_option linter.all false
set_option maxRecDepth 100000
set_option maxHeartbeats 4000000
/-! what the law's own reader reads -/
namespace Fp
open PySem PySem.Spec PyProof.Rows L2
section
variable {P : Program} {w : World} {K : PySem.W.Frag} {mg : Str → Option Value} {base : Heap}
def spRd : Sp := fun vs H Q _ => ∃ (c : Int) (t : Str), vs = [.int c, .str t] ∧ isCk c ∧ t.length ≤ 200000 ∧ (∀ l, Reads c t l → ∀ H' d, Same H H' → H d = none → H' d = some (.dK (kv l)) → Q (.ref d) H') ∧ ((¬ ∃ l, Reads c t l) → ∀ H', Same H H' → Q .non H')
abbrev nRd : List Str := ["_law_clock_here", "_law_text", "_law_found", "_law_piece", "_law_told_here"]
theorem sc_rd : FnScope nRd ["_law_clock_here", "_law_text"] (defScope s__law_read) := ⟨rfl, rfl, rfl, by decide +kernel, rfl, by decide +kernel, by decide +kernel⟩
theorem ok_rd (T : Top K mg) : Ok P w K mg base 2 "_law_read" ["_law_clock_here", "_law_text"] spRd := by
  obtain ⟨fd, F⟩ := fn__law_read T
  refine ⟨⟨fd, ?_, F.bindsN fun _ _ _ _ _ _ us hl => match us, hl with | [_, _], _ => rfl⟩, g__law_read T, F.kp⟩
  refine F.ok sc_rd (fun vs H Q E h => ?_) (fun cdv A outer s H vs Q E hr h => ?_)
  · obtain ⟨c, t, rfl, _⟩ := h
    rfl
  · obtain ⟨c, t, rfl, hck, hlen, qy, qn⟩ := h
    have nd := sc_rd.nd
    have hu := hu_of hr
    have hs : sizeLine = 16777216 := sizeLine_eq
    refine ⟨_, PSs.nox (pss_cons (ps_set (i := 2) nd rfl (Or.inl rfl) pe_dnewK)
      (pss_cons (ps_if (pt_cmpR op_eq (pv 1) pe_str (nomark _)) (pss_one (ps_ret (pv 2))) pss_nil)
      (pss_cons (ps_for PassesOwn.never rfl (pi_list (pe_m1 PySem.F.slot_str_split PySem.F.type_str_split mt_split (pv 1) pe_str)) (pg_name (i := 3) nd rfl (Or.inl rfl))
        (pss_cons (ps_set (i := 4) nd rfl (Or.inl rfl) (pc (ok_wt T) hr (pa_cons (pv 0) (pa_cons (pv 3) pa_nil))))
        (pss_cons (ps_if (PW.pt (pw_or (pt_cmp (pc_isN (pv 4)) rfl) (pw_or1 (pt_cmp (pc_din hu (pe_ix ix_tup (pv 4) pe_int (fun _ _ => rfl)) (pv 2)) rfl)))) (pss_one (ps_ret pe_non)) pss_nil)
        (pss_one (ps_dput hu (pv 2) (pe_ix ix_tup (pv 4) pe_int (fun _ _ => rfl)) (pe_ix ix_tup (pv 4) pe_int (fun _ _ => rfl)) rfl)))))
      (pss_cons (ps_if (pt_cmpR op_gt (pe_callB call_lenD (by rfl) (f_len T) PySem.boot_len (pa_cons (pv 2) pa_nil)) pe_int (nomark _)) (pss_one (ps_ret pe_non)) pss_nil)
      (pss_one (ps_ret (pv 2))))))), ?_⟩
    refine fun D nD => ?_
    have s1 := same_upd (o := .dK []) nD
    have eD : (upd H D (.dK [])) D = some (.dK (kvp ((PSt c t).take 0))) := upd_same
    generalize upd H D (.dK []) = H1 at s1 eD ⊢
    refine ⟨_, rfl, rfl, _, rfl, ite2 (fun h0 => ?_) (fun h0 => ?_)⟩
    · have e0 : t = "0" := by
        have := of_decide_eq_true h0
        injection this
      exact ⟨_, rfl, qy [] (.inl ⟨e0, rfl⟩) H1 D s1 nD eD⟩
    · have e0 : t ≠ "0" := fun e => h0 (decide_eq_true (congrArg V.str e))
      have ey : TL.tl plusS = [32, 43, 32] := by decide
      obtain ⟨_, tl1, tl2⟩ := split_any t (y := plusS) (by rw [ey]; simp) (by decide +kernel)
      refine ⟨_, rfl, ⟨_, rfl⟩, t, L2.plusS, rfl, rfl, by decide, by omega, fun R nR => ?_⟩
      have pl : (PSt c t).length = (Txt.split t plusS).length := List.length_map _
      have s2 := same_upd (o := .lst ((Txt.split t plusS).map V.str)) nR
      have eR : (upd H1 R (.lst ((Txt.split t plusS).map V.str))) R = some (.lst ((Txt.split t plusS).map V.str)) := upd_same
      have nDR : D ≠ R := ne_of_none eD nR
      replace eD := s2 _ _ eD
      replace s1 := s1.trans s2
      generalize upd H1 R (.lst ((Txt.split t plusS).map V.str)) = H2 at s1 eD eR ⊢
      refine ⟨R, rfl, ⟨_, SqL.of eR⟩, ?_⟩
      refine for_it (walk_list (xs := (Txt.split t plusS).map V.str)) (fun i σ H' => ∃ v3 v4 : Option V, σ = [some (.int c), some (.str t), some (.ref D), v3, v4] ∧ H' D = some (.dK (kvp ((PSt c t).take i))) ∧ (((PSt c t).take i).map (·.1)).Nodup ∧ (∀ p ∈ (PSt c t).take i, Good c p) ∧ But D H2 H')
        ⟨none, none, rfl, eD, List.nodup_nil, fun p hp => by simp at hp, But.refl _ _⟩ (fun i σ H' _ hP => by obtain ⟨_, _, _, _, _, _, z⟩ := hP; exact SqL.of (z _ _ eR nDR.symm)) ?_ ?_
      · rintro i x σ Ha Hb hi ⟨v3, v4, rfl, p1, pn, pg, p2⟩ ⟨rfl, e⟩
        rw [List.length_map] at hi
        rw [List.getElem?_map, List.getElem?_eq_getElem hi] at e
        obtain rfl : V.str (Txt.split t plusS)[i] = x := Option.some.inj e
        have hi2 : i < (PSt c t).length := by omega
        have ep : (PSt c t)[i] = ttP c (Txt.split t plusS)[i] := List.getElem_map _
        have et : (PSt c t).take (i + 1) = (PSt c t).take i ++ [(PSt c t)[i]] := by
          rw [List.take_add_one, List.getElem?_eq_getElem hi2]
          rfl
        have noR : ∀ {Hz : Hp}, Same Hb Hz → Same H Hz := fun sz b o z => sz _ _ (p2 _ _ (s1 _ _ z) (ne_of_none z nD))
        refine ⟨_, rfl, _, rfl, c, (Txt.split t plusS)[i], rfl, hck, by have := tl2 _ (List.getElem_mem hi); omega, fun x n ex gx Hc p sc er => ?_, fun ng Hc sc => ?_⟩
        · rw [← ep] at ex
          replace p1 := sc _ _ p1
          refine ⟨_, rfl, _, rfl, iteF ?_⟩
          refine ⟨_, rfl, p, _, _, _, rfl, rfl, .inl (.inl er), atI_nat (j := 0) rfl, _, rfl, D, _, rfl, .inl ⟨kvp ((PSt c t).take i), Sum.inr x, .inl p1, rfl, rfl⟩, ?_⟩
          refine ⟨_, rfl, ?_⟩
          by_cases hin : x ∈ ((PSt c t).take i).map (·.1)
          · obtain ⟨v, hv⟩ : ∃ v, valV (kvp ((PSt c t).take i)) (Sum.inr x : Key) = some v := by
              obtain ⟨q, hq, e2⟩ := List.mem_map.mp hin
              obtain ⟨j, hj, e3⟩ := List.mem_iff_getElem.mp hq
              refine ⟨q.2, valV_at (i := j) (kvp_nd pn) ?_⟩
              unfold kvp
              rw [List.getElem?_map, List.getElem?_eq_getElem hj, e3]
              show some ((Sum.inr q.1 : Key), q.2) = _
              rw [e2]
            rw [hv]
            refine iteT ?_
            refine qn ?_ _ (noR sc)
            rintro ⟨l, ⟨z, _⟩ | ⟨_, z, v⟩⟩
            · exact e0 z
            · have h1 : (((PSt c t).take (i + 1)).map (·.1)).Nodup := by
                rw [List.map_take]
                refine (List.take_sublist _ _).nodup ?_
                rw [z, asV_keys]
                exact v.nd
              rw [et, List.map_append, ex] at h1
              exact (List.nodup_append.mp h1).2.2 _ hin _ (by simp) rfl
          · have hk : (Sum.inr x : Key) ∉ (kvp ((PSt c t).take i)).map (·.1) := fun z => by
              rw [kvp_keys] at z
              obtain ⟨y, hy, ey⟩ := List.mem_map.mp z
              exact hin (by rw [← Sum.inr.inj ey]; exact hy)
            rw [valV_not hk]
            refine iteF ?_
            refine ⟨_, rfl, p, _, _, _, rfl, rfl, .inl (.inl er), atI_nat (j := 1) rfl, _, rfl, _, rfl, p, _, _, _, rfl, rfl, .inl (.inl er), atI_nat (j := 0) rfl, D, _, rfl, DPut.k (k := Sum.inr x) p1 (by rw [kvp_len, List.length_take]; omega), ?_⟩
            refine ⟨_, _, rfl, ?_, ?_, fun q hq => ?_, fun a o z n => ?_⟩
            · rw [upd_same, putK_not hk, et, ex]
              unfold kvp
              rw [List.map_append]
              rfl
            · rw [et, List.map_append, ex]
              refine List.nodup_append.mpr ⟨pn, by simp, fun a ha b hb => ?_⟩
              rw [List.map_cons, List.map_nil] at hb
              rw [List.mem_singleton.mp hb]
              intro z
              have z' : a = x := z
              exact hin (z' ▸ ha)
            · rw [et] at hq
              rcases List.mem_append.mp hq with hq | hq
              · exact pg q hq
              · rw [List.mem_singleton.mp hq, ex]
                exact gx
            · rw [upd_ne n]
              exact sc _ _ (p2 _ _ z n)
        · refine ⟨_, rfl, _, rfl, iteT ?_⟩
          refine qn ?_ _ (noR sc)
          rintro ⟨l, ⟨z, _⟩ | ⟨_, z, v⟩⟩
          · exact e0 z
          · have := vt_good v (PSt c t)[i] (by rw [← z]; exact List.getElem_mem hi2)
            rw [ep] at this
            exact ng this
      · rintro σ Ha ⟨v3, v4, rfl, p1, pn, pg, p2⟩
        rw [List.length_map, ← pl, List.take_length] at p1 pn pg
        have sH : Same H Ha := fun a o z => p2 _ _ (s1 _ _ z) (ne_of_none z nD)
        refine ⟨_, rfl, D, _, rfl, p1, _, _, rfl, rfl, _, rfl, ?_⟩
        rw [kvp_len]
        refine ite2 (fun z => ?_) (fun z => ?_)
        · have hgt := of_decide_eq_true z
          refine qn ?_ _ sH
          rintro ⟨l, ⟨z, _⟩ | ⟨_, z, v⟩⟩
          · exact e0 z
          · rw [z, List.length_map] at hgt
            have := v.ln
            omega
        · have hle : (PSt c t).length ≤ 300 := by
            by_cases h : (PSt c t).length ≤ 300
            · exact h
            · exact (z (decide_eq_true (by omega))).elim
          have v := good_vt pg pn hle
          have ea := good_as pg
          refine ⟨_, rfl, qy _ (.inr ⟨e0, ea, v⟩) Ha D sH nD ?_⟩
          rw [← kvp_as, ← ea]
          exact p1
end
end Fp

set_option Elab.async false
set_option linter.all false
set_option maxRecDepth 100000
set_option maxHeartbeats 4000000
/-! try with several clauses, some of which name the exception -/
namespace L2
open PySem PySem.Spec PyProof.Rows
/-- a clause: its class, the slot of its name if it has one, its suite's reading -/
abbrev Clause := Value × Option Nat × (Addr → Value → Option Addr → TS)
/-- the ends of a suite behind which a name goes -/
abbrev offName (D : Ends) (i : Nat) : Ends := { nx := fun σ' => D.nx (σ'.set i none), rt := D.rt, bk := fun σ' => D.bk (σ'.set i none), ct := fun σ' => D.ct (σ'.set i none) }
def runCl (o : Option Nat) (t : TS) (D : Ends) (a : Addr) (σ : St) (H : Hp) : Prop := match o with
  | none => t D σ H
  | some i => t (offName D i) (σ.set i (some (.ref a))) H
def wMix (K : PySem.W.Frag) (Wout : WX) (D : Ends) : List Clause → WX
  | [] => Wout
  | cl :: rest => fun cls d σ H => ∃ k : Bool, PySem.W.exmOne K cls cl.1 = some k ∧ (k = true → ∀ a, H a = none → runCl cl.2.1 (cl.2.2 a cls d) D a σ H) ∧ (k = false → wMix K Wout D rest cls d σ H)
/-- what a suite must keep -/
abbrev SuiteOk (X : Cx) (body : List Stmt) (ts : Addr → Value → Option Addr → TS) : Prop := ∀ (a : Addr) (oe : Obj) (cls : Value) (d : Option Addr) (pn : List (Addr × Obj)), Zc cls d oe → (∃ fs, oe.data = .fields fs) → PSs (X.suite a ((a, oe) :: pn)) body (ts a cls d)
inductive MixOk (X : Cx) : List ExceptHandler → List Clause → Prop
  | nil : MixOk X [] []
  | plain {x : Str} {c : Value} {ts : Addr → Value → Option Addr → TS} {s0 : Stmt} {ss : List Stmt} {p q : Pos} {hds : List ExceptHandler} {l : List Clause} (hc : Names X x c) (hsu : SuiteOk X (s0 :: ss) ts) (r : MixOk X hds l) : MixOk X (.ExceptHandler (some (.Name x p)) none (s0 :: ss) q :: hds) ((c, none, ts) :: l)
  | named {x n : Str} {i : Nat} {c : Value} {ts : Addr → Value → Option Addr → TS} {s0 : Stmt} {ss : List Stmt} {p q : Pos} {hds : List ExceptHandler} {l : List Clause} (hc : Names X x c) (hi : X.N[i]? = some n) (hl : X.env.kindOf n = some .local) (hsu : SuiteOk X (s0 :: ss) ts) (r : MixOk X hds l) :
    MixOk X (.ExceptHandler (some (.Name x p)) (some n) (s0 :: ss) q :: hds) ((c, some i, ts) :: l)
section
variable {X : Cx} {body : List Stmt} {hd0 : ExceptHandler} {hds : List ExceptHandler} {l : List Clause} {pos : Pos} {tb : WX → TS} {Wout : WX}
theorem ps_try_mix (hs : X.stack = X.env :: X.outer) (hf : X.env.frame = some X.env.locals) (hN : X.N.Nodup) (tk : Takes X Wout)
    (hb : ∀ (W : WX) (pn : List (Addr × Obj)) (xe : Value → Shared → Prop), Takes (X.tr pn xe) W → PassesOwn (model X.prog X.w) X.A X.env xe → PSs (X.tr pn xe) body (tb W)) (hh : MixOk X (hd0 :: hds) l) :
    PS X (.Try body (hd0 :: hds) [] [] pos) (fun D σ H => tb (wMix X.K Wout D l) D σ H) := by
  refine ⟨fun pins s σ H D I h => ?_⟩
  have ok := I.ok
  have stk : X.A.frames = some (X.env :: X.outer) := ok.frames.trans (congrArg some hs)
  refine wpAny_Try_except (wpAny_mono ((hb (wMix X.K Wout D l) (X.pn ++ pins) (fun e z1 => wpAny (model X.prog X.w) X.A (noteFrame e X.env) (fun _ z2 => wpAny (model X.prog X.w) X.A (setFlight e none) (fun _ z3 => wpAny (model X.prog X.w) X.A (handleBy e X.env (hd0 :: hds)) (SP X pins D) X.xe z3) X.xe z2) X.xe z1)
    (fun u t xx => ?_) PassesOwn.looking).run [] s σ H D (I.toTry _) h) (fun f t q => ?_) fun _ _ z => z)
  · obtain ⟨a, B, sI, pins', σ1, H1, cls, d, rfl, J0, nb, up, sky, na, os, ag, w⟩ := xx
    have J := J0.ofTry (X := X) ok
    rw [hs] at sky
    show wpAny (model X.prog X.w) X.A (noteFrame (.ref a) X.env) _ _ _
    refine Sky.land Zc.steady stk hf sky fun h3 fl up3 => ?_
    have JJ : Inv X pins σ1 H1 { t with heap := h3 } := J.landed nb fl.1 (up.trans up3) os ag
    obtain ⟨ob, ws, g1, g2, g3⟩ := fl.there
    have nfr : a ∉ frs (X.env :: X.outer) := fun m => by
      obtain ⟨_, o', e', no⟩ := fl.2.2.1.mem m
      cases g1.symm.trans e'
      exact no _ g3
    have nL : a ≠ X.env.locals := fun z => nfr (List.mem_filterMap.mpr ⟨X.env, List.mem_cons_self, hf.trans (congrArg some z.symm)⟩)
    have nF : a ∉ X.fs := fun m => by
      obtain ⟨e, me, q⟩ := List.mem_filterMap.mp m
      exact nfr (List.mem_filterMap.mpr ⟨e, List.mem_cons_of_mem _ me, q⟩)
    have SU := JJ.suite g1 g3 na nL nF
    have looks : PySem.W.Looks (model X.prog X.w) h3 (typeOf (.ref a)) cls := fun _ _ _ _ k q => wpAny_typeOf_ref (k _ _ g1) (by rw [g2.1]; exact q)
    -- the class that a clause names
    have named : ∀ {x : Str} {c : Value} {p : Pos} {Q : Value → Shared → Prop} {E : Value → Shared → Prop}, Names X x c → Q c { t with heap := h3 } → wpAny (model X.prog X.w) (X.A.mark (some (.ref a))) (eval (.Name x p) X.env) Q E { t with heap := h3 } := fun {x c p Q E} hc q => by
      obtain ⟨n1, n2, n3 | ⟨n3, n4, n5⟩⟩ := hc
      · exact ld_glob (X := X.suite a ((a, ob) :: (X.pn ++ pins))) SU n1 n3 q n2
      · exact ld_blt (X := X.suite a ((a, ob) :: (X.pn ++ pins))) SU n1 n3 n4 q n5 n2
    have go : ∀ {hds' : List ExceptHandler} {l' : List Clause}, MixOk X hds' l' → wMix X.K Wout D l' cls d σ1 H1 → wpAny (model X.prog X.w) X.A (handleBy (.ref a) X.env hds') (SP X pins D) X.xe { t with heap := h3 } := by
      intro hds' l' mk
      induction mk with
      | nil =>
        intro w
        refine wpAny_handleBy_nil ?_
        obtain ⟨_, _, _, oe, vs, T, oT, tr, e1, e2, e3, e4, _⟩ := id fl
        unfold PySem.passOn
        refine wpAny_bind (wpAny_field e1 e3 e4 ?_)
        rw [if_neg (show ¬ ((Value.ref T == Value.none) = true) by simp)]
        have last : wpAny (model X.prog X.w) X.A (setFlight (.ref a) X.env.frame) (fun _ z => wpAny (model X.prog X.w) X.A (throw (.ref a) : Sem Flow) (SP X pins D) X.xe z) X.xe { t with heap := h3 } := by
          rw [hf]
          exact HandSPX.setFlight_upZ fl fun h4 k4 up4 => wpAny_throw (tk _ _ ⟨a, B, sI, pins, σ1, H1, cls, d, rfl, J, nb, (up.trans up3).trans up4, .inr (.inr (by rw [hs]; exact k4)), na, os, ag, w⟩)
        first
          | exact wpAny_bind (wpAny_pure (wpAny_bind last))
          | exact wpAny_bind last
      | @plain x c ts s0 ss p q hds2 l2 hc hsu r ih =>
        rintro ⟨k, hk, hyes, hno⟩
        refine wpAny_handleBy_cons (codeAny_handlers_test (named hc ((PySem.W.exm_one (M := model X.prog X.w) JJ.kIn looks hk).here ?_))) (fun z => nomatch z)
        cases k with
        | false => exact ih (hno rfl)
        | true =>
          refine codeAny_handlers_suite (HandSPX.lands_againZ fl fun h4 fl4 up4 => ?_)
          obtain ⟨o4, w4, j1, j2, j3⟩ := fl4.there
          have S4 := (show Inv X pins σ1 H1 { t with heap := h4 } from J.landed nb fl4.1 ((up.trans up3).trans up4) os ag).suite j1 j3 na nL nF
          refine wpAny_mono ((hsu a o4 cls d (X.pn ++ pins) j2 ⟨_, j3⟩).run [] _ _ H1 _ S4 (hyes rfl a na)) (fun f z y => ?_) fun _ _ z => z.elim
          match f, y with
          | .next, ⟨σ2, H2, S2, y⟩ => exact ⟨σ2, H2, S2.unsuite ok, y⟩
          | .brk, ⟨σ2, H2, S2, y⟩ => exact ⟨σ2, H2, S2.unsuite ok, y⟩
          | .cont, ⟨σ2, H2, S2, y⟩ => exact ⟨σ2, H2, S2.unsuite ok, y⟩
          | .ret u, ⟨v, σ2, H2, S2, rv, y⟩ => exact ⟨v, σ2, H2, S2.unsuite ok, rv, y⟩
      | @named x n i c ts s0 ss p q hds2 l2 hc hi hl hsu r ih =>
        rintro ⟨k, hk, hyes, hno⟩
        refine wpAny_handleBy_cons (codeAny_handlers_test (named hc ((PySem.W.exm_one (M := model X.prog X.w) JJ.kIn looks hk).here ?_))) (fun z => nomatch z)
        cases k with
        | false => exact ih (hno rfl)
        | true =>
          refine codeAny_handlers_suite_as (HandSPX.lands_againZ fl fun h4 fl4 up4 => ?_)
          obtain ⟨o4, w4, j1, j2, j3⟩ := fl4.there
          have S4 := (show Inv X pins σ1 H1 { t with heap := h4 } from J.landed nb fl4.1 ((up.trans up3).trans up4) os ag).suite j1 j3 na nL nF
          refine store_ok (X := X.suite a ((a, o4) :: (X.pn ++ pins))) (v := .ref a) S4 hN hi (.inl hl) rfl (fun z5 S5 => ?_) (.inr hl)
          refine wpAny_mono ((hsu a o4 cls d (X.pn ++ pins) j2 ⟨_, j3⟩).run [] z5 _ H1 _ S5 (hyes rfl a na)) (fun f z y => ?_) fun _ _ z => z.elim
          match f, y with
          | .next, ⟨σ2, H2, S2, y⟩ => exact gone_ok (S2.unsuite ok) hN hi hl fun z7 J7 => ⟨_, H2, J7, y⟩
          | .brk, ⟨σ2, H2, S2, y⟩ => exact gone_ok (S2.unsuite ok) hN hi hl fun z7 J7 => ⟨_, H2, J7, y⟩
          | .cont, ⟨σ2, H2, S2, y⟩ => exact gone_ok (S2.unsuite ok) hN hi hl fun z7 J7 => ⟨_, H2, J7, y⟩
          | .ret u, ⟨v, σ2, H2, S2, rv, y⟩ => exact gone_ok (S2.unsuite ok) hN hi hl fun z7 J7 => ⟨v, _, H2, J7, rv, y⟩
    exact go hh w
  · match f, q with
    | .next, ⟨σ2, H2, J2, y⟩ => exact wpAny_execs_nil ⟨σ2, H2, J2.ofTry ok, y⟩
    | .brk, ⟨σ2, H2, J2, y⟩ => exact ⟨σ2, H2, J2.ofTry ok, y⟩
    | .cont, ⟨σ2, H2, J2, y⟩ => exact ⟨σ2, H2, J2.ofTry ok, y⟩
    | .ret u, ⟨v, σ2, H2, J2, rv, y⟩ => exact ⟨v, σ2, H2, J2.ofTry ok, rv, y⟩
end
end L2

set_option Elab.async false
set_option linter.all false
set_option maxRecDepth 100000
set_option maxHeartbeats 4000000
/-! what the law is told, and whether that is right -/
namespace Fp
open PySem PySem.Spec PyProof.Rows L2
theorem Reads.vt {c : Int} {t : Str} {l : Tb} (h : Reads c t l) : VT c 12 300 l := by
  rcases h with ⟨_, rfl⟩ | ⟨_, _, v⟩
  · exact (vt_nil c 12).mono (Nat.le_refl _) (by decide)
  · exact v
theorem asV_inj : ∀ {l l' : Tb}, l.map asV = l'.map asV → l = l'
  | [], [], _ => rfl
  | [], _ :: _, h => by cases h
  | _ :: _, [], h => by cases h
  | p :: r, p' :: r', h => by
    rw [List.map_cons, List.map_cons] at h
    injection h with h1 h2
    have h3 := asV_inj h2
    obtain ⟨a, b⟩ := p
    obtain ⟨a', b'⟩ := p'
    unfold asV at h1
    simp only [Prod.mk.injEq, V.int.injEq] at h1
    rw [h1.1, h1.2, h3]
theorem Reads.uniq {c : Int} {t : Str} {l l' : Tb} (h : Reads c t l) (h' : Reads c t l') : l = l' := by
  rcases h with ⟨e, rfl⟩ | ⟨e, e2, _⟩ <;> rcases h' with ⟨f, rfl⟩ | ⟨f, f2, _⟩
  · rfl
  · exact absurd e f
  · exact absurd f e
  · exact asV_inj (e2.symm.trans f2)
section
variable {P : Program} {w : World} {K : PySem.W.Frag} {mg : Str → Option Value} {base : Heap}
theorem NoC.same {H H' : Hp} {x : V} (h : NoC H x) (k : Same H H') : NoC H' x := h.ext (LamX.ExtN.of k)
theorem NoS.same {H H' : Hp} {x : V} (h : NoS K H x) (k : Same H H') : NoS K H' x := h.ext (LamX.ExtN.of k)
end
end Fp

set_option Elab.async false
set_option linter.all false
set_option maxRecDepth 100000
set_option maxHeartbeats 4000000
/-! spoiled texts, any texts, deep things, many words: as the law draws them -/
namespace Fp
open PySem PySem.Spec PyProof.Rows L2
section
variable {X : Cx}
theorem PE.weak {e : Expr} {t t' : TE} (h : PE X e t) (w : ∀ σ H Q, t' σ H Q → t σ H Q) : PE X e t' := ⟨fun pins s σ H Q I hw => h.run pins s σ H Q I (w σ H Q hw)⟩
end
/-- some text made of a text, a place and a sign -/
def tS : TE := fun σ H Q => ∃ (h : Option V) (t s : Str) (a m : Int) (v2 v6 : Option V), σ = [h, some (.str t), v2, some (.int a), some (.str s), some (.int m), v6] ∧ t.length ≤ 20000 ∧ s.length = 1 ∧ ∀ r : Str, r.length ≤ 3 * t.length + 2 → Q (.str r) H
section
variable {P : Program} {w : World} {K : PySem.W.Frag} {mg : Str → Option Value} {base : Heap}
def spSp : Sp := fun vs H Q _ => ∃ (h ca : Addr) (t : Str), vs = [.ref h, .str t] ∧ TapeAt ca H h ∧ t.length ≤ 20000 ∧ ∀ H' r, TapeAt ca H' h → But h H H' → r.length ≤ 3 * t.length + 2 → Q (.str r) H'
abbrev nSp : List Str := ["_law_tape_here", "_law_text", "_law_signs", "_law_at", "_law_sign", "_law_more", "_law_changed_here"]
theorem sc_sp : FnScope nSp ["_law_tape_here", "_law_text"] (defScope s__law_spoiled) := ⟨rfl, rfl, rfl, by decide +kernel, rfl, by decide +kernel, by decide +kernel⟩
theorem ok_sp (T : Top K mg) : Ok P w K mg base 2 "_law_spoiled" ["_law_tape_here", "_law_text"] spSp := by
  obtain ⟨fd, F⟩ := fn__law_spoiled T
  refine ⟨⟨fd, ?_, F.bindsN fun _ _ _ _ _ _ us hl => match us, hl with | [_, _], _ => rfl⟩, g__law_spoiled T, F.kp⟩
  refine F.ok sc_sp (fun vs H Q E h => ?_) (fun cdv A outer s H vs Q E hr h => ?_)
  · obtain ⟨h, ca, t, rfl, _⟩ := h
    rfl
  · obtain ⟨h, ca, t, rfl, hh, hl, q⟩ := h
    have nd := sc_sp.nd
    have hs : sizeLine = 16777216 := sizeLine_eq
    refine ⟨_, PSs.nox (pss_cons (ps_set (i := 2) nd rfl (Or.inl rfl) pe_str)
      (pss_cons (ps_set (i := 3) nd rfl (Or.inl rfl) (pc (ok_pick T) hr (pa_cons (pv 0) (pa_cons (pe_op op_add (pe_callB call_len_str (by rfl) (f_len T) PySem.boot_len (pa_cons (pv 1) pa_nil)) pe_int) pa_nil))))
      (pss_cons (ps_set (i := 4) nd rfl (Or.inl rfl) (pe_item_str (pv 2) (pc (ok_pick T) hr (pa_cons (pv 0) (pa_cons (pe_ix ix_list (pe_lst (pa_cons pe_int (pa_cons pe_int (pa_cons (pe_callB call_len_str (by rfl) (f_len T) PySem.boot_len (pa_cons (pv 2) pa_nil)) pa_nil))))
        (pc (ok_pick T) hr (pa_cons (pv 0) (pa_cons pe_int pa_nil))) (fun _ _ => rfl)) pa_nil))) (fun _ _ => rfl)))
      (pss_cons (ps_set (i := 5) nd rfl (Or.inl rfl) (pe_op op_add pe_int (pc (ok_pick T) hr (pa_cons (pv 0) (pa_cons pe_int pa_nil)))))
      (pss_cons (ps_set (i := 6) nd rfl (Or.inl rfl) (pe_lst (pa_cons (PE.weak (t' := tS) (pe_op op_add_str (pe_op op_add_str (pe_slice sl_str (pv 1) po_none (po_some (pv 3))) (pv 4)) (pe_slice sl_str (pv 1) (po_some (pe_op op_add (pv 3) pe_int)) po_none)) ?e1)
        (pa_cons (PE.weak (t' := tS) (pe_op op_add_str (pe_op op_add_str (pe_slice sl_str (pv 1) po_none (po_some (pv 3))) (pv 4)) (pe_slice sl_str (pv 1) (po_some (pv 3)) po_none)) ?e2)
        (pa_cons (PE.weak (t' := tS) (pe_op op_add_str (pe_slice sl_str (pv 1) po_none (po_some (pv 3))) (pe_slice sl_str (pv 1) (po_some (pe_op op_add (pv 3) pe_int)) po_none)) ?e3) pa_nil)))))
      (pss_cons (ps_expr (pe_bm PySem.F.plainAttrs_list PySem.F.slot_list_extend PySem.F.type_list_extend mt_extend (pv 6) (pa_cons (pe_lst (pa_cons (PE.weak (t' := tS) (pe_op op_add_str (pe_op op_add_str (pe_slice sl_str (pv 1) po_none (po_some (pv 3))) (pe_slice sl_str (pv 1) (po_some (pv 3)) (po_some (pe_op op_add (pv 3) (pv 5))))) (pe_slice sl_str (pv 1) (po_some (pv 3)) po_none)) ?f1)
        (pa_cons (PE.weak (t' := tS) (pe_op op_add_str (pe_slice sl_str (pv 1) po_none (po_some (pv 3))) (pe_slice sl_str (pv 1) (po_some (pe_op op_add (pv 3) (pv 5))) po_none)) ?f2)
        (pa_cons (PE.weak (t' := tS) (pe_op op_add_str (pv 1) (pv 4)) ?f3) (pa_cons (PE.weak (t' := tS) (pe_op op_add_str (pv 4) (pv 1)) ?f4) pa_nil))))) pa_nil)))
      (pss_one (ps_ret (pe_ix ix_list (pv 6) (pc (ok_pick T) hr (pa_cons (pv 0) (pa_cons pe_int pa_nil))) (fun _ _ => rfl)))))))))), ?_⟩
    case e1 =>
      rintro σ H Q ⟨h, t, s, a, m, v2, v6, rfl, hl, h1, q⟩
      have c1 := cutS_length t none (some a)
      have c2 := cutS_length t (some (a + 1)) none
      exact ⟨_, rfl, _, rfl, a, rfl, t, rfl, by omega, _, rfl, _, _, rfl, rfl, by omega, _, rfl, _, rfl, _, _, rfl, rfl, _, rfl, t, rfl, by omega, _, _, rfl, rfl, by rw [len_app]; omega, q _ (by rw [len_app, len_app]; omega)⟩
    case e2 =>
      rintro σ H Q ⟨h, t, s, a, m, v2, v6, rfl, hl, h1, q⟩
      have c1 := cutS_length t none (some a)
      have c2 := cutS_length t (some a) none
      exact ⟨_, rfl, _, rfl, a, rfl, t, rfl, by omega, _, rfl, _, _, rfl, rfl, by omega, _, rfl, _, rfl, a, rfl, t, rfl, by omega, _, _, rfl, rfl, by rw [len_app]; omega, q _ (by rw [len_app, len_app]; omega)⟩
    case e3 =>
      rintro σ H Q ⟨h, t, s, a, m, v2, v6, rfl, hl, h1, q⟩
      have c1 := cutS_length t none (some a)
      have c2 := cutS_length t (some (a + 1)) none
      exact ⟨_, rfl, _, rfl, a, rfl, t, rfl, by omega, _, rfl, _, rfl, _, _, rfl, rfl, _, rfl, t, rfl, by omega, _, _, rfl, rfl, by omega, q _ (by rw [len_app]; omega)⟩
    case f1 =>
      rintro σ H Q ⟨h, t, s, a, m, v2, v6, rfl, hl, h1, q⟩
      have c1 := cutS_length t none (some a)
      have c2 := cutS_length t (some a) (some (a + m))
      have c3 := cutS_length t (some a) none
      exact ⟨_, rfl, _, rfl, a, rfl, t, rfl, by omega, _, rfl, _, rfl, a, rfl, _, rfl, _, rfl, _, _, rfl, rfl, _, rfl, t, rfl, by omega, _, _, rfl, rfl, by omega, _, rfl, _, rfl, a, rfl, t, rfl, by omega, _, _, rfl, rfl, by rw [len_app]; omega, q _ (by rw [len_app, len_app]; omega)⟩
    case f2 =>
      rintro σ H Q ⟨h, t, s, a, m, v2, v6, rfl, hl, h1, q⟩
      have c1 := cutS_length t none (some a)
      have c2 := cutS_length t (some (a + m)) none
      exact ⟨_, rfl, _, rfl, a, rfl, t, rfl, by omega, _, rfl, _, rfl, _, rfl, _, _, rfl, rfl, _, rfl, t, rfl, by omega, _, _, rfl, rfl, by omega, q _ (by rw [len_app]; omega)⟩
    case f3 =>
      rintro σ H Q ⟨h, t, s, a, m, v2, v6, rfl, hl, h1, q⟩
      exact ⟨_, rfl, _, rfl, _, _, rfl, rfl, by omega, q _ (by rw [len_app]; omega)⟩
    case f4 =>
      rintro σ H Q ⟨h, t, s, a, m, v2, v6, rfl, hl, h1, q⟩
      exact ⟨_, rfl, _, rfl, _, _, rfl, rfl, by omega, q _ (by rw [len_app]; omega)⟩
    -- the place
    refine ⟨_, rfl, _, rfl, t, rfl, by omega, _, _, rfl, rfl, h, ca, (t.length : Int) + 1, rfl, by omega, by omega, hh, fun r1 H1 a0 a1 hh1 k1 => ?_⟩
    -- the sign
    generalize hsg : (Str.ofString "0123 +xyz\taw\n.:-XA456789") = sg
    have lsg : sg.length = 24 := by rw [← hsg]; decide +kernel
    refine ⟨_, rfl, _, rfl, _, rfl, sg, rfl, by omega, by show 3 ≤ sizeLine; omega, fun L nL => ?_⟩
    have s1 := same_upd (o := .lst [V.int 4, V.int 10, V.int sg.length]) nL
    have eL : (upd H1 L (.lst [V.int 4, V.int 10, V.int sg.length])) L = some (.lst [V.int 4, V.int 10, V.int sg.length]) := upd_same
    have neL := (hh1.fresh nL).1
    replace hh1 := hh1.same s1
    replace k1 := k1.trans (But.of s1)
    generalize upd H1 L (.lst [V.int 4, V.int 10, V.int sg.length]) = H1' at *
    refine ⟨_, rfl, h, ca, 3, rfl, by decide, by decide, hh1, fun r2 H2 b0 b1 hh2 k2 => ?_⟩
    obtain ⟨n2, rfl⟩ : ∃ n : Nat, r2 = n := ⟨r2.toNat, (Int.toNat_of_nonneg b0).symm⟩
    obtain ⟨m, hm0, hm, em⟩ : ∃ m : Int, 0 < m ∧ m ≤ 24 ∧ [V.int 4, V.int 10, V.int sg.length][n2]? = some (V.int m) := by
      have : n2 = 0 ∨ n2 = 1 ∨ n2 = 2 := by omega
      rcases this with rfl | rfl | rfl
      · exact ⟨4, by decide, by decide, rfl⟩
      · exact ⟨10, by decide, by decide, rfl⟩
      · exact ⟨sg.length, by omega, by omega, rfl⟩
    refine ⟨L, _, _, _, rfl, rfl, .inl (.inl (k2 _ _ eL neL)), atI_nat em, ?_⟩
    refine ⟨h, ca, m, rfl, hm0, by omega, hh2, fun r3 H3 c0 c1 hh3 k3 => ?_⟩
    obtain ⟨n3, rfl⟩ : ∃ n : Nat, r3 = n := ⟨r3.toNat, (Int.toNat_of_nonneg c0).symm⟩
    have hn3 : n3 < sg.cps.size := by
      have : sg.length = sg.cps.size := rfl
      omega
    refine ⟨sg, _, sg.cps[n3], rfl, rfl, by omega, by omega, by omega, by rw [Int.toNat_natCast, Array.getElem?_eq_getElem hn3], ?_⟩
    generalize hsn : (⟨#[sg.cps[n3]]⟩ : Str) = sn
    have lsn : sn.length = 1 := by rw [← hsn]; rfl
    -- how much more
    refine ⟨_, rfl, h, ca, 5, rfl, by decide, by decide, hh3, fun r4 H4 d0 d1 hh4 k4 => ⟨_, _, rfl, rfl, ?_⟩⟩
    have kk := ((k1.trans k2).trans k3).trans k4
    refine ⟨_, t, sn, r1, _, _, _, rfl, hl, lsn, fun t1 l1 => ⟨_, t, sn, r1, _, _, _, rfl, hl, lsn, fun t2 l2 => ⟨_, t, sn, r1, _, _, _, rfl, hl, lsn, fun t3 l3 => ?_⟩⟩⟩
    refine ⟨by show 3 ≤ sizeLine; omega, fun M nM => ?_⟩
    have s5 := same_upd (o := .lst [V.str t1, V.str t2, V.str t3]) nM
    have eM : (upd H4 M (.lst [V.str t1, V.str t2, V.str t3])) M = some (.lst [V.str t1, V.str t2, V.str t3]) := upd_same
    have neM := hh4.fresh nM
    have nM0 : H M = none := by
      cases e : H M with
      | none => rfl
      | some o => exact absurd (kk _ _ e neM.1) (by rw [nM]; intro z; cases z)
    replace hh4 := hh4.same s5
    replace kk := kk.trans (But.of s5)
    generalize upd H4 M (.lst [V.str t1, V.str t2, V.str t3]) = H5 at *
    refine ⟨_, rfl, .inl ⟨rfl, _, SqL.of eM⟩, ?_⟩
    refine ⟨_, t, sn, r1, _, _, _, rfl, hl, lsn, fun t4 l4 => ⟨_, t, sn, r1, _, _, _, rfl, hl, lsn, fun t5 l5 => ⟨_, t, sn, r1, _, _, _, rfl, hl, lsn, fun t6 l6 => ⟨_, t, sn, r1, _, _, _, rfl, hl, lsn, fun t7 l7 => ?_⟩⟩⟩⟩
    refine ⟨by show 4 ≤ sizeLine; omega, fun N nN => ?_⟩
    have s6 := same_upd (o := .lst [V.str t4, V.str t5, V.str t6, V.str t7]) nN
    have nMN : M ≠ N := ne_of_none eM nN
    refine ⟨M, N, _, _, rfl, rfl, s6 _ _ eM, upd_same, by show 3 + 4 ≤ sizeLine; omega, ?_⟩
    have eM2 : (upd (upd H5 N (.lst [V.str t4, V.str t5, V.str t6, V.str t7])) M (.lst ([V.str t1, V.str t2, V.str t3] ++ [V.str t4, V.str t5, V.str t6, V.str t7]))) M = some (.lst ([V.str t1, V.str t2, V.str t3] ++ [V.str t4, V.str t5, V.str t6, V.str t7])) := upd_same
    have hh6 := (hh4.same s6).off (d := M) (H' := upd (upd H5 N (.lst [V.str t4, V.str t5, V.str t6, V.str t7])) M (.lst ([V.str t1, V.str t2, V.str t3] ++ [V.str t4, V.str t5, V.str t6, V.str t7]))) but_upd neM.1.symm neM.2.symm
    have k6 : But h H (upd (upd H5 N (.lst [V.str t4, V.str t5, V.str t6, V.str t7])) M (.lst ([V.str t1, V.str t2, V.str t3] ++ [V.str t4, V.str t5, V.str t6, V.str t7]))) := fun b o e n => by
      rw [upd_ne (ne_of_none e nM0)]
      exact s6 _ _ (kk b o e n)
    generalize upd (upd H5 N (.lst [V.str t4, V.str t5, V.str t6, V.str t7])) M (.lst ([V.str t1, V.str t2, V.str t3] ++ [V.str t4, V.str t5, V.str t6, V.str t7])) = H6 at *
    refine ⟨_, rfl, _, rfl, h, ca, 7, rfl, by decide, by decide, hh6, fun r5 H7 e0 e1 hh7 k7 => ?_⟩
    obtain ⟨n5, rfl⟩ : ∃ n : Nat, r5 = n := ⟨r5.toNat, (Int.toNat_of_nonneg e0).symm⟩
    obtain ⟨r, hrl, er⟩ : ∃ r : Str, r.length ≤ 3 * t.length + 2 ∧ ([V.str t1, V.str t2, V.str t3] ++ [V.str t4, V.str t5, V.str t6, V.str t7])[n5]? = some (V.str r) := by
      have : n5 = 0 ∨ n5 = 1 ∨ n5 = 2 ∨ n5 = 3 ∨ n5 = 4 ∨ n5 = 5 ∨ n5 = 6 := by omega
      rcases this with rfl | rfl | rfl | rfl | rfl | rfl | rfl
      · exact ⟨t1, l1, rfl⟩
      · exact ⟨t2, l2, rfl⟩
      · exact ⟨t3, l3, rfl⟩
      · exact ⟨t4, l4, rfl⟩
      · exact ⟨t5, l5, rfl⟩
      · exact ⟨t6, l6, rfl⟩
      · exact ⟨t7, l7, rfl⟩
    refine ⟨M, _, _, _, rfl, rfl, .inl (.inl (k7 _ _ eM2 neM.1)), atI_nat er, ?_⟩
    exact q H7 r hh7 (k6.trans k7) hrl
end
end Fp

set_option Elab.async false
set_option linter.all false
set_option maxRecDepth 100000
set_option maxHeartbeats 4000000
/-! any signs, deep things, many words -/
namespace Fp
open PySem PySem.Spec PyProof.Rows L2
theorem joinL_len {S : List Nat} {m : Nat} : ∀ {ps : List (List Nat)}, (∀ p ∈ ps, p.length ≤ m) → (TL.joinL S ps).length ≤ ps.length * (m + S.length)
  | [], _ => Nat.zero_le _
  | [p], h => by
    have := h p List.mem_cons_self
    show p.length ≤ 1 * (m + S.length)
    omega
  | p :: q :: r, h => by
    have h1 := h p List.mem_cons_self
    have h2 := joinL_len (S := S) fun z hz => h z (List.mem_cons_of_mem p hz)
    show (p ++ (S ++ TL.joinL S (q :: r))).length ≤ ((q :: r).length + 1) * (m + S.length)
    rw [List.length_append, List.length_append, Nat.succ_mul]
    omega
theorem join_len {s : Str} {ys : List Str} {m : Nat} (h : ∀ y ∈ ys, y.length ≤ m) : (PySem.Txt.join s ys).length ≤ ys.length * (m + s.length) := by
  rw [TL.len_tl, TL.join_eq, TL.tl_join, TL.len_tl s]
  have := joinL_len (S := TL.tl s) (m := m) (ps := ys.map TL.tl) fun p hp => by
    obtain ⟨y, hy, rfl⟩ := List.mem_map.mp hp
    rw [← TL.len_tl]
    exact h y hy
  rwa [List.length_map] at this
theorem sum_lens {ys : List Str} {m : Nat} (h : ∀ y ∈ ys, y.length ≤ m) : (ys.map (·.length)).sum ≤ ys.length * m := by
  induction ys with
  | nil => exact Nat.zero_le _
  | cons y r ih =>
    rw [List.map_cons, List.sum_cons, List.length_cons, Nat.succ_mul]
    have h1 := h y List.mem_cons_self
    have h2 := ih fun z hz => h z (List.mem_cons_of_mem _ hz)
    omega
def tOd : TE := fun σ H Q => (∃ (v0 v1 v3 : Option V) (x : V), σ = [v0, v1, some x, v3]) ∧ ∀ p H', Same H H' → H p = none → OddA H' p → Q (.ref p) H'
section
variable {P : Program} {w : World} {K : PySem.W.Frag} {mg : Str → Option Value} {base : Heap}
def spAny : Sp := fun vs H Q _ => ∃ h ca : Addr, vs = [.ref h] ∧ TapeAt ca H h ∧ ∀ H' r, TapeAt ca H' h → But h H H' → r.length ≤ 30 → Q (.str r) H'
abbrev nAny : List Str := ["_law_tape_here", "_law_pieces", "_law_turn"]
def spDp : Sp := fun vs H Q _ => ∃ h ca : Addr, vs = [.ref h] ∧ TapeAt ca H h ∧ ∀ H' a, TapeAt ca H' h → But h H H' → H a = none → OddA H' a → Q (.ref a) H'
abbrev nDp : List Str := ["_law_tape_here", "_law_way", "_law_found", "_law_turn"]
theorem sc_dp : FnScope nDp ["_law_tape_here"] (defScope s__law_deep) := ⟨rfl, rfl, rfl, by decide +kernel, rfl, by decide +kernel, by decide +kernel⟩
theorem ok_dp (T : Top K mg) : Ok P w K mg base 2 "_law_deep" ["_law_tape_here"] spDp := by
  obtain ⟨fd, F⟩ := fn__law_deep T
  refine ⟨⟨fd, ?_, F.bindsN fun _ _ _ _ _ _ us hl => match us, hl with | [_], _ => rfl⟩, g__law_deep T, F.kp⟩
  refine F.ok sc_dp (fun vs H Q E h => ?_) (fun cdv A outer s H vs Q E hr h => ?_)
  · obtain ⟨h, ca, rfl, _⟩ := h
    rfl
  · obtain ⟨h, ca, rfl, hh, q⟩ := h
    have nd := sc_dp.nd
    have hs : sizeLine = 16777216 := sizeLine_eq
    refine ⟨_, PSs.nox (pss_cons (ps_set (i := 1) nd rfl (Or.inl rfl) (pc (ok_pick T) hr (pa_cons (pv 0) (pa_cons pe_int pa_nil))))
      (pss_cons (ps_set (i := 2) nd rfl (Or.inl rfl) (pe_ix ix_list (pe_lst (pa_cons pe_int (pa_cons (pe_tup pa_nil) (pa_cons pe_str (pa_cons pe_bl pa_nil))))) (pc (ok_pick T) hr (pa_cons (pv 0) (pa_cons pe_int pa_nil))) (fun _ _ => rfl)))
      (pss_cons (ps_for PassesOwn.never rfl (pi_range1 (by rfl) (f_range T) (pa_cons pe_int pa_nil)) (pg_name (i := 3) nd rfl (Or.inl rfl))
        (pss_one (ps_set (i := 2) nd rfl (Or.inl rfl) (pe_ix ix_list (pe_lst (pa_cons (PE.weak (t' := tOd) (pe_tup (pa_cons (pv 2) pa_nil)) ?o1) (pa_cons (PE.weak (t' := tOd) (pe_lst (pa_cons (pv 2) pa_nil)) ?o2)
          (pa_cons (PE.weak (t' := tOd) (pe_disp (pps_cons pe_int (pv 2) pps_nil) (by rfl) (by rfl) (fun z => by cases z) (by decide)) ?o3) (pa_cons (PE.weak (t' := tOd) (pe_tup (pa_cons (pv 2) (pa_cons pe_str pa_nil))) ?o4) pa_nil))))) (pv 1) (fun _ _ => rfl)))))
      (pss_one (ps_ret (pv 2)))))), ?_⟩
    case o1 =>
      rintro σ H Q ⟨⟨v0, v1, v3, x, rfl⟩, q⟩
      exact ⟨_, rfl, by show 1 ≤ sizeLine; omega, fun p np => q p _ (same_upd np) np (.tup upd_same)⟩
    case o2 =>
      rintro σ H Q ⟨⟨v0, v1, v3, x, rfl⟩, q⟩
      exact ⟨_, rfl, by show 1 ≤ sizeLine; omega, fun p np => q p _ (same_upd np) np (.lst upd_same)⟩
    case o3 =>
      rintro σ H Q ⟨⟨v0, v1, v3, x, rfl⟩, q⟩
      exact fun p np => ⟨_, rfl, upd_same, [(Sum.inl 0, x)], rfl, Nat.le_of_ble_eq_true rfl, q p _ (by rw [upd_upd]; exact same_upd np) np (.dct upd_same)⟩
    case o4 =>
      rintro σ H Q ⟨⟨v0, v1, v3, x, rfl⟩, q⟩
      exact ⟨_, rfl, by show 2 ≤ sizeLine; omega, fun p np => q p _ (same_upd np) np (.tup upd_same)⟩
    refine ⟨_, rfl, h, ca, 4, rfl, by decide, by decide, hh, fun way H1 w0 w1 hh1 k1 => ?_⟩
    obtain ⟨nw, rfl⟩ : ∃ n : Nat, way = n := ⟨way.toNat, (Int.toNat_of_nonneg w0).symm⟩
    refine ⟨by show 0 ≤ sizeLine; omega, fun p0 n0 => ?_⟩
    have s1 := same_upd (o := .tup []) n0
    have e0 : (upd H1 p0 (.tup [])) p0 = some (.tup []) := upd_same
    have np0 := (hh1.fresh n0).1
    replace hh1 := hh1.same s1
    replace k1 := k1.trans (But.of s1)
    generalize upd H1 p0 (.tup []) = H2 at *
    refine ⟨by show 4 ≤ sizeLine; omega, fun L nL => ?_⟩
    have s2 := same_upd (o := .lst [V.int 0, V.ref p0, V.str "x", V.bl true]) nL
    have eL : (upd H2 L (.lst [V.int 0, V.ref p0, V.str "x", V.bl true])) L = some (.lst [V.int 0, V.ref p0, V.str "x", V.bl true]) := upd_same
    have neL := (hh1.fresh nL).1
    replace hh1 := hh1.same s2
    replace k1 := k1.trans (But.of s2)
    replace e0 := s2 _ _ e0
    generalize upd H2 L (.lst [V.int 0, V.ref p0, V.str "x", V.bl true]) = H3 at *
    refine ⟨_, rfl, h, ca, 4, rfl, by decide, by decide, hh1, fun r H4 g0 g1 hh4 k4 => ?_⟩
    obtain ⟨n, rfl⟩ : ∃ n : Nat, r = n := ⟨r.toNat, (Int.toNat_of_nonneg g0).symm⟩
    obtain ⟨x, ex, hx⟩ : ∃ x, [V.int 0, V.ref p0, V.str "x", V.bl true][n]? = some x ∧ Odd H4 x := by
      have : n = 0 ∨ n = 1 ∨ n = 2 ∨ n = 3 := by omega
      rcases this with rfl | rfl | rfl | rfl
      · exact ⟨_, rfl, .int 0⟩
      · exact ⟨_, rfl, .ref (.tup (k4 _ _ e0 np0))⟩
      · exact ⟨_, rfl, .str _⟩
      · exact ⟨_, rfl, .bl _⟩
    refine ⟨L, _, _, _, rfl, rfl, .inl (.inl (k4 _ _ eL neL)), atI_nat ex, ?_⟩
    refine ⟨34, rfl, by decide, by decide, ?_⟩
    have kk := k1.trans k4
    refine for_it walk_range (fun i σ H' => (∃ (y : V) (v3 : Option V), σ = [some (.ref h), some (.int (nw : Int)), some y, v3] ∧ Odd H' y ∧ (0 < i → ∃ b, y = .ref b ∧ H b = none)) ∧ TapeAt ca H' h ∧ But h H H')
      ⟨⟨x, none, rfl, hx, fun z => absurd z (by decide)⟩, hh4, kk⟩ (fun _ _ _ _ _ => trivial) ?_ ?_
    · rintro i z σ Ha Hb hi ⟨⟨y, v3, rfl, oy, _⟩, p1, p2⟩ ⟨rfl, rfl⟩
      have fresh : ∀ {Hz : Hp} {b : Addr}, But h H Hz → TapeAt ca Hz h → Hz b = none → H b = none := fun {Hz b} kz tz nz => by
        cases e : H b with
        | none => rfl
        | some o =>
          have := kz _ _ e (tz.fresh nz).1
          rw [nz] at this
          cases this
      refine ⟨⟨_, _, _, _, rfl⟩, fun q1 G1 t1 m1 o1 => ⟨⟨_, _, _, _, rfl⟩, fun q2 G2 t2 m2 o2 => ⟨⟨_, _, _, _, rfl⟩, fun q3 G3 t3 m3 o3 => ⟨⟨_, _, _, _, rfl⟩, fun q4 G4 t4 m4 o4 => ?_⟩⟩⟩⟩
      have f1 := fresh p2 p1 m1
      have f2 := fresh (p2.trans (But.of t1)) (p1.same t1) m2
      have f3 := fresh (p2.trans (But.of (t1.trans t2))) (p1.same (t1.trans t2)) m3
      have f4 := fresh (p2.trans (But.of ((t1.trans t2).trans t3))) (p1.same ((t1.trans t2).trans t3)) m4
      refine ⟨by show 4 ≤ sizeLine; omega, fun M nM => ?_⟩
      have s5 := same_upd (o := .lst [V.ref q1, V.ref q2, V.ref q3, V.ref q4]) nM
      have st := (((t1.trans t2).trans t3).trans t4).trans s5
      obtain ⟨b, eb, hb, ob⟩ : ∃ b, [V.ref q1, V.ref q2, V.ref q3, V.ref q4][nw]? = some (V.ref b) ∧ H b = none ∧ OddA (upd G4 M (.lst [V.ref q1, V.ref q2, V.ref q3, V.ref q4])) b := by
        have : nw = 0 ∨ nw = 1 ∨ nw = 2 ∨ nw = 3 := by omega
        rcases this with rfl | rfl | rfl | rfl
        · exact ⟨q1, rfl, f1, (((o1.same t2).same t3).same t4).same s5⟩
        · exact ⟨q2, rfl, f2, ((o2.same t3).same t4).same s5⟩
        · exact ⟨q3, rfl, f3, (o3.same t4).same s5⟩
        · exact ⟨q4, rfl, f4, o4.same s5⟩
      refine ⟨_, rfl, M, _, _, _, rfl, rfl, .inl (.inl upd_same), atI_nat eb, ?_⟩
      exact ⟨⟨_, _, rfl, .ref ob, fun _ => ⟨b, rfl, hb⟩⟩, p1.same st, p2.trans (But.of st)⟩
    · rintro σ Ha ⟨⟨y, v3, rfl, oy, fy⟩, p1, p2⟩
      obtain ⟨b, rfl, hb⟩ := fy (by decide)
      cases oy with
      | ref o => exact ⟨_, rfl, q Ha b p1 p2 hb o⟩
def spAllW : Sp := fun vs H Q _ => ∃ n : Nat, vs = [.int n] ∧ n ≤ 310 ∧ ∀ H' r (ws : List Str), Same H H' → H r = none → H' r = some (.lst (ws.map V.str)) → ws.length ≤ 310 → (∀ w ∈ ws, w.length ≤ 310) → Q (.ref r) H'
abbrev nAllW : List Str := ["_law_many", "_law_found", "_law_at"]
end
end Fp

set_option Elab.async false
set_option linter.all false
set_option maxRecDepth 100000
set_option maxHeartbeats 4000000
/-! what a shuffled list of pairs is -/
namespace Fp
open PySem PySem.Spec PyProof.Rows L2
theorem nd_perm {l l' : Tb} (h : l'.Perm l) (v : Nd l) : Nd l' := (List.Perm.map Prod.fst h).nodup_iff.mpr v
theorem nd_nodup {l : Tb} (v : Nd l) : l.Nodup := List.Pairwise.imp (fun {a b} (h : a.1 ≠ b.1) e => h (by rw [e])) (List.pairwise_map.mp v)
theorem VT.perm {c : Int} {m k : Nat} {l l' : Tb} (v : VT c m k l) (h : l'.Perm l) : VT c m k l' :=
  ⟨nd_perm h v.nd, fun p hp => v.nu p (h.mem_iff.mp hp), fun p hp => v.wd p (h.mem_iff.mp hp), by rw [h.length_eq]; exact v.ln⟩
theorem VT.clk {c c' : Int} {m k : Nat} {l : Tb} (v : VT c m k l) (h : ∀ p ∈ l, p.2 < c') : VT c' m k l := ⟨v.nd, fun p hp => ⟨(v.nu p hp).1, h p hp⟩, v.wd, v.ln⟩
theorem canon_perm {l l' : Tb} (hl : Nd l) (h : l'.Perm l) : canon l' = canon l := by
  have hl' : Nd l' := nd_perm h hl
  refine canon_eq hl' hl (fun x => (List.Perm.map Prod.fst h).mem_iff) fun x => ?_
  by_cases hx : x ∈ l.map (·.1)
  · obtain ⟨p, hp, rfl⟩ := List.mem_map.mp hx
    rw [num_find hl hp, num_find hl' (h.mem_iff.mpr hp)]
  · rw [num_not hx, num_not fun z => hx ((List.Perm.map Prod.fst h).mem_iff.mp z)]
theorem canon_permL {l : Tb} (hl : Nd l) : (canon l).Perm l := by
  refine (List.perm_ext_iff_of_nodup (nd_nodup (canon_nd hl)) (nd_nodup hl)).mpr fun p => ?_
  constructor
  · intro hp
    obtain ⟨h1, h2⟩ := canon_mem hp
    obtain ⟨q, hq, e⟩ := List.mem_map.mp h1
    have h3 := num_find hl hq
    have : p = q := by
      obtain ⟨a, b⟩ := p
      obtain ⟨a', b'⟩ := q
      simp only at e h2 h3
      subst e
      rw [h2, h3]
    rw [this]
    exact hq
  · intro hp
    have h1 : p.1 ∈ (canon l).map (·.1) := by
      rw [canon_keys]
      exact ordW_mem.mpr (List.mem_map.mpr ⟨p, hp, rfl⟩)
    obtain ⟨q, hq, e⟩ := List.mem_map.mp h1
    obtain ⟨_, h2⟩ := canon_mem hq
    have h3 := num_find hl hp
    have : p = q := by
      obtain ⟨a, b⟩ := p
      obtain ⟨a', b'⟩ := q
      simp only at e h2 h3
      subst e
      rw [h2, h3]
    rw [this]
    exact hq
theorem perm_unmap {α β : Type} {f : α → β} {ys zs : List β} (h : ys.Perm zs) : ∀ z : List α, zs = z.map f → ∃ z' : List α, z'.Perm z ∧ ys = z'.map f := by
  induction h with
  | nil =>
    intro z e
    exact ⟨[], by rw [List.map_eq_nil_iff.mp e.symm], rfl⟩
  | cons x _ ih =>
    intro z e
    cases z with
    | nil => cases e
    | cons a r =>
      rw [List.map_cons] at e
      injection e with e1 e2
      obtain ⟨z', h1, h2⟩ := ih r e2
      exact ⟨a :: z', .cons _ h1, by rw [List.map_cons, h2, e1]⟩
  | swap x y l =>
    intro z e
    match z, e with
    | [], e => cases e
    | [a], e => cases e
    | a :: b :: r, e =>
      rw [List.map_cons, List.map_cons] at e
      injection e with e1 e2
      injection e2 with e2 e3
      exact ⟨b :: a :: r, .swap _ _ _, by rw [List.map_cons, List.map_cons, e1, e2, e3]⟩
  | trans _ _ ih1 ih2 =>
    intro z e
    obtain ⟨z2, h1, h2⟩ := ih2 z e
    obtain ⟨z1, h3, h4⟩ := ih1 z2 h2
    exact ⟨z1, h3.trans h1, h4⟩
theorem prs_shuf {H : Hp} {ps : List Addr} {l : Tb} {ys : List V} (h : PrsAt H ps l) (p : ys.Perm (ps.map V.ref)) : ∃ (ps' : List Addr) (l' : Tb), ys = ps'.map V.ref ∧ l'.Perm l ∧ PrsAt H ps' l' := by
  obtain ⟨h1, h2⟩ := h
  have e1 : (ps.zip l).map Prod.fst = ps := by
    rw [List.map_fst_zip (by omega)]
  have e2 : (ps.zip l).map Prod.snd = l := by
    rw [List.map_snd_zip (by omega)]
  obtain ⟨z', g1, g2⟩ := perm_unmap (f := fun q : Addr × (Str × Int) => V.ref q.1) p (ps.zip l) (by
    rw [show ps.map V.ref = ((ps.zip l).map Prod.fst).map V.ref by rw [e1], List.map_map]
    rfl)
  refine ⟨z'.map Prod.fst, z'.map Prod.snd, ?_, ?_, ?_, fun i q e => ?_⟩
  · rw [g2, List.map_map]
    rfl
  · have := g1.map Prod.snd
    rw [e2] at this
    exact this
  · rw [List.length_map, List.length_map]
  · rw [List.getElem?_map] at e
    cases ez : z'[i]? with
    | none =>
      rw [ez] at e
      cases e
    | some y =>
      rw [ez] at e
      have ey : y.2 = q := Option.some.inj e
      have hm : y ∈ ps.zip l := g1.mem_iff.mp (List.mem_of_getElem? ez)
      obtain ⟨j, hj⟩ := List.mem_iff_getElem?.mp hm
      rw [List.getElem?_zip_eq_some] at hj
      obtain ⟨j1, j2⟩ := hj
      obtain ⟨p0, k1, k2⟩ := h2 j y.2 j2
      rw [j1] at k1
      obtain rfl : y.1 = p0 := Option.some.inj k1
      refine ⟨y.1, by rw [List.getElem?_map, ez]; rfl, ?_⟩
      rw [← ey]
      exact k2
theorem prs_of {H : Hp} {t : Addr} {l : Tb} (h : WordsAt H t l) : ∃ (ps : List Addr) (o : Obj), H t = some (.frz o (.tup (ps.map V.ref))) ∧ PrsAt H ps l := by
  obtain ⟨ps, o, h1, _, h3⟩ := h
  refine ⟨ps, o, h1, Paired.length h3, fun i q e => ?_⟩
  clear h1
  induction h3 generalizing i with
  | nil => simp at e
  | cons e0 _ ih =>
    cases i with
    | zero =>
      cases Option.some.inj e
      exact ⟨_, rfl, e0⟩
    | succ i => exact ih i e
theorem canon_nil : canon [] = [] := List.perm_nil.mp (canon_permL List.nodup_nil)
theorem canon_one (x : Str) (n : Int) : canon [(x, n)] = [(x, n)] := List.perm_singleton.mp (canon_permL (show ([x] : List Str).Nodup from List.nodup_cons.mpr ⟨List.not_mem_nil, List.nodup_nil⟩))
theorem tabs_but {T : List (Addr × Str)} {H H' : Hp} {h : Addr} (t : LamX.Tabs T H) (hl : ∃ xs, H h = some (.lst xs)) (k : But h H H') : LamX.Tabs T H' := fun p hp => by
  obtain ⟨xs, hx⟩ := hl
  obtain ⟨ps, h1, h2, h3⟩ := t p hp
  refine ⟨ps, k _ _ h1 (ne_of h1 hx (by intro y; cases y)), h2, fun pos cv hc => ?_⟩
  obtain ⟨c, e1, e2⟩ := h3 pos cv hc
  exact ⟨c, e1, k _ _ e2 (ne_of e2 hx (by intro y; cases y))⟩
end Fp

set_option Elab.async false
set_option linter.all false
set_option maxRecDepth 100000
set_option maxHeartbeats 4000000
/-! read_row of anything -/
namespace Fp
open PySem PySem.Spec PyProof.Rows L2
def nlS : Str := "\n"
/-- a line that a clock reads -/
def Rdl (c : Int) (s : Str) : Prop := ∃ l, Reads c s l
def RdAll (c : Int) (init : List Str) (ls : List Tb) : Prop := ∀ (j : Nat) (l : Tb), ls[j]? = some l → ∃ s, init[j + 1]? = some s ∧ Reads c s l
/-- the line of which a row of lines is refused -/
def RowBad (init : List Str) (bh : Str) (n : Int) : Prop :=
  ((∃ s, init[0]? = some s ∧ (∀ c, isCk c → s ≠ dgt c)) ∧ n = 1) ∨
  (∃ (c : Int) (k : Nat) (s : Str), isCk c ∧ init[0]? = some (dgt c) ∧ 1 ≤ k ∧ init[k]? = some s ∧ ¬ Rdl c s ∧ (∀ j, 1 ≤ j → j < k → ∃ s', init[j]? = some s' ∧ Rdl c s') ∧ n = (k : Int) + 1) ∨
  ((init = [] ∨ ∃ c, isCk c ∧ init[0]? = some (dgt c) ∧ ∀ j s, 1 ≤ j → init[j]? = some s → Rdl c s) ∧ (init.length < 2 ∨ bh ≠ "") ∧ n = (init.length : Int) + 1)
/-- a row of lines that tells bags -/
def RowOk (init : List Str) (bh : Str) (c : Int) (ls : List Tb) : Prop := isCk c ∧ init[0]? = some (dgt c) ∧ ls.length + 1 = init.length ∧ 1 ≤ ls.length ∧ bh = "" ∧ RdAll c init ls
theorem ck_dgt {c c' : Int} (h : isCk c) (h' : isCk c') (e : dgt c = dgt c') : c = c' := by
  have h1 := ck_range h
  have h2 := ck_range h'
  rcases h with rfl | rfl | rfl | rfl <;> rcases h' with rfl | rfl | rfl | rfl <;> first | rfl | (exact absurd e (by decide +kernel))
theorem RdAll.rd {c : Int} {init : List Str} {ls : List Tb} (h : RdAll c init ls) (hl : ls.length + 1 = init.length) {j : Nat} {s : Str} (h1 : 1 ≤ j) (e : init[j]? = some s) : Rdl c s := by
  have hj : j < init.length := (List.getElem?_eq_some_iff.mp e).1
  have hj2 : j - 1 < ls.length := by omega
  obtain ⟨s', e', r⟩ := h (j - 1) _ (List.getElem?_eq_getElem hj2)
  rw [show j - 1 + 1 = j by omega, e] at e'
  cases e'
  exact ⟨_, r⟩
theorem bad_uniq {init : List Str} {bh : Str} {n m : Int} (h : RowBad init bh n) (h' : RowBad init bh m) : n = m := by
  rcases h with ⟨⟨s, e, hs⟩, rfl⟩ | ⟨c, k, s, hc, e, h1, ek, hn, hb, rfl⟩ | ⟨h, h2, rfl⟩ <;> rcases h' with ⟨⟨s', e', hs'⟩, rfl⟩ | ⟨c', k', s', hc', e', h1', ek', hn', hb', rfl⟩ | ⟨h', h2', rfl⟩
  · rfl
  · rw [e] at e'
    cases e'
    exact absurd rfl (hs c' hc')
  · rcases h' with rfl | ⟨c', hc', e', _⟩
    · cases e
    · rw [e] at e'
      cases e'
      exact absurd rfl (hs c' hc')
  · rw [e] at e'
    cases e'
    exact absurd rfl (hs' c hc)
  · have ec : c = c' := ck_dgt hc hc' (Option.some.inj (e.symm.trans e'))
    subst ec
    have : ¬ k < k' := fun z => by
      obtain ⟨s2, e2, r⟩ := hb' k h1 z
      rw [ek] at e2
      cases e2
      exact hn r
    have : ¬ k' < k := fun z => by
      obtain ⟨s2, e2, r⟩ := hb k' h1' z
      rw [ek'] at e2
      cases e2
      exact hn' r
    omega
  · exfalso
    rcases h' with rfl | ⟨c', hc', e', ha⟩
    · cases e
    · have ec : c = c' := ck_dgt hc hc' (Option.some.inj (e.symm.trans e'))
      subst ec
      exact hn (ha k s h1 ek)
  · rcases h with rfl | ⟨c, hc, e, _⟩
    · cases e'
    · rw [e] at e'
      cases e'
      exact absurd rfl (hs' c hc)
  · exfalso
    rcases h with rfl | ⟨c, hc, e, ha⟩
    · cases e'
    · have ec : c = c' := ck_dgt hc hc' (Option.some.inj (e.symm.trans e'))
      subst ec
      exact hn' (ha k' s' h1' ek')
  · rfl
theorem bad_ok {init : List Str} {bh : Str} {n : Int} {c : Int} {ls : List Tb} (h : RowBad init bh n) (o : RowOk init bh c ls) : False := by
  obtain ⟨hc, e, hl, h1, hb, ha⟩ := o
  rcases h with ⟨⟨s, e', hs⟩, rfl⟩ | ⟨c', k, s, hc', e', h1', ek, hn, _, rfl⟩ | ⟨h, h2, rfl⟩
  · rw [e] at e'
    cases e'
    exact hs c hc rfl
  · have ec : c = c' := ck_dgt hc hc' (Option.some.inj (e.symm.trans e'))
    subst ec
    exact hn (ha.rd hl h1' ek)
  · rcases h2 with h2 | h2
    · omega
    · exact h2 hb
theorem ok_uniq {init : List Str} {bh : Str} {c c' : Int} {ls ls' : List Tb} (o : RowOk init bh c ls) (o' : RowOk init bh c' ls') : c = c' ∧ ls = ls' := by
  obtain ⟨hc, e, hl, h1, hb, ha⟩ := o
  obtain ⟨hc', e', hl', h1', hb', ha'⟩ := o'
  have ec : c = c' := ck_dgt hc hc' (Option.some.inj (e.symm.trans e'))
  subst ec
  refine ⟨rfl, List.ext_getElem (by omega) fun j j1 j2 => ?_⟩
  obtain ⟨s, es, r⟩ := ha j _ (List.getElem?_eq_getElem j1)
  obtain ⟨s', es', r'⟩ := ha' j _ (List.getElem?_eq_getElem j2)
  rw [es] at es'
  cases es'
  exact r.uniq r'
def ckT : Tb := [(dgt 2, 2), (dgt 3, 3), (dgt 5, 5), (dgt 7, 7)]
theorem ckT_yes {c : Int} (h : isCk c) : valV (kv ckT) (Sum.inr (dgt c) : Key) = some (.int c) := by
  have h1 : has ckT (dgt c) = true ∧ num ckT (dgt c) = c := by rcases h with rfl | rfl | rfl | rfl <;> decide +kernel
  rw [valV_yes h1.1, h1.2]
theorem ckT_no {s : Str} (h : ∀ c, isCk c → s ≠ dgt c) : valV (kv ckT) (Sum.inr s : Key) = none := by
  refine (valV_no ?_).1
  cases e : has ckT s with
  | false => rfl
  | true =>
    exfalso
    obtain ⟨p, hp, e2⟩ := List.mem_map.mp (has_iff.mp e)
    have hq : p = (dgt 2, 2) ∨ p = (dgt 3, 3) ∨ p = (dgt 5, 5) ∨ p = (dgt 7, 7) := by simpa [ckT] using hp
    rcases hq with rfl | rfl | rfl | rfl
    · exact h 2 (.inl rfl) e2.symm
    · exact h 3 (.inr (.inl rfl)) e2.symm
    · exact h 5 (.inr (.inr (.inl rfl))) e2.symm
    · exact h 7 (.inr (.inr (.inr rfl))) e2.symm
section
variable {P : Program} {w : World} {K : PySem.W.Frag} {mg : Str → Option Value} {base : Heap}
def BagsAt (K : PySem.W.Frag) (H : Hp) (c : Int) (bs : List Addr) (ls : List Tb) : Prop := Paired (fun b l => BagAt K H b c (canon l)) bs ls
def spRR (K : PySem.W.Frag) : Sp := fun vs H Q E => ∃ y : V, vs = [y] ∧ ((NoS K H y ∧ ∀ H' dx, Same H H' → H' dx = some (.xd [("line", .int 0)]) → E (.ref (He.ga K "BadText")) (some dx) H') ∨
  ∃ (t : Str) (init : List Str) (bh : Str), y = .str t ∧ t.length ≤ 200000 ∧ Txt.split t nlS = init ++ [bh] ∧ (∀ n, RowBad init bh n → ∀ H' dx, Same H H' → H' dx = some (.xd [("line", .int n)]) → E (.ref (He.ga K "BadText")) (some dx) H') ∧
    (∀ c ls, RowOk init bh c ls → ∀ H' a bs, Same H H' → H' a = some (.lst (bs.map V.ref)) → BagsAt K H' c bs ls → Q (.ref a) H'))
abbrev nRR : List Str := ["text", "lines", "behind", "clocks", "found", "number", "line", "bag", "clock"]
theorem sc_rr : FnScope nRR ["text"] (defScope s_read_row) := ⟨rfl, rfl, rfl, by decide +kernel, rfl, by decide +kernel, by decide +kernel⟩
theorem okX_rr (T : Top K mg) : OkX P w K mg base 8 "read_row" ["text"] (spRR K) := by
  obtain ⟨fd, F⟩ := fn_read_row T
  obtain ⟨fd1, F1, b1⟩ := ini_BadText (P := P) (w := w) (base := base) T
  refine ⟨⟨fd, ?_, F.bindsN fun _ _ _ _ _ _ us hl => match us, hl with | [_], _ => rfl⟩, g_read_row T, F.kp⟩
  refine F.ok sc_rr (fun vs H Q E h => ?_) (fun cdv A outer s H vs Q E hr h => ?_)
  · obtain ⟨y, rfl, _⟩ := h
    rfl
  · obtain ⟨y, rfl, h⟩ := h
    have nd := sc_rr.nd
    have hu := hu_of hr
    have hs : sizeLine = 16777216 := sizeLine_eq
    have hr2 : Room 2 _ := hr.mono (by decide)
    have hr3 : Room 3 _ := hr.mono (by decide)
    refine ⟨_, pss_cons (ps_expr (pcX (takes_of rfl rfl rfl rfl) (okX_cs T) hr3 (pa_cons (pv 0) pa_nil)))
      (pss_cons (ps_set (i := 1) nd rfl (Or.inl rfl) (pe_m1 PySem.F.slot_str_split PySem.F.type_str_split mt_split (pv 0) pe_str))
      (pss_cons (ps_set (i := 2) nd rfl (Or.inl rfl) (pe_bm0 PySem.F.plainAttrs_list PySem.F.slot_list_pop PySem.F.type_list_pop mt_pop (pv 1)))
      (pss_cons (ps_setDc (j := 3) (mine := [("clock", 8)]) (tg := gName 8) (tc := tYes) (t1 := tFmt (tVar 8)) (t2 := tVar 8) rfl nd rfl rfl (sw_dict rfl rfl rfl (by decide +kernel)) (pi_tup (pe_glob (v := .ref (He.ga K "CLOCKS")) rfl (g_CLOCKS T) rfl)) (blkOk_by (N := nRR) (sc := defScope s_read_row) (by decide +kernel))
        (fun _ _ _ _ _ => pg_name (i := 8) nd rfl (Or.inl rfl)) (fun _ _ _ _ _ => by exact pts_nil) (fun _ _ _ _ _ => by exact pe_joined1 (pe_fmt (pv 8))) (fun _ _ _ _ _ => pv 8))
      (pss_cons (ps_set (i := 4) nd rfl (Or.inl rfl) (pe_lst pa_nil))
      (pss_cons (ps_for (passes_of rfl) rfl (pi_enum rfl (f_enumerate T) (pa_cons (pv 1) pa_nil)) (pg_tup rfl (pgs_cons (pg_name (i := 5) nd rfl (Or.inl rfl)) (pgs_cons (pg_name (i := 6) nd rfl (Or.inl rfl)) pgs_nil)))
        (pss_cons (ps_set (i := 7) nd rfl (Or.inl rfl) (pe_ifExp (pt_cmpR op_gt (pv 5) pe_int (nomark _)) (pc (ok_tbG T) hr (pa_cons (pe_dget hu (pv 3) (pe_ix ix_list (pv 1) pe_int (fun _ _ => rfl)) (fun _ _ => rfl)) (pa_cons (pv 6) pa_nil))) pe_non))
        (pss_one (ps_if (pt_cmp (pc_notN (pv 7)) rfl) (pss_one (ps_expr (pe_bm PySem.F.plainAttrs_list PySem.F.slot_list_append PySem.F.type_list_append mt_append (pv 4) (pa_cons (pv 7) pa_nil))))
          (pss_one (ps_if (PW.pt (pw_or (pt_cmpR op_gt (pv 5) pe_int (nomark _)) (pw_or1 (pt_cmp (pc_dnotin hu (pv 6) (pv 3)) rfl)))) (pss_one (ps_raise rfl (takes_of rfl rfl rfl rfl) (pmk_oex (xo_BadText T) (xi_BadText T) (xt_BadText T) F1 hr2 b1 .nil (fun _ _ _ _ _ _ _ z => z.elim) rfl (g_BadText T) (pa_cons (pe_op op_add (pv 5) pe_int) pa_nil)))) pss_nil))))))
      (pss_cons (ps_if (PW.pt (pw_or (pt_not (pt_truth (pv 4) (fun _ => rfl))) (pw_or1 (pt_cmpR op_ne (pv 2) pe_str (nomark _))))) (pss_one (ps_raise rfl (takes_of rfl rfl rfl rfl) (pmk_oex (xo_BadText T) (xi_BadText T) (xt_BadText T) F1 hr2 b1 .nil (fun _ _ _ _ _ _ _ z => z.elim) rfl (g_BadText T) (pa_cons (pe_op op_add (pe_callB call_len_seq (by rfl) (f_len T) PySem.boot_len (pa_cons (pv 1) pa_nil)) pe_int) pa_nil)))) pss_nil)
      (pss_one (ps_ret (pv 4))))))))), ?_⟩
    rcases h with ⟨hn, q⟩ | ⟨t, init, bh, rfl, hl, esp, qb, qo⟩
    · exact ⟨_, rfl, y, rfl, .inr ⟨hn, q⟩⟩
    refine ⟨_, rfl, _, rfl, .inl ⟨t, rfl, ?_⟩⟩
    have ey : TL.tl nlS = [10] := by decide
    obtain ⟨_, tl1, tl2⟩ := split_any t (y := nlS) (by rw [ey]; simp) (by decide +kernel)
    rw [esp] at tl1 tl2
    refine ⟨_, rfl, ⟨_, rfl⟩, t, nlS, rfl, rfl, by decide, by omega, fun L nL => ?_⟩
    rw [esp]
    have hil : init.length ≤ 200001 := by
      rw [List.length_append] at tl1
      omega
    have s1 := same_upd (o := .lst ((init ++ [bh]).map V.str)) nL
    have eL : (upd H L (.lst ((init ++ [bh]).map V.str))) L = some (.lst ((init ++ [bh]).map V.str)) := upd_same
    generalize upd H L (.lst ((init ++ [bh]).map V.str)) = H1 at s1 eL ⊢
    refine ⟨_, rfl, .inl ⟨rfl, _, SqL.of eL⟩, ?_⟩
    refine ⟨L, _, V.str bh, rfl, rfl, eL, by rw [List.length_map, List.length_append, List.getElem?_map]; simp, ?_⟩
    have edl : ((init ++ [bh]).map V.str).dropLast = init.map V.str := by
      rw [List.map_append]
      simp
    rw [edl]
    have s2 : Same H (upd H1 L (.lst (init.map V.str))) := fun b o e => by
      rw [upd_ne (ne_of_none e nL)]
      exact s1 _ _ e
    have eL2 : (upd H1 L (.lst (init.map V.str))) L = some (.lst (init.map V.str)) := upd_same
    generalize upd H1 L (.lst (init.map V.str)) = H2 at s2 eL2 ⊢
    -- the clocks by their texts
    refine ⟨_, rfl, ⟨_, x_CLOCKS T _⟩, fun C nC => ?_⟩
    have put : ∀ i, i < 4 → ∃ c : Int, [V.int 2, .int 3, .int 5, .int 7][i]? = some (V.int c) ∧ c.natAbs.log2 < 1920 ∧ putT (ckT.take i) (dgt c) c = ckT.take (i + 1) := fun i hi => by
      have : i = 0 ∨ i = 1 ∨ i = 2 ∨ i = 3 := by omega
      rcases this with rfl | rfl | rfl | rfl
      · exact ⟨2, rfl, by decide +kernel, by decide +kernel⟩
      · exact ⟨3, rfl, by decide +kernel, by decide +kernel⟩
      · exact ⟨5, rfl, by decide +kernel, by decide +kernel⟩
      · exact ⟨7, rfl, by decide +kernel, by decide +kernel⟩
    refine dc_it (walk_tup (xs := [V.int 2, .int 3, .int 5, .int 7])) (fun i H' => H' C = some (.dK (kv (ckT.take i))) ∧ Same H2 H') ⟨upd_same, same_upd nC⟩ (fun i H' _ hP => x_CLOCKS T _) ?_ ?_
    · rintro i x Ha Hb hi ⟨p1, p2⟩ ⟨rfl, e⟩
      have hi4 : i < 4 := hi
      obtain ⟨c, ec, hlog, hp⟩ := put i hi4
      obtain rfl : V.int c = x := Option.some.inj (ec.symm.trans e)
      refine ⟨rfl, ?_⟩
      refine ⟨_, rfl, .inr ⟨_, rfl, hlog, ?_⟩⟩
      refine ⟨_, rfl, kv (ckT.take i), Sum.inr (dgt c), rfl, p1, ?_, ?_, fun a o z => ?_⟩
      · rw [kv_len, List.length_take]
        omega
      · rw [upd_same, putK_kv, hp]
      · rw [upd_ne (ne_of_none z nC)]
        exact p2 _ _ z
    rintro H3 ⟨eC, s3⟩
    replace eC : H3 C = some (.dK (kv ckT)) := eC
    replace s2 := s2.trans s3
    replace eL2 := s3 _ _ eL2
    clear s1 s3 eL nC nL edl put
    refine ⟨by show 0 ≤ sizeLine; omega, fun F0 nF => ?_⟩
    have s4 := same_upd (o := .lst []) nF
    have eF : (upd H3 F0 (.lst [])) F0 = some (.lst (([] : List Addr).map V.ref)) := upd_same
    have nLF : L ≠ F0 := ne_of_none eL2 nF
    have nCF : C ≠ F0 := ne_of_none eC nF
    have nF0 : H F0 = none := s2.free nF
    replace s2 := s2.trans s4
    replace eL2 := s4 _ _ eL2
    replace eC := s4 _ _ eC
    generalize upd H3 F0 (.lst []) = H4 at *
    clear s4 nF
    refine ⟨_, rfl, L, _, rfl, SqL.of eL2, ?_⟩
    refine for_it walk_enum (fun i σ H' => (∃ v5 v6 v7 : Option V, σ = [some (.str t), some (.ref L), some (.str bh), some (.ref C), some (.ref F0), v5, v6, v7, none]) ∧ (∃ (bs : List Addr) (ls : List Tb), H' F0 = some (.lst (bs.map V.ref)) ∧ (i = 0 → bs = [] ∧ ls = []) ∧ (0 < i → ∃ c, isCk c ∧ init[0]? = some (dgt c) ∧ ls.length + 1 = i ∧ BagsAt K H' c bs ls ∧ RdAll c init ls)) ∧ But F0 H4 H')
      ⟨⟨none, none, none, rfl⟩, ⟨[], [], eF, fun _ => ⟨rfl, rfl⟩, fun z => absurd z (by decide)⟩, But.refl _ _⟩ (fun i σ H' _ hP => SqL.of (hP.2.2 _ _ eL2 nLF)) ?_ ?_
    · rintro i x σ Ha Hb hi ⟨⟨v5, v6, v7, rfl⟩, ⟨bs, ls, p1, p2, p3⟩, p4⟩ ⟨TT0, x1, y1, rfl, nT, rfl, e1, e2⟩
      rw [List.length_map] at hi
      obtain rfl : V.int (i : Nat) = x1 := Option.some.inj e1
      have eli : init[i]? = some init[i] := List.getElem?_eq_getElem hi
      have e3 : (init.map V.str)[i]? = some y1 := e2
      rw [List.getElem?_map, eli] at e3
      obtain rfl : V.str init[i] = y1 := Option.some.inj e3
      clear e1 e2 e3
      have hln : init[i].length ≤ 200000 := by
        have := tl2 init[i] (List.mem_append.mpr (.inl (List.getElem_mem hi)))
        omega
      have sT := same_upd (o := .tup [V.int (i : Nat), V.str init[i]]) nT
      have eT : (upd Ha TT0 (.tup [V.int (i : Nat), V.str init[i]])) TT0 = some (.tup [V.int (i : Nat), V.str init[i]]) := upd_same
      replace p1 := sT _ _ p1
      replace p4 := p4.trans (But.of sT)
      replace p3 : 0 < i → ∃ c, isCk c ∧ init[0]? = some (dgt c) ∧ ls.length + 1 = i ∧ BagsAt K (upd Ha TT0 (.tup [V.int (i : Nat), V.str init[i]])) c bs ls ∧ RdAll c init ls := fun z => by
        obtain ⟨c, a1, a2, a3, a4, a5⟩ := p3 z
        exact ⟨c, a1, a2, a3, Paired.mapP a4 fun b l hb => hb.same sT, a5⟩
      generalize upd Ha TT0 (.tup [V.int (i : Nat), V.str init[i]]) = Hc at *
      clear sT nT
      have eLc := p4 _ _ eL2 nLF
      have eCc := p4 _ _ eC nCF
      refine ⟨TT0, _, rfl, .inl (.inl eT), rfl, ?_⟩
      refine ⟨_, _, rfl, _, _, rfl, rfl, ?_⟩
      generalize hsi : init[i] = si at *
      -- what stands still behind this line
      have stays : ∀ {Hd : Hp}, Same Hc Hd → But F0 H4 Hd := fun sd => p4.trans (But.of sd)
      have sameH : ∀ {Hd : Hp}, Same Hc Hd → Same H Hd := fun sd b o z => stays sd _ _ (s2 _ _ z) (ne_of_none z nF0)
      refine ⟨_, rfl, _, _, rfl, rfl, _, rfl, ite2 (fun hz => ?_) (fun hz => ?_)⟩
      · -- a line of a bag
        have hi0 : 0 < i := by
          have := of_decide_eq_true hz
          omega
        obtain ⟨c, hck, h0, hll, hbs, hra⟩ := p3 hi0
        have hne : ∃ z, (init.map V.str)[0]? = some z ∧ z = V.str (dgt c) := ⟨_, by rw [List.getElem?_map, h0]; rfl, rfl⟩
        obtain ⟨z0, hz0, rfl⟩ := hne
        refine ⟨_, rfl, _, rfl, L, _, _, _, rfl, rfl, SqL.of eLc, atI_nat (j := 0) hz0, C, .int c, rfl, .inl ⟨kv ckT, Sum.inr (dgt c), .inl eCc, rfl, (ckT_yes hck).symm⟩, _, rfl, c, si, rfl, hck, hln, fun l hR Hd b sd nb hb => ?_, fun hN Hd sd => ?_⟩
        · refine ⟨_, rfl, _, rfl, iteT ?_⟩
          refine ⟨_, rfl, .inl ⟨rfl, _, SqL.of (sd _ _ p1)⟩, _, rfl, F0, _, _, rfl, rfl, sd _ _ p1, ?_, ?_⟩
          · have := hbs.length
            rw [List.length_map]
            omega
          · refine ⟨⟨_, _, _, rfl⟩, ⟨bs ++ [b], ls ++ [l], by rw [upd_same, List.map_append]; rfl, fun z => by omega, fun _ => ⟨c, hck, h0, by rw [List.length_append]; show ls.length + 1 + 1 = _; omega, ?_, fun j l' hj => ?_⟩⟩, fun b' o z n => ?_⟩
            · have push : ∀ {b' : Addr} {l' : Tb}, BagAt K Hd b' c (canon l') → BagAt K (upd Hd F0 (.lst (bs.map V.ref ++ [V.ref b]))) b' c (canon l') := fun h => h.but but_upd ⟨_, sd _ _ p1⟩
              exact Paired.snoc (Paired.mapP hbs fun b' l' h => push (h.same sd)) (push hb)
            · by_cases hjl : j < ls.length
              · rw [List.getElem?_append_left hjl] at hj
                exact hra j l' hj
              · rw [List.getElem?_append_right (by omega)] at hj
                have : j = ls.length := by
                  have := (List.getElem?_eq_some_iff.mp hj).1
                  simp at this
                  omega
                subst this
                simp at hj
                subst hj
                exact ⟨si, by rw [hll, eli], hR⟩
            · rw [upd_ne n]
              exact stays sd _ _ z n
        · refine ⟨_, rfl, _, rfl, iteF ?_⟩
          refine ⟨_, rfl, _, _, rfl, rfl, _, rfl, ?_⟩
          rw [hz]
          refine iteT ?_
          refine ⟨_, rfl, _, _, rfl, rfl, mk_badT T (fun H' dx s' e => ?_) []⟩
          refine qb _ (.inr (.inl ⟨c, i, si, hck, h0, hi0, eli, hN, fun j h1 h2 => ?_, rfl⟩)) H' dx ((sameH sd).trans s') e
          have hj2 : j - 1 < ls.length := by omega
          obtain ⟨s', e', r⟩ := hra (j - 1) _ (List.getElem?_eq_getElem hj2)
          exact ⟨s', by rw [show j - 1 + 1 = j by omega] at e'; exact e', _, r⟩
      · -- the first line
        have hi0 : i = 0 := by
          by_cases h : 0 < (i : Int)
          · exact (hz (decide_eq_true h)).elim
          · omega
        obtain ⟨rfl, rfl⟩ := p2 hi0
        subst hi0
        refine ⟨_, rfl, _, rfl, iteF ?_⟩
        refine ⟨_, rfl, _, _, rfl, rfl, _, rfl, iteF ?_⟩
        refine ⟨_, rfl, _, rfl, C, _, rfl, .inl ⟨kv ckT, Sum.inr si, .inl eCc, rfl, rfl⟩, _, rfl, ?_⟩
        by_cases hc : ∃ c, isCk c ∧ si = dgt c
        · obtain ⟨c, hck, rfl⟩ := hc
          rw [ckT_yes hck]
          refine iteF ?_
          exact ⟨⟨_, _, _, rfl⟩, ⟨[], [], p1, fun z => (nomatch z), fun _ => ⟨c, hck, eli, rfl, .nil, fun j l' hj => by simp at hj⟩⟩, p4⟩
        · rw [ckT_no fun c h1 h2 => hc ⟨c, h1, h2⟩]
          refine iteT ?_
          refine ⟨_, rfl, _, _, rfl, rfl, mk_badT T (fun H' dx s' e => ?_) []⟩
          exact qb _ (.inl ⟨⟨si, eli, fun c h1 h2 => hc ⟨c, h1, h2⟩⟩, rfl⟩) H' dx ((sameH (Same.refl _)).trans s') e
    rintro σ Ha ⟨⟨v5, v6, v7, rfl⟩, ⟨bs, ls, p1, p2, p3⟩, p4⟩
    rw [List.length_map] at p2 p3
    have sH : Same H Ha := fun b o z => p4 _ _ (s2 _ _ z) (ne_of_none z nF0)
    have eLa := p4 _ _ eL2 nLF
    have mk3 : (init.length < 2 ∨ bh ≠ "") → RowBad init bh ((init.length : Int) + 1) := fun h => by
      refine .inr (.inr ⟨?_, h, rfl⟩)
      by_cases h0 : init.length = 0
      · exact .inl (List.eq_nil_of_length_eq_zero h0)
      · obtain ⟨c, a1, a2, a3, a4, a5⟩ := p3 (by omega)
        exact .inr ⟨c, a1, a2, fun j s h1 e => a5.rd a3 h1 e⟩
    have hlen : bs = [] ↔ init.length < 2 := by
      constructor
      · intro e
        by_cases h0 : init.length = 0
        · omega
        · obtain ⟨c, a1, a2, a3, a4, a5⟩ := p3 (by omega)
          have := a4.length
          rw [e] at this
          have : ls.length = 0 := this.symm
          omega
      · intro e
        by_cases h0 : init.length = 0
        · exact (p2 h0).1
        · obtain ⟨c, a1, a2, a3, a4, a5⟩ := p3 (by omega)
          have := a4.length
          exact List.eq_nil_of_length_eq_zero (by omega)
    refine ⟨_, rfl, _, .inl ⟨_, SqL.of p1, rfl⟩, ?_⟩
    have raise : (init.length < 2 ∨ bh ≠ "") → ∀ σ, tMkO (He.ga K "BadText") (spIni K "line") [] (tCons (tC (.int ((init.length : Int) + 1))) tNil) σ Ha E := fun h σ => mk_badT T (fun H' dx s' e => qb _ (mk3 h) H' dx (sH.trans s') e) σ
    cases hb : (bs.map V.ref).isEmpty with
    | true =>
      have e0 : bs = [] := List.map_eq_nil_iff.mp (List.isEmpty_iff.mp hb)
      refine iteT ?_
      refine ⟨_, rfl, L, _, rfl, .inl (SqL.of eLa), _, _, rfl, rfl, ?_⟩
      rw [List.length_map]
      exact raise (.inl (hlen.mp e0)) []
    | false =>
      have e0 : bs ≠ [] := fun e => by
        rw [e] at hb
        cases hb
      refine iteF ?_
      refine ⟨_, rfl, rfl, _, rfl, ite2 (fun hz => ?_) (fun hz => ?_)⟩
      · have hbh : bh ≠ "" := fun e => by
          rw [e] at hz
          exact absurd hz (by decide)
        refine ⟨_, rfl, L, _, rfl, .inl (SqL.of eLa), _, _, rfl, rfl, ?_⟩
        rw [List.length_map]
        exact raise (.inr hbh) []
      · have hbh : bh = "" := by
          by_cases e : bh = ""
          · exact e
          · refine (hz ?_).elim
            show (!decide (V.str bh = V.str "")) = true
            rw [decide_eq_false (show ¬ V.str bh = V.str "" from fun z => e (by injection z))]
            rfl
        have h2 : ¬ init.length < 2 := fun z => e0 (hlen.mpr z)
        obtain ⟨c, a1, a2, a3, a4, a5⟩ := p3 (by omega)
        exact ⟨_, rfl, qo c ls ⟨a1, a2, a3, by omega, hbh, a5⟩ Ha F0 bs sH p1 a4⟩
end
end Fp

set_option Elab.async false
set_option linter.all false
set_option maxRecDepth 100000
set_option maxHeartbeats 4000000
/-! what is due of a text, what is told, whether that is right -/
namespace Fp
open PySem PySem.Spec PyProof.Rows L2
theorem cut_last (init : List Str) (bh : Str) : cutV ((init ++ [bh]).map V.str) none (some (-1)) = init.map V.str := by
  unfold cutV
  have e : HT.sIx ((init ++ [bh]).map V.str).length ((init ++ [bh]).map V.str).length (some (-1)) = init.length := by
    show (if (-1 : Int) < 0 then ((-1 : Int) + (((init ++ [bh]).map V.str).length : Nat)).toNat else min (-1 : Int).toNat ((init ++ [bh]).map V.str).length) = _
    rw [if_pos (by decide), List.length_map, List.length_append]
    show ((-1 : Int) + ((init.length + 1 : Nat) : Int)).toNat = _
    omega
  rw [e, HT.sIx_none, List.drop_zero, Nat.sub_zero, List.map_append]
  exact List.take_left' (List.length_map _)
theorem int_dgt {c : Int} (h : isCk c) : PySem.intText? (dgt c) = some c := by
  rcases h with rfl | rfl | rfl | rfl <;> decide +kernel
theorem inV_ck (s : Str) : inV (V.str s) [.str (dgt 2), .str (dgt 3), .str (dgt 5), .str (dgt 7)] = true ↔ ∃ c, isCk c ∧ s = dgt c := by
  show (((dgt 2 : Str) == s) || (((dgt 3 : Str) == s) || (((dgt 5 : Str) == s) || (((dgt 7 : Str) == s) || false)))) = true ↔ _
  simp only [Bool.or_eq_true, beq_iff_eq, Bool.or_false]
  constructor
  · rintro (h | h | h | h)
    · exact ⟨2, .inl rfl, h.symm⟩
    · exact ⟨3, .inr (.inl rfl), h.symm⟩
    · exact ⟨5, .inr (.inr (.inl rfl)), h.symm⟩
    · exact ⟨7, .inr (.inr (.inr rfl)), h.symm⟩
  · rintro ⟨c, rfl | rfl | rfl | rfl, rfl⟩
    · exact .inl rfl
    · exact .inr (.inl rfl)
    · exact .inr (.inr (.inl rfl))
    · exact .inr (.inr (.inr rfl))
def DictsAt (H : Hp) (ds : List Addr) (ls : List Tb) : Prop := Paired (fun d l => H d = some (.dK (kv l))) ds ls
theorem PS.weak {X : Cx} {st : Stmt} {t t' : TS} (h : PS X st t) (w : ∀ D σ H, t' D σ H → t D σ H) : PS X st t' := ⟨fun pins s σ H D I q => h.run pins s σ H D I (w _ _ _ q)⟩
/-- the first line: a clock, or refused -/
def tDue0 : TS := fun D σ H => ∃ (t : Str) (L C : Addr) (init : List Str), σ = [some (.str t), some (.ref L), some (.ref C), none, none, none] ∧ H C = some (.lst (init.map V.str)) ∧ init.length ≤ 200001 ∧ ((∃ s, init[0]? = some s ∧ (∀ c, isCk c → s ≠ dgt c)) → ∀ H' p, Same H H' → H' p = some (.tup [.str "bad", .int 1]) → D.rt (.ref p) H') ∧
  ((init = [] ∨ ∃ c, isCk c ∧ init[0]? = some (dgt c)) → ∀ H', Same H H' → D.nx [some (.str t), some (.ref L), some (.ref C), none, none, none] H')
section
variable {P : Program} {w : World} {K : PySem.W.Frag} {mg : Str → Option Value} {base : Heap}
def spDue : Sp := fun vs H Q _ => ∃ (t : Str) (init : List Str) (bh : Str), vs = [.str t] ∧ t.length ≤ 200000 ∧ Txt.split t nlS = init ++ [bh] ∧ (∀ n, RowBad init bh n → ∀ H' p, Same H H' → H' p = some (.tup [.str "bad", .int n]) → Q (.ref p) H') ∧
  (∀ c ls, RowOk init bh c ls → ∀ H' p f ds, Same H H' → H' p = some (.tup [.str "told", .int c, .ref f]) → H' f = some (.lst (ds.map V.ref)) → DictsAt H' ds ls → Q (.ref p) H')
abbrev nDue : List Str := ["_law_text", "_law_lines", "_law_closed", "_law_found", "_law_k", "_law_words"]
theorem sc_due : FnScope nDue ["_law_text"] (defScope s__law_due) := ⟨rfl, rfl, rfl, by decide +kernel, rfl, by decide +kernel, by decide +kernel⟩
theorem ok_due (T : Top K mg) : Ok P w K mg base 3 "_law_due" ["_law_text"] spDue := by
  obtain ⟨fd, F⟩ := fn__law_due T
  refine ⟨⟨fd, ?_, F.bindsN fun _ _ _ _ _ _ us hl => match us, hl with | [_], _ => rfl⟩, g__law_due T, F.kp⟩
  refine F.ok sc_due (fun vs H Q E h => ?_) (fun cdv A outer s H vs Q E hr h => ?_)
  · obtain ⟨t, init, bh, rfl, _⟩ := h
    rfl
  · obtain ⟨t, init, bh, rfl, hl, esp, qb, qo⟩ := h
    have nd := sc_due.nd
    have hs : sizeLine = 16777216 := sizeLine_eq
    refine ⟨_, PSs.nox (pss_cons (ps_set (i := 1) nd rfl (Or.inl rfl) (pe_m1 PySem.F.slot_str_split PySem.F.type_str_split mt_split (pv 0) pe_str))
      (pss_cons (ps_set (i := 2) nd rfl (Or.inl rfl) (pe_slice sl_list (pv 1) po_none (po_some (pe_un un_neg pe_int))))
      (pss_cons (PS.weak (t' := tDue0) (ps_if (PW.pt (pw_and (pt_cmpR op_gt (pe_callB call_len_seq (by rfl) (f_len T) PySem.boot_len (pa_cons (pv 2) pa_nil)) pe_int (nomark _)) (pw_and1 (pt_cmpR op_notIn_seq (pe_ix ix_list (pv 2) pe_int (fun _ _ => rfl)) (pe_lst (pa_cons pe_str (pa_cons pe_str (pa_cons pe_str (pa_cons pe_str pa_nil))))) (by rfl)))))
        (pss_one (ps_ret (pe_tup (pa_cons pe_str (pa_cons pe_int pa_nil))))) pss_nil) ?w0)
      (pss_cons (ps_set (i := 3) nd rfl (Or.inl rfl) (pe_lst pa_nil))
      (pss_cons (ps_for PassesOwn.never rfl (pi_range2 (by rfl) (f_range T) (pa_cons pe_int (pa_cons (pe_callB call_len_seq (by rfl) (f_len T) PySem.boot_len (pa_cons (pv 2) pa_nil)) pa_nil))) (pg_name (i := 4) nd rfl (Or.inl rfl))
        (pss_cons (ps_set (i := 5) nd rfl (Or.inl rfl) (pc (ok_rd T) hr (pa_cons (pe_callTy call_int_str (by rfl) (f_int T) (by decide +kernel) (pa_cons (pe_ix ix_list (pv 2) pe_int (fun _ _ => rfl)) pa_nil)) (pa_cons (pe_ix ix_list (pv 2) (pv 4) (fun _ _ => rfl)) pa_nil))))
        (pss_cons (ps_if (pt_cmp (pc_isN (pv 5)) rfl) (pss_one (ps_ret (pe_tup (pa_cons pe_str (pa_cons (pe_op op_add (pv 4) pe_int) pa_nil))))) pss_nil)
        (pss_one (ps_expr (pe_bm PySem.F.plainAttrs_list PySem.F.slot_list_append PySem.F.type_list_append mt_append (pv 3) (pa_cons (pv 5) pa_nil)))))))
      (pss_cons (ps_if (PW.pt (pw_or (pt_cmpR op_lt (pe_callB call_len_seq (by rfl) (f_len T) PySem.boot_len (pa_cons (pv 2) pa_nil)) pe_int (nomark _)) (pw_or1 (pt_cmpR op_ne (pe_ix ix_list (pv 1) (pe_un un_neg pe_int) (fun _ _ => rfl)) pe_str (nomark _)))))
        (pss_one (ps_ret (pe_tup (pa_cons pe_str (pa_cons (pe_op op_add (pe_callB call_len_seq (by rfl) (f_len T) PySem.boot_len (pa_cons (pv 2) pa_nil)) pe_int) pa_nil))))) pss_nil)
      (pss_one (ps_ret (pe_tup (pa_cons pe_str (pa_cons (pe_callTy call_int_str (by rfl) (f_int T) (by decide +kernel) (pa_cons (pe_ix ix_list (pv 2) pe_int (fun _ _ => rfl)) pa_nil)) (pa_cons (pv 3) pa_nil)))))))))))), ?_⟩
    case w0 =>
      rintro D σ H ⟨t, L, C, init, rfl, eC, hil, q1, q2⟩
      refine ⟨_, rfl, C, _, rfl, .inl (SqL.of eC), _, _, rfl, rfl, _, rfl, ?_⟩
      rw [List.length_map]
      refine ite2 (fun hz => ?_) (fun hz => ?_)
      · have hpos : 0 < init.length := by
          have := of_decide_eq_true hz
          omega
        have e0 : init[0]? = some init[0] := List.getElem?_eq_getElem hpos
        have e0' : (init.map V.str)[0]? = some (V.str init[0]) := by
          rw [List.getElem?_map, e0]
          rfl
        generalize init[0] = s0 at e0 e0'
        refine ⟨_, rfl, C, _, _, _, rfl, rfl, SqL.of eC, atI_nat (j := 0) e0', by show 4 ≤ sizeLine; omega, fun N nN => ?_⟩
        have sN := same_upd (o := .lst [V.str (dgt 2), V.str (dgt 3), V.str (dgt 5), V.str (dgt 7)]) nN
        refine ⟨N, [V.str (dgt 2), V.str (dgt 3), V.str (dgt 5), V.str (dgt 7)], rfl, .inl (SqL.of upd_same), rfl, rfl, _, rfl, ?_⟩
        by_cases hc : ∃ c, isCk c ∧ s0 = dgt c
        · have e := (inV_ck s0).mpr hc
          rw [e]
          refine iteF ?_
          obtain ⟨c, h1, h2⟩ := hc
          exact q2 (.inr ⟨c, h1, by rw [e0, h2]⟩) _ sN
        · have e : inV (V.str s0) [.str (dgt 2), .str (dgt 3), .str (dgt 5), .str (dgt 7)] = false := by
            cases e : inV (V.str s0) [.str (dgt 2), .str (dgt 3), .str (dgt 5), .str (dgt 7)] with
            | false => rfl
            | true => exact absurd ((inV_ck s0).mp e) hc
          rw [e]
          refine iteT ?_
          refine ⟨by show 2 ≤ sizeLine; omega, fun p np => ?_⟩
          exact q1 ⟨s0, e0, fun c h1 h2 => hc ⟨c, h1, h2⟩⟩ _ p (sN.trans (same_upd np)) upd_same
      · have h0 : init = [] := List.eq_nil_of_length_eq_zero (by
          by_cases h : 0 < init.length
          · exact (hz (decide_eq_true (by omega))).elim
          · omega)
        exact q2 (.inl h0) H (Same.refl H)
    have ey : TL.tl nlS = [10] := by decide
    obtain ⟨_, tl1, tl2⟩ := split_any t (y := nlS) (by rw [ey]; simp) (by decide +kernel)
    rw [esp] at tl1 tl2
    have hil : init.length ≤ 200001 := by
      rw [List.length_append] at tl1
      omega
    refine ⟨_, rfl, ⟨_, rfl⟩, t, nlS, rfl, rfl, by decide, by omega, fun L nL => ?_⟩
    rw [esp]
    have s1 := same_upd (o := .lst ((init ++ [bh]).map V.str)) nL
    have eL : (upd H L (.lst ((init ++ [bh]).map V.str))) L = some (.lst (init.map V.str ++ [V.str bh])) := by
      rw [upd_same, List.map_append]
      rfl
    have eL' : (upd H L (.lst ((init ++ [bh]).map V.str))) L = some (.lst ((init ++ [bh]).map V.str)) := upd_same
    generalize upd H L (.lst ((init ++ [bh]).map V.str)) = H1 at s1 eL eL' ⊢
    refine ⟨_, rfl, _, rfl, -1, rfl, L, _, rfl, SqL.of eL', fun C nC => ?_⟩
    rw [cut_last]
    have s2 := same_upd (o := .lst (init.map V.str)) nC
    have eC : (upd H1 C (.lst (init.map V.str))) C = some (.lst (init.map V.str)) := upd_same
    replace s1 := s1.trans s2
    replace eL := s2 _ _ eL
    clear eL'
    generalize upd H1 C (.lst (init.map V.str)) = H2 at s1 s2 eL eC ⊢
    clear s2 nC nL
    refine ⟨t, L, C, init, rfl, eC, hil, fun hb H' p s' ep => qb 1 (.inl ⟨hb, rfl⟩) H' p (s1.trans s') ep, fun hok H3 s3 => ?_⟩
    replace s1 := s1.trans s3
    replace eL := s3 _ _ eL
    replace eC := s3 _ _ eC
    clear s3
    refine ⟨by show 0 ≤ sizeLine; omega, fun F0 nF => ?_⟩
    have s4 := same_upd (o := .lst []) nF
    have eF : (upd H3 F0 (.lst [])) F0 = some (.lst (([] : List Addr).map V.ref)) := upd_same
    have nLF : L ≠ F0 := ne_of_none eL nF
    have nCF : C ≠ F0 := ne_of_none eC nF
    have nF0 : H F0 = none := s1.free nF
    replace s1 := s1.trans s4
    replace eL := s4 _ _ eL
    replace eC := s4 _ _ eC
    generalize upd H3 F0 (.lst []) = H4 at *
    clear s4 nF
    refine ⟨_, rfl, C, _, rfl, .inl (SqL.of eC), 1, (init.length : Int), by rw [List.length_map], ⟨by omega, by omega⟩, ?_⟩
    refine for_it walk_range (fun i σ H' => (∃ v4 v5 : Option V, σ = [some (.str t), some (.ref L), some (.ref C), some (.ref F0), v4, v5]) ∧ (∃ (ds : List Addr) (ls : List Tb), H' F0 = some (.lst (ds.map V.ref)) ∧ ls.length = i ∧ DictsAt H' ds ls ∧ ∀ c, isCk c → init[0]? = some (dgt c) → RdAll c init ls) ∧ But F0 H4 H')
      ⟨⟨none, none, rfl⟩, ⟨[], [], eF, rfl, .nil, fun c _ _ j l hj => by simp at hj⟩, But.refl _ _⟩ (fun _ _ _ _ _ => trivial) ?_ ?_
    · rintro i x σ Ha Hb hi ⟨⟨v4, v5, rfl⟩, ⟨ds, ls, p1, p2, p3, p5⟩, p4⟩ ⟨rfl, rfl⟩
      have hi1 : i + 1 < init.length := by omega
      have eli : init[i + 1]? = some init[i + 1] := List.getElem?_eq_getElem hi1
      have eli' : (init.map V.str)[i + 1]? = some (V.str init[i + 1]) := by
        rw [List.getElem?_map, eli]
        rfl
      have hln : init[i + 1].length ≤ 200000 := by
        have := tl2 init[i + 1] (List.mem_append.mpr (.inl (List.getElem_mem hi1)))
        omega
      generalize init[i + 1] = si at *
      obtain ⟨c, hck, h0⟩ : ∃ c, isCk c ∧ init[0]? = some (dgt c) := by
        rcases hok with e | h
        · rw [e] at hi1
          simp at hi1
        · exact h
      have h0' : (init.map V.str)[0]? = some (V.str (dgt c)) := by
        rw [List.getElem?_map, h0]
        rfl
      have hra := p5 c hck h0
      have eCa := p4 _ _ eC nCF
      have l640 : (dgt c).length ≤ 640 := by rcases hck with rfl | rfl | rfl | rfl <;> decide +kernel
      have noR : ∀ {Hz : Hp}, Same Hb Hz → Same H Hz := fun sz b o z => sz _ _ (p4 _ _ (s1 _ _ z) (ne_of_none z nF0))
      refine ⟨_, rfl, C, _, _, _, rfl, rfl, SqL.of eCa, atI_nat (j := 0) h0', dgt c, c, rfl, int_dgt hck, l640, _, rfl, _, rfl, C, _, _, _, rfl, rfl, SqL.of eCa, (by rw [show (1 : Int) + (i : Nat) = ((i + 1 : Nat) : Int) by omega]; exact atI_nat eli'), ?_⟩
      refine ⟨c, si, rfl, hck, hln, fun l hR Hc d sc nd0 hd => ?_, fun hN Hc sc => ?_⟩
      · refine ⟨_, rfl, _, rfl, iteF ?_⟩
        refine ⟨_, rfl, .inl ⟨rfl, _, SqL.of (sc _ _ p1)⟩, _, rfl, F0, _, _, rfl, rfl, sc _ _ p1, ?_, ?_⟩
        · have := p3.length
          rw [List.length_map]
          omega
        · refine ⟨⟨_, _, rfl⟩, ⟨ds ++ [d], ls ++ [l], by rw [upd_same, List.map_append]; rfl, by rw [List.length_append, p2]; rfl, ?_, fun c' hc' h0'' j l' hj => ?_⟩, fun b' o z n => ?_⟩
          · have push : ∀ {d' : Addr} {l' : Tb}, Hc d' = some (.dK (kv l')) → (upd Hc F0 (.lst (ds.map V.ref ++ [V.ref d]))) d' = some (.dK (kv l')) := fun e => by
              rw [upd_ne (ne_of e (sc _ _ p1) (by intro y; cases y))]
              exact e
            exact Paired.snoc (Paired.mapP p3 fun d' l' e => push (sc _ _ e)) (push hd)
          · have ec : c = c' := ck_dgt hck hc' (Option.some.inj (h0.symm.trans h0''))
            subst ec
            by_cases hjl : j < ls.length
            · rw [List.getElem?_append_left hjl] at hj
              exact hra j l' hj
            · rw [List.getElem?_append_right (by omega)] at hj
              have : j = ls.length := by
                have := (List.getElem?_eq_some_iff.mp hj).1
                simp at this
                omega
              subst this
              simp at hj
              subst hj
              exact ⟨si, by rw [p2]; exact eli, hR⟩
          · rw [upd_ne n]
            exact sc _ _ (p4 _ _ z n)
      · refine ⟨_, rfl, _, rfl, iteT ?_⟩
        refine ⟨_, rfl, _, _, rfl, rfl, by show 2 ≤ sizeLine; omega, fun p np => ?_⟩
        refine qb _ (.inr (.inl ⟨c, i + 1, si, hck, h0, by omega, eli, hN, fun j h1 h2 => ?_, ?_⟩)) _ p ((noR sc).trans (same_upd np)) upd_same
        · have hj2 : j - 1 < ls.length := by omega
          obtain ⟨s', e', r⟩ := hra (j - 1) _ (List.getElem?_eq_getElem hj2)
          exact ⟨s', by rw [show j - 1 + 1 = j by omega] at e'; exact e', _, r⟩
        · omega
    rintro σ Ha ⟨⟨v4, v5, rfl⟩, ⟨ds, ls, p1, p2, p3, p5⟩, p4⟩
    have sH : Same H Ha := fun b o z => p4 _ _ (s1 _ _ z) (ne_of_none z nF0)
    have eLa := p4 _ _ eL nLF
    have eCa := p4 _ _ eC nCF
    have hll : ls.length = init.length - 1 := by omega
    have mk3 : (init.length < 2 ∨ bh ≠ "") → RowBad init bh ((init.length : Int) + 1) := fun h => by
      refine .inr (.inr ⟨?_, h, rfl⟩)
      rcases hok with h0 | ⟨c, hck, h0⟩
      · exact .inl h0
      · refine .inr ⟨c, hck, h0, fun j s h1 e => (p5 c hck h0).rd ?_ h1 e⟩
        have := (List.getElem?_eq_some_iff.mp h0).1
        omega
    have ret : ∀ (p : Addr), Ha p = none → (init.length < 2 ∨ bh ≠ "") → Q (.ref p) (upd Ha p (.tup [.str "bad", .int ((init.length : Int) + 1)])) := fun p np h => qb _ (mk3 h) _ p (sH.trans (same_upd np)) upd_same
    refine ⟨_, rfl, C, _, rfl, .inl (SqL.of eCa), _, _, rfl, rfl, _, rfl, ?_⟩
    rw [List.length_map]
    refine ite2 (fun hz => ?_) (fun hz => ?_)
    · have h2 : init.length < 2 := by
        have := of_decide_eq_true hz
        omega
      refine ⟨_, rfl, C, _, rfl, .inl (SqL.of eCa), _, _, rfl, rfl, by show 2 ≤ sizeLine; omega, fun p np => ?_⟩
      rw [List.length_map]
      exact ret p np (.inl h2)
    · have h2 : ¬ init.length < 2 := fun z => hz (decide_eq_true (by omega))
      refine ⟨_, rfl, _, rfl, L, _, -1, .str bh, rfl, rfl, SqL.of eLa, atI_last _ _, rfl, _, rfl, ite2 (fun hy => ?_) (fun hy => ?_)⟩
      · have hbh : bh ≠ "" := fun e => by
          rw [e] at hy
          exact absurd hy (by decide)
        refine ⟨_, rfl, C, _, rfl, .inl (SqL.of eCa), _, _, rfl, rfl, by show 2 ≤ sizeLine; omega, fun p np => ?_⟩
        rw [List.length_map]
        exact ret p np (.inr hbh)
      · have hbh : bh = "" := by
          by_cases e : bh = ""
          · exact e
          · refine (hy ?_).elim
            show (!decide (V.str bh = V.str "")) = true
            rw [decide_eq_false (show ¬ V.str bh = V.str "" from fun z => e (by injection z))]
            rfl
        obtain ⟨c, hck, h0⟩ : ∃ c, isCk c ∧ init[0]? = some (dgt c) := by
          rcases hok with e | h
          · rw [e] at h2
            exact absurd (by decide) h2
          · exact h
        have h0' : (init.map V.str)[0]? = some (V.str (dgt c)) := by
          rw [List.getElem?_map, h0]
          rfl
        have l640 : (dgt c).length ≤ 640 := by rcases hck with rfl | rfl | rfl | rfl <;> decide +kernel
        refine ⟨_, rfl, C, _, _, _, rfl, rfl, SqL.of eCa, atI_nat (j := 0) h0', dgt c, c, rfl, int_dgt hck, l640, _, rfl, by show 3 ≤ sizeLine; omega, fun p np => ?_⟩
        have sp := same_upd (o := .tup [V.str "told", V.int c, V.ref F0]) np
        exact qo c ls ⟨hck, h0, by omega, by omega, hbh, p5 c hck h0⟩ _ p F0 ds (sH.trans sp) upd_same (sp _ _ p1) (Paired.mapP p3 fun d l e => sp _ _ e)
end
end Fp

set_option Elab.async false
set_option linter.all false
set_option maxRecDepth 100000
set_option maxHeartbeats 4000000
/-! what is told, and whether it is right -/
namespace Fp
open PySem PySem.Spec PyProof.Rows L2
theorem paired_get {α β : Type} {R : α → β → Prop} {xs : List α} {ys : List β} (p : Paired R xs ys) : ∀ {i : Nat} {x : α} {y : β}, xs[i]? = some x → ys[i]? = some y → R x y := by
  induction p with
  | nil => intro i x y h; simp at h
  | cons h _ ih =>
    intro i x y h1 h2
    cases i with
    | zero =>
      cases Option.some.inj h1
      cases Option.some.inj h2
      exact h
    | succ i => exact ih h1 h2
theorem split_last (t : Str) : ∃ (init : List Str) (bh : Str), Txt.split t nlS = init ++ [bh] := by
  have ey : TL.tl nlS = [10] := by decide
  obtain ⟨h, _⟩ := split_any t (y := nlS) (by rw [ey]; simp) (by decide +kernel)
  rcases List.eq_nil_or_concat (Txt.split t nlS) with e | ⟨init, w, e⟩
  · exact absurd e h
  · exact ⟨init, w, by rw [e, List.concat_eq_append]⟩
section
variable {P : Program} {w : World} {K : PySem.W.Frag} {mg : Str → Option Value} {base : Heap}
def tTdR (K : PySem.W.Frag) : WX → TS := fun W => tAsg (tTup (tCons (tC (.str "told")) (tCons (tCallS (spRR K) (fun σ => WE W σ) (tCons (tVar 0) tNil)) tNil))) (gName 1)
def tSuR (K : PySem.W.Frag) (a : Addr) (cls : Value) (d : Option Addr) : TS := tAsg (tTup (tCons (tC (.str "bad")) (tCons (tXf a cls d (He.ga K "BadText") "line" (tVar 2)) tNil))) (gName 1)
def spTold (K : PySem.W.Frag) : Sp := fun vs H Q _ => ∃ y : V, vs = [y] ∧ ((NoS K H y ∧ ∀ H' p, Same H H' → H' p = some (.tup [.str "bad", .int 0]) → Q (.ref p) H') ∨
  ∃ (t : Str) (init : List Str) (bh : Str), y = .str t ∧ t.length ≤ 200000 ∧ Txt.split t nlS = init ++ [bh] ∧ (∀ n, RowBad init bh n → ∀ H' p, Same H H' → H' p = some (.tup [.str "bad", .int n]) → Q (.ref p) H') ∧
    (∀ c ls, RowOk init bh c ls → ∀ H' p a bs, Same H H' → H' p = some (.tup [.str "told", .ref a]) → H' a = some (.lst (bs.map V.ref)) → BagsAt K H' c bs ls → Q (.ref p) H'))
abbrev nTold : List Str := ["_law_text", "_law_told_here", "e"]
theorem sc_told : FnScope nTold ["_law_text"] (defScope s__law_told) := ⟨rfl, rfl, rfl, by decide +kernel, rfl, by decide +kernel, by decide +kernel⟩
theorem ok_told (T : Top K mg) : Ok P w K mg base 9 "_law_told" ["_law_text"] (spTold K) := by
  obtain ⟨fd, F⟩ := fn__law_told T
  refine ⟨⟨fd, ?_, F.bindsN fun _ _ _ _ _ _ us hl => match us, hl with | [_], _ => rfl⟩, g__law_told T, F.kp⟩
  refine F.ok sc_told (fun vs H Q E h => ?_) (fun cdv A outer s H vs Q E hr h => ?_)
  · obtain ⟨y, rfl, _⟩ := h
    rfl
  · obtain ⟨y, rfl, h⟩ := h
    have nd := sc_told.nd
    have hs : sizeLine = 16777216 := sizeLine_eq
    refine ⟨_, PSs.nox (pss_cons (ps_set (i := 1) nd rfl (Or.inl rfl) (pe_tup (pa_cons pe_str (pa_cons pe_non pa_nil))))
      (pss_cons (L2.ps_try_as (i := 2) (tb := tTdR K) (ts := tSuR K) rfl rfl nd rfl rfl ⟨rfl, by decide, .inl (g_BadText T)⟩ takesF
        (fun W pn xe tk _ => pss_one (ps_set (i := 1) nd rfl (Or.inl rfl) (by exact pe_tup (pa_cons pe_str (pa_cons (pcX tk (okX_rr T) hr (pa_cons (pv 0) pa_nil)) pa_nil)))))
        (fun a oe cls d pn hz hf => pss_one (ps_set (i := 1) nd rfl (Or.inl rfl) (pe_tup (pa_cons pe_str (pa_cons (pe_xf (xf_BadText T) (xp_BadText T) hz hf (pv 2)) pa_nil))))))
      (pss_one (ps_ret (pv 1))))), ?_⟩
    refine ⟨by show 2 ≤ sizeLine; omega, fun p0 n0 => ?_⟩
    have s0 := same_upd (o := .tup [V.str "none", V.non]) n0
    generalize upd H p0 (.tup [V.str "none", V.non]) = H0 at s0 ⊢
    have bad : ∀ (n : Int) (H' : Hp) (dx : Addr), Same H0 H' → H' dx = some (.xd [("line", .int n)]) → (∀ H2 p, Same H H2 → H2 p = some (.tup [.str "bad", .int n]) → Q (.ref p) H2) →
        wAs K (.ref (He.ga K "BadText")) 2 (tSuR K) (fun _ _ _ _ => False) { nx := fun σ' H' => tRet (tVar 1) { nx := fun _ H' => Q .non H', rt := Q } σ' H', rt := Q } (.ref (He.ga K "BadText")) (some dx) [some y, some (.ref p0), none] H' := fun n H' dx s' e q => by
      refine ⟨true, xmm_BadText T, fun _ a na => ?_, fun z => nomatch z⟩
      refine ⟨_, rfl, rfl, rfl, dx, _, .int n, rfl, e, rfl, ?_⟩
      refine ⟨by show 2 ≤ sizeLine; omega, fun p np => ?_⟩
      exact ⟨_, rfl, q _ p ((s0.trans s').trans (same_upd np)) upd_same⟩
    refine ⟨_, rfl, y, rfl, ?_⟩
    rcases h with ⟨hn, q⟩ | ⟨t, init, bh, rfl, hl, esp, qb, qo⟩
    · exact .inl ⟨hn.same s0, fun H' dx s' e => bad 0 H' dx s' e q⟩
    · refine .inr ⟨t, init, bh, rfl, hl, esp, fun n hb H' dx s' e => bad n H' dx s' e (qb n hb), fun c ls ho H' a bs s' ea hbs => ?_⟩
      refine ⟨by show 2 ≤ sizeLine; omega, fun p np => ?_⟩
      have sp := same_upd (o := .tup [V.str "told", V.ref a]) np
      exact ⟨_, rfl, qo c ls ho _ p a bs ((s0.trans s').trans sp) upd_same (sp _ _ ea) (Paired.mapP hbs fun b l h => h.same sp)⟩
def spIsR (K : PySem.W.Frag) : Sp := fun vs H Q _ => ∃ t : Str, vs = [.str t] ∧ LamX.Tabs (TT K) H ∧ t.length ≤ 200000 ∧ ∀ H', LamX.ExtN H H' → LamX.Tabs (TT K) H' → Q (.bl true) H'
abbrev nIsR : List Str := ["_law_text", "_law_due_here", "_law_told_here", "_law_k"]
theorem sc_isr : FnScope nIsR ["_law_text"] (defScope s__law_is_right) := ⟨rfl, rfl, rfl, by decide +kernel, rfl, by decide +kernel, by decide +kernel⟩
theorem pc_is {X : Cx} {p pos : Pos} {e1 e2 e3 : Expr} {t : TA} (T : Top X.K X.mg) (TB : LamX.TabB X.base X.mg (He.cT X.K dPr).1 (He.cT X.K dPr).2) (hG : Gd X.A) (hr : Room 3 X.A) (ha : PA X [e1, e2, e3] t) (hg : Gl X "_law_is" := by rfl)
    (he : starEach [e1, e2, e3] X.env = (false, eval e1 X.env) :: starEach [e2, e3] X.env := by rfl) (hpl : (backTo pos (starEach [e2, e3] X.env)).any (·.1) = false := by rfl) : PE X (.Call (.Name "_law_is" p) [e1, e2, e3] [] pos) (tCall (spIs X.K) [] E0 t) := by
  obtain ⟨fd, F, b, k⟩ := ok_is (P := X.prog) (w := X.w) (base := X.base) T TB
  exact pe_callG F hG hr hg (g__law_is T) k b ha (by decide) he hpl
theorem all_rep (n : Nat) : (List.replicate n true).all id = true := by
  rw [List.all_eq_true]
  intro b hb
  rw [List.eq_of_mem_replicate hb]
  rfl
theorem rep_succ (i : Nat) : ((List.replicate (i + 1) true).map V.bl) = (List.replicate i true).map V.bl ++ [V.bl true] := by
  rw [List.replicate_succ', List.map_append]
  rfl
theorem ok_isr (T : Top K mg) (TB : LamX.TabB base mg (He.cT K dPr).1 (He.cT K dPr).2) : ∃ fd, FnG P w K mg base 10 (He.fAd K ("_law_is_right", none)) fd ["_law_text"] (spIsR K) ∧ Binds K fd ["_law_text"] [] ∧ PySem.W.keepIn K (.ref (He.fAd K ("_law_is_right", none))) = true := by
  obtain ⟨fd, F⟩ := fn__law_is_right T
  refine ⟨fd, ?_, F.bindsN fun _ _ _ _ _ _ us hl => match us, hl with | [_], _ => rfl, F.kp⟩
  refine F.okG sc_isr (fun vs H Q E h => ?_) (fun cdv A outer s H vs Q E hG hr h => ?_)
  · obtain ⟨t, rfl, _⟩ := h
    rfl
  · obtain ⟨t, rfl, tb, hl, q⟩ := h
    have nd := sc_isr.nd
    have hs : sizeLine = 16777216 := sizeLine_eq
    have hr3 : Room 3 _ := hr.mono (by decide)
    refine ⟨_, PSs.nox (pss_cons (ps_set (i := 1) nd rfl (by first | exact Or.inl rfl | exact Or.inr rfl) (pc (ok_due T) hr3 (pa_cons (pv 0) pa_nil)))
      (pss_cons (ps_set (i := 2) nd rfl (by first | exact Or.inl rfl | exact Or.inr rfl) (pc (ok_told T) hr (pa_cons (pv 0) pa_nil)))
      (pss_cons (ps_if (pt_cmpR op_eq (pe_ix ix_tup (pv 1) pe_int (fun _ _ => rfl)) pe_str (nomark _)) (pss_one (ps_ret (pe_cmpR (op_eqP hr.units) (pv 2) (pv 1) (nomark _)))) pss_nil)
      (pss_cons (ps_if (PW.pt (pw_or (pt_cmpR op_ne (pe_ix ix_tup (pv 2) pe_int (fun _ _ => rfl)) pe_str (nomark _)) (pw_or (pt_not (pt_val (pe_callB call_isi (by rfl) (f_isinstance T) (by decide +kernel) (pa_cons (pe_ix ix_tup (pv 2) pe_int (fun _ _ => rfl)) (pa_cons (pe_bltn (v := .ty "list") (by rfl) (f_list T) (by decide +kernel) rfl) pa_nil)))))
        (pw_or1 (pt_cmpR op_ne (pe_callB call_len_seq (by rfl) (f_len T) PySem.boot_len (pa_cons (pe_ix ix_tup (pv 2) pe_int (fun _ _ => rfl)) pa_nil)) (pe_callB call_len_seq (by rfl) (f_len T) PySem.boot_len (pa_cons (pe_ix ix_tup (pv 1) pe_int (fun _ _ => rfl)) pa_nil)) (nomark _)))))) (pss_one (ps_ret pe_bl)) pss_nil)
      (pss_one (ps_ret (pe_callB (cr_all rfl) (by rfl) (f_all T) (by decide +kernel) (pa_cons (pe_lc (own := [("_law_k", 3)]) (g := gName 3) (tt := tYes) (te := tCall (spIs K) [] E0 (tCons (tOp (rIxL K) (tOp (rIxT K) (tVar 2) (tC (.int 1))) (tVar 3)) (tCons (tOp (rIxT K) (tVar 1) (tC (.int 1))) (tCons (tOp (rIxL K) (tOp (rIxT K) (tVar 1) (tC (.int 2))) (tVar 3)) tNil)))) rfl nd
        (pi_range1 (by rfl) (f_range T) (pa_cons (pe_callB call_len_seq (by rfl) (f_len T) PySem.boot_len (pa_cons (pe_ix ix_tup (pv 1) pe_int (fun _ _ => rfl)) pa_nil)) pa_nil)) (blkOk_by (N := nIsR) (sc := defScope s__law_is_right) (by decide +kernel))
        (fun _ _ _ _ _ => pg_name (i := 3) nd rfl (Or.inl rfl)) (fun _ _ _ _ _ => pts_nil) (fun _ _ _ _ _ => by exact pc_is T TB hG hr3 (pa_cons (pe_ix ix_list (pe_ix ix_tup (pv 2) pe_int (fun _ _ => rfl)) (pv 3) (fun _ _ => rfl)) (pa_cons (pe_ix ix_tup (pv 1) pe_int (fun _ _ => rfl)) (pa_cons (pe_ix ix_list (pe_ix ix_tup (pv 1) pe_int (fun _ _ => rfl)) (pv 3) (fun _ _ => rfl)) pa_nil))))) pa_nil)))))))), ?_⟩
    obtain ⟨init, bh, esp⟩ := split_last t
    refine ⟨_, rfl, t, init, bh, rfl, hl, esp, fun n hb H1 p s1 ep => ?_, fun c ls ho H1 p f ds s1 ep ef hds => ?_⟩
    · refine ⟨_, rfl, _, rfl, .inr ⟨t, init, bh, rfl, hl, esp, fun m hb' H2 p2 s2 ep2 => ?_, fun c ls ho => (bad_ok hb ho).elim⟩⟩
      rw [← bad_uniq hb hb'] at ep2
      have ep1 := s2 _ _ ep
      refine ⟨_, rfl, p, _, _, _, rfl, rfl, .inl (.inl ep1), atI_nat (j := 0) rfl, rfl, _, rfl, iteT ?_⟩
      refine ⟨_, rfl, _, rfl, .tuple [.str "bad", .int n], .tuple [.str "bad", .int n], .tup (.inl (.inl ep2)) (.cons (.str _) (.cons (.int _) .nil)), .tup (.inl (.inl ep1)) (.cons (.str _) (.cons (.int _) .nil)), rfl, rfl, by show PyData.depth _ ≤ 64; simp [PyData.depth, PyData.depthAll], ?_⟩
      rw [show PyData.eqv (.tuple [.str "bad", .int n]) (.tuple [.str "bad", .int n]) = true by simp [PyData.eqv, PyData.eqvAll]]
      exact q _ (LamX.ExtN.of (s1.trans s2)) (tb.ext (s1.trans s2))
    · refine ⟨_, rfl, _, rfl, .inr ⟨t, init, bh, rfl, hl, esp, fun m hb' => (bad_ok hb' ho).elim, fun c' ls' ho' H2 p2 a bs s2 ep2 ea hbs => ?_⟩⟩
      obtain ⟨rfl, rfl⟩ := ok_uniq ho ho'
      have ep1 := s2 _ _ ep
      have ef2 := s2 _ _ ef
      have hds2 : DictsAt H2 ds ls := Paired.mapP hds fun d l e => s2 _ _ e
      have lb := hbs.length
      have ld := hds2.length
      have s12 := s1.trans s2
      have hck := ho.1
      have cr := ck_range hck
      clear hds ef ep
      refine ⟨_, rfl, p, _, _, _, rfl, rfl, .inl (.inl ep1), atI_nat (j := 0) rfl, rfl, _, rfl, iteF ?_⟩
      refine ⟨_, rfl, p2, _, _, _, rfl, rfl, .inl (.inl ep2), atI_nat (j := 0) rfl, rfl, _, rfl, iteF ?_⟩
      refine ⟨_, rfl, p2, _, _, _, rfl, rfl, .inl (.inl ep2), atI_nat (j := 1) rfl, _, _, _, _, true, rfl, .ty "list", .base (.lst ea), kit_ty (by decide +kernel), true, rfl, iteF ?_⟩
      refine ⟨_, rfl, p2, _, _, _, rfl, rfl, .inl (.inl ep2), atI_nat (j := 1) rfl, a, _, rfl, .inl (SqL.of ea), _, rfl, p, _, _, _, rfl, rfl, .inl (.inl ep1), atI_nat (j := 2) rfl, f, _, rfl, .inl (SqL.of ef2), rfl, _, rfl, ?_⟩
      rw [List.length_map, List.length_map, show bs.length = ds.length by omega, decide_eq_true rfl]
      refine iteF ?_
      have hll : ls.length ≤ 200001 := by
        have ey : TL.tl nlS = [10] := by decide
        obtain ⟨_, tl1, _⟩ := split_any t (y := nlS) (by rw [ey]; simp) (by decide +kernel)
        rw [esp, List.length_append] at tl1
        have := ho.2.2.1
        omega
      refine ⟨_, rfl, p, _, _, _, rfl, rfl, .inl (.inl ep1), atI_nat (j := 2) rfl, f, _, rfl, .inl (SqL.of ef2), _, rfl, by omega, by rw [List.length_map]; omega, fun F0 hF => ?_⟩
      refine lc_it walk_range (fun i H' => H' F0 = some (.lst ((List.replicate i true).map V.bl)) ∧ LamX.ExtN H2 H' ∧ LamX.Tabs (TT K) H') ⟨upd_same, LamX.ExtN.of (same_upd hF), (tb.ext s12).ext (same_upd hF)⟩ (fun _ _ _ _ => trivial) ?_ ?_
      · rintro i x Ha Hb hi ⟨g1, g2, g3⟩ ⟨rfl, rfl⟩
        rw [List.length_map] at hi
        have hi2 : i < ds.length := by omega
        have hib : i < bs.length := by omega
        have hil : i < ls.length := by omega
        have nt : ∀ {o : HO}, (∀ ps, o ≠ .tbl ps) → ∀ {b : Addr}, H2 b = some o → Hb b = some o := fun ho b e => g2 _ _ e ho
        have eb : BagAt K Hb bs[i] c (canon ls[i]) := by
          have := paired_get hbs (List.getElem?_eq_getElem hib) (List.getElem?_eq_getElem hil)
          exact this.ext g2
        have ed : Hb ds[i] = some (.dK (kv ls[i])) := nt (by intro ps z; cases z) (paired_get hds2 (List.getElem?_eq_getElem hi2) (List.getElem?_eq_getElem hil))
        have ei1 : (bs.map V.ref)[i]? = some (V.ref bs[i]) := by
          rw [List.getElem?_map, List.getElem?_eq_getElem hib]
          rfl
        have ei2 : (ds.map V.ref)[i]? = some (V.ref ds[i]) := by
          rw [List.getElem?_map, List.getElem?_eq_getElem hi2]
          rfl
        obtain ⟨s0, _, hR⟩ := ho.2.2.2.2.2 i _ (List.getElem?_eq_getElem hil)
        have v := hR.vt
        have e1 := nt (by intro ps z; cases z) ep1
        have e2 := nt (by intro ps z; cases z) ep2
        have e3 := nt (by intro ps z; cases z) ea
        have e4 := nt (by intro ps z; cases z) ef2
        refine ⟨rfl, ?_⟩
        refine ⟨_, rfl, p2, _, _, _, rfl, rfl, .inl (.inl e2), atI_nat (j := 1) rfl, _, rfl, a, _, _, _, rfl, rfl, SqL.of e3, (by rw [show (0 : Int) + (i : Nat) = ((i : Nat) : Int) by omega]; exact atI_nat ei1), _, rfl, p, _, _, _, rfl, rfl, .inl (.inl e1), atI_nat (j := 1) rfl, _, rfl, p, _, _, _, rfl, rfl, .inl (.inl e1), atI_nat (j := 2) rfl, _, rfl, f, _, _, _, rfl, rfl, SqL.of e4, (by rw [show (0 : Int) + (i : Nat) = ((i : Nat) : Int) by omega]; exact atI_nat ei2), ?_⟩
        refine ⟨bs[i], ds[i], c, 12, 300, ls[i], rfl, g3, eb, ed, by omega, v, vt_canon v, by decide, fun Hx7 x7 tb7 => ?_⟩
        have e7 := x7 _ _ g1 (by intro ps z; cases z)
        refine ⟨_, e7, by rw [List.length_map, List.length_replicate]; omega, by rw [upd_same, rep_succ], fun b o y ny => ?_, tabs_but tb7 ⟨_, e7⟩ but_upd⟩
        rw [upd_ne (ne_of_none y hF)]
        exact (g2.trans x7) _ _ y ny
      rintro H8 ⟨g1, g2, g3⟩
      refine ⟨F0, _, rfl, SqL.of g1, ?_⟩
      rw [all_rep]
      exact q _ ((LamX.ExtN.of s12).trans g2) g3
end
theorem pc_isr {X : Cx} {p pos : Pos} {e1 : Expr} {t : TA} (T : Top X.K X.mg) (TB : LamX.TabB X.base X.mg (He.cT X.K dPr).1 (He.cT X.K dPr).2) (hG : Gd X.A) (hr : Room 10 X.A) (ha : PA X [e1] t) (hg : Gl X "_law_is_right" := by rfl)
    (he : starEach [e1] X.env = (false, eval e1 X.env) :: starEach [] X.env := by rfl) (hpl : (backTo pos (starEach [] X.env)).any (·.1) = false := by rfl) : PE X (.Call (.Name "_law_is_right" p) [e1] [] pos) (tCall (spIsR X.K) [] E0 t) := by
  obtain ⟨fd, F, b, k⟩ := ok_isr (P := X.prog) (w := X.w) (base := X.base) T TB
  exact pe_callG F hG hr hg (g__law_is_right T) k b ha (by decide) he hpl
end Fp

set_option Elab.async false
set_option linter.all false
set_option maxRecDepth 100000
set_option maxHeartbeats 4000000
/-! lines with one of them otherwise -/
namespace Fp
open PySem PySem.Spec PyProof.Rows L2
section
variable {X : Cx}
end
theorem cut_strs (ws : List Str) (lo hi : Option Int) : ∃ ys : List Str, cutV (ws.map V.str) lo hi = ys.map V.str ∧ ys.length ≤ ws.length ∧ ∀ y ∈ ys, y ∈ ws := by
  refine ⟨(ws.drop (HT.sIx ws.length 0 lo)).take (HT.sIx ws.length ws.length hi - HT.sIx ws.length 0 lo), ?_, ?_, fun y hy => List.mem_of_mem_drop (List.mem_of_mem_take hy)⟩
  · unfold cutV
    rw [List.length_map, ← List.map_drop, ← List.map_take]
  · rw [List.length_take, List.length_drop]
    omega
/-- some of the lines -/
def tLn : TE := fun σ H Q => ∃ (v0 v4 : Option V) (a : Addr) (ws : List Str) (k way : Int), σ = [v0, some (.ref a), some (.int k), some (.int way), v4] ∧ H a = some (.lst (ws.map V.str)) ∧ ws.length ≤ 7 ∧ (∀ w ∈ ws, w.length ≤ 100) ∧
  ∀ p H' (ys : List Str), Same H H' → H p = none → H' p = some (.lst (ys.map V.str)) → ys.length ≤ 7 → (∀ y ∈ ys, y.length ≤ 100) → Q (.ref p) H'
theorem tLn_fin {H : Hp} {ws : List Str} {lo hi : Option Int} {Q : VK} (hl : ws.length ≤ 7) (hw : ∀ w ∈ ws, w.length ≤ 100) (q : ∀ p H' (ys : List Str), Same H H' → H p = none → H' p = some (.lst (ys.map V.str)) → ys.length ≤ 7 → (∀ y ∈ ys, y.length ≤ 100) → Q (.ref p) H') {p : Addr} (np : H p = none) :
    Q (.ref p) (upd H p (.lst (cutV (ws.map V.str) lo hi))) := by
  obtain ⟨ys, e, l, m⟩ := cut_strs ws lo hi
  rw [e]
  exact q p _ ys (same_upd np) np upd_same (by omega) fun y hy => hw y (m y hy)
section
variable {P : Program} {w : World} {K : PySem.W.Frag} {mg : Str → Option Value} {base : Heap}
def spCh : Sp := fun vs H Q _ => ∃ (h ca a : Addr) (ws : List Str), vs = [.ref h, .ref a] ∧ TapeAt ca H h ∧ a ≠ h ∧ H a = some (.lst (ws.map V.str)) ∧ 1 ≤ ws.length ∧ ws.length ≤ 7 ∧ (∀ w ∈ ws, w.length ≤ 100) ∧
  ∀ H' r (ys : List Str), TapeAt ca H' h → But h H H' → H' r = some (.lst (ys.map V.str)) → ys.length ≤ 21 → (∀ y ∈ ys, y.length ≤ 100) → Q (.ref r) H'
abbrev nCh : List Str := ["_law_tape_here", "_law_lines", "_law_at", "_law_way", "_law_odd_here"]
theorem sc_ch : FnScope nCh ["_law_tape_here", "_law_lines"] (defScope s__law_changed) := ⟨rfl, rfl, rfl, by decide +kernel, rfl, by decide +kernel, by decide +kernel⟩
theorem ok_ch (T : Top K mg) : Ok P w K mg base 2 "_law_changed" ["_law_tape_here", "_law_lines"] spCh := by
  obtain ⟨fd, F⟩ := fn__law_changed T
  refine ⟨⟨fd, ?_, F.bindsN fun _ _ _ _ _ _ us hl => match us, hl with | [_, _], _ => rfl⟩, g__law_changed T, F.kp⟩
  refine F.ok sc_ch (fun vs H Q E h => ?_) (fun cdv A outer s H vs Q E hr h => ?_)
  · obtain ⟨h, ca, a, ws, rfl, _⟩ := h
    rfl
  · obtain ⟨h, ca, a, ws, rfl, hh, nah, ha, hl1, hl7, hw, q⟩ := h
    have nd := sc_ch.nd
    have hs : sizeLine = 16777216 := sizeLine_eq
    refine ⟨_, PSs.nox (pss_cons (ps_set (i := 2) nd rfl (Or.inl rfl) (pc (ok_pick T) hr (pa_cons (pv 0) (pa_cons (pe_callB call_len_seq (by rfl) (f_len T) PySem.boot_len (pa_cons (pv 1) pa_nil)) pa_nil))))
      (pss_cons (ps_set (i := 3) nd rfl (Or.inl rfl) (pc (ok_pick T) hr (pa_cons (pv 0) (pa_cons pe_int pa_nil))))
      (pss_cons (ps_if (pt_cmpR op_eq (pv 3) pe_int (nomark _)) (pss_one (ps_ret (pe_op op_cat (PE.weak (t' := tLn) (pe_slice sl_list (pv 1) po_none (po_some (pv 2))) ?a1) (PE.weak (t' := tLn) (pe_slice sl_list (pv 1) (po_some (pe_op op_add (pv 2) pe_int)) po_none) ?a2)))) pss_nil)
      (pss_cons (ps_if (pt_cmpR op_eq (pv 3) pe_int (nomark _)) (pss_one (ps_ret (pe_op op_cat (pe_op op_cat (PE.weak (t' := tLn) (pe_slice sl_list (pv 1) po_none (po_some (pv 2))) ?b1) (PE.weak (t' := tLn) (pe_slice sl_list (pv 1) (po_some (pv 2)) (po_some (pe_op op_add (pv 2) pe_int))) ?b2)) (PE.weak (t' := tLn) (pe_slice sl_list (pv 1) (po_some (pv 2)) po_none) ?b3)))) pss_nil)
      (pss_cons (ps_if (pt_cmpR op_eq (pv 3) pe_int (nomark _)) (pss_one (ps_ret (pe_op op_cat (pe_op op_cat (PE.weak (t' := tLn) (pe_slice sl_list (pv 1) po_none (po_some (pv 2))) ?c1) (PE.weak (t' := tLn) (pe_slice sl_list (pe_revL (pv 1)) po_none (po_some pe_int)) ?c2)) (PE.weak (t' := tLn) (pe_slice sl_list (pv 1) (po_some (pv 2)) po_none) ?c3)))) pss_nil)
      (pss_cons (ps_set (i := 4) nd rfl (Or.inl rfl) (pe_lst (pa_cons pe_str (pa_cons pe_str (pa_cons pe_str (pa_cons pe_str (pa_cons pe_str (pa_cons pe_str (pa_cons pe_str (pa_cons pe_str (pa_cons pe_str (pa_cons pe_str (pa_cons pe_str (pa_cons pe_str (pa_cons pe_str (pa_cons pe_str (pa_cons pe_str (pa_cons pe_str pa_nil))))))))))))))))))
      (pss_one (ps_ret (pe_op op_cat (pe_op op_cat (PE.weak (t' := tLn) (pe_slice sl_list (pv 1) po_none (po_some (pv 2))) ?d1) (pe_lst (pa_cons (pe_ix ix_list (pv 4) (pc (ok_pick T) hr (pa_cons (pv 0) (pa_cons pe_int pa_nil))) (fun _ _ => rfl)) pa_nil))) (PE.weak (t' := tLn) (pe_slice sl_list (pv 1) (po_some (pe_op op_add (pv 2) (pe_callTy call_int1 (by rfl) (f_int T) (by decide +kernel) (pa_cons (pe_cmpR op_gt (pv 3) pe_int (nomark _)) pa_nil)))) po_none) ?d2)))))))))), ?_⟩
    case a1 | b1 | c1 | d1 =>
      rintro σ H Q ⟨v0, v4, a, ws, k, way, rfl, ha, hl, hw, q⟩
      exact ⟨_, rfl, _, rfl, k, rfl, a, _, rfl, SqL.of ha, fun p np => tLn_fin hl hw q np⟩
    case a2 =>
      rintro σ H Q ⟨v0, v4, a, ws, k, way, rfl, ha, hl, hw, q⟩
      exact ⟨_, rfl, _, rfl, _, _, rfl, rfl, _, rfl, a, _, rfl, SqL.of ha, fun p np => tLn_fin hl hw q np⟩
    case b2 =>
      rintro σ H Q ⟨v0, v4, a, ws, k, way, rfl, ha, hl, hw, q⟩
      exact ⟨_, rfl, _, rfl, k, rfl, _, rfl, _, _, rfl, rfl, _, rfl, a, _, rfl, SqL.of ha, fun p np => tLn_fin hl hw q np⟩
    case b3 | c3 =>
      rintro σ H Q ⟨v0, v4, a, ws, k, way, rfl, ha, hl, hw, q⟩
      exact ⟨_, rfl, _, rfl, k, rfl, a, _, rfl, SqL.of ha, fun p np => tLn_fin hl hw q np⟩
    case c2 =>
      rintro σ H Q ⟨v0, v4, a, ws, k, way, rfl, ha, hl, hw, q⟩
      refine ⟨_, rfl, a, _, rfl, SqL.of ha, fun p1 np1 => ?_⟩
      rw [← List.map_reverse]
      refine ⟨1, rfl, p1, _, rfl, SqL.of upd_same, fun p np => ?_⟩
      exact tLn_fin (by rw [List.length_reverse]; exact hl) (fun w hm => hw w (List.mem_reverse.mp hm)) (fun p' H' ys s' n' e l m => q p' H' ys ((same_upd np1).trans s') ((same_upd np1).free n') e l m) np
    case d2 =>
      rintro σ H Q ⟨v0, v4, a, ws, k, way, rfl, ha, hl, hw, q⟩
      exact ⟨_, rfl, _, rfl, _, rfl, _, _, rfl, rfl, .inr ⟨_, rfl, _, _, rfl, rfl, _, rfl, a, _, rfl, SqL.of ha, fun p np => tLn_fin hl hw q np⟩⟩
    refine ⟨_, rfl, _, rfl, a, _, rfl, .inl (SqL.of ha), h, ca, (ws.length : Int), by rw [List.length_map]; rfl, by omega, by omega, hh, fun k H1 g0 g1 hh1 k1 => ?_⟩
    refine ⟨_, rfl, h, ca, 6, rfl, by decide, by decide, hh1, fun way H2 w0 w1 hh2 k2 => ?_⟩
    replace ha := k2 _ _ (k1 _ _ ha nah) nah
    have kk := k1.trans k2
    clear k1 k2 hh1 hh
    -- two, three lists behind one another
    have cat : ∀ {G : Hp} {p1 p2 : Addr} {ys1 ys2 : List Str} {R : VK}, G p1 = some (.lst (ys1.map V.str)) → G p2 = some (.lst (ys2.map V.str)) → ys1.length ≤ 100 → ys2.length ≤ 100 →
        (∀ N, G N = none → R (.ref N) (upd G N (.lst ((ys1 ++ ys2).map V.str)))) → rCat (.ref p1) (.ref p2) G R := fun e1 e2 l1 l2 r => by
      refine ⟨_, _, _, _, rfl, rfl, e1, e2, by rw [List.length_map, List.length_map]; omega, fun N nN => ?_⟩
      rw [← List.map_append]
      exact r N nN
    have two : ∀ {A B : TE} {σ : L2.St}, A = tLn → B = tLn → σ = [some (.ref h), some (.ref a), some (.int k), some (.int way), none] → tOp rCat A B σ H2 Q := by
      rintro A B σ rfl rfl rfl
      refine ⟨_, _, a, ws, k, way, rfl, ha, hl7, hw, fun p1 G1 ys1 t1 m1 e1 l1 u1 => ?_⟩
      refine ⟨_, _, a, ws, k, way, rfl, t1 _ _ ha, hl7, hw, fun p2 G2 ys2 t2 m2 e2 l2 u2 => ?_⟩
      refine cat (t2 _ _ e1) e2 (by omega) (by omega) fun N nN => ?_
      refine q _ N (ys1 ++ ys2) (((hh2.same t1).same t2).same (same_upd nN)) (kk.trans (But.of ((t1.trans t2).trans (same_upd nN)))) upd_same (by rw [List.length_append]; omega) fun y hy => ?_
      rcases List.mem_append.mp hy with hy | hy
      · exact u1 y hy
      · exact u2 y hy
    have three : ∀ {A B C : TE} {σ : L2.St}, A = tLn → B = tLn → C = tLn → σ = [some (.ref h), some (.ref a), some (.int k), some (.int way), none] → tOp rCat (tOp rCat A B) C σ H2 Q := by
      rintro A B C σ rfl rfl rfl rfl
      refine ⟨_, _, a, ws, k, way, rfl, ha, hl7, hw, fun p1 G1 ys1 t1 m1 e1 l1 u1 => ?_⟩
      refine ⟨_, _, a, ws, k, way, rfl, t1 _ _ ha, hl7, hw, fun p2 G2 ys2 t2 m2 e2 l2 u2 => ?_⟩
      refine cat (t2 _ _ e1) e2 (by omega) (by omega) fun N nN => ?_
      have sN := same_upd (o := .lst ((ys1 ++ ys2).map V.str)) nN
      refine ⟨_, _, a, ws, k, way, rfl, sN _ _ (t2 _ _ (t1 _ _ ha)), hl7, hw, fun p3 G3 ys3 t3 m3 e3 l3 u3 => ?_⟩
      refine cat (t3 _ _ upd_same) e3 (by rw [List.length_append]; omega) (by omega) fun N2 nN2 => ?_
      refine q _ N2 (ys1 ++ ys2 ++ ys3) (((((hh2.same t1).same t2).same sN).same t3).same (same_upd nN2)) (kk.trans (But.of ((((t1.trans t2).trans sN).trans t3).trans (same_upd nN2)))) upd_same (by rw [List.length_append, List.length_append]; omega) fun y hy => ?_
      rcases List.mem_append.mp hy with hy | hy
      · rcases List.mem_append.mp hy with hy | hy
        · exact u1 y hy
        · exact u2 y hy
      · exact u3 y hy
    refine ⟨_, rfl, rfl, _, rfl, ite2 (fun _ => two rfl rfl rfl) (fun _ => ?_)⟩
    refine ⟨_, rfl, rfl, _, rfl, ite2 (fun _ => three rfl rfl rfl rfl) (fun _ => ?_)⟩
    refine ⟨_, rfl, rfl, _, rfl, ite2 (fun _ => three rfl rfl rfl rfl) (fun _ => ?_)⟩
    clear two three
    refine ⟨by show 16 ≤ sizeLine; omega, fun O nO => ?_⟩
    obtain ⟨zs, hzs, hz16, hz⟩ : ∃ zs : List Str, zs.map V.str = [V.str "", V.str " ", V.str "2", V.str "5", V.str "0", V.str "x", V.str "1", V.str "x + y", V.str "2 x", V.str "6 z + 1", V.str "w", V.str "4", V.str "xy ", V.str "23", V.str "3 x + x", V.str "02"] ∧ zs.length = 16 ∧ ∀ z ∈ zs, z.length ≤ 100 :=
      ⟨"" :: " " :: "2" :: "5" :: "0" :: "x" :: "1" :: "x + y" :: "2 x" :: "6 z + 1" :: "w" :: "4" :: "xy " :: "23" :: "3 x + x" :: "02" :: [], rfl, rfl, by decide +kernel⟩
    rw [← hzs]
    have sO := same_upd (o := .lst (zs.map V.str)) nO
    have eO : (upd H2 O (.lst (zs.map V.str))) O = some (.lst (zs.map V.str)) := upd_same
    have nOh := (hh2.fresh nO).1
    replace hh2 := hh2.same sO
    replace kk := kk.trans (But.of sO)
    replace ha := sO _ _ ha
    generalize upd H2 O (.lst (zs.map V.str)) = H3 at *
    refine ⟨_, _, a, ws, k, way, rfl, ha, hl7, hw, fun p1 G1 ys1 t1 m1 e1 l1 u1 => ?_⟩
    have n1h := (hh2.fresh m1).1
    refine ⟨_, rfl, _, rfl, h, ca, 16, rfl, by decide, by decide, hh2.same t1, fun r H4 r0 r1 hh4 k4 => ?_⟩
    obtain ⟨n, rfl⟩ : ∃ n : Nat, r = n := ⟨r.toNat, (Int.toNat_of_nonneg r0).symm⟩
    have hn : n < zs.length := by omega
    refine ⟨O, _, _, _, rfl, rfl, .inl (.inl (k4 _ _ (t1 _ _ eO) nOh)), atI_nat (by rw [List.getElem?_map, List.getElem?_eq_getElem hn]; rfl), by show 1 ≤ sizeLine; omega, fun N nN => ?_⟩
    have sN := same_upd (o := .lst [V.str zs[n]]) nN
    have e1' := sN _ _ (k4 _ _ e1 n1h)
    have hzn := hz _ (List.getElem_mem hn)
    refine cat (ys1 := ys1) (ys2 := [zs[n]]) e1' upd_same (by omega) (show 1 ≤ 100 by decide) fun N2 nN2 => ?_
    have sN2 := same_upd (o := .lst ((ys1 ++ [zs[n]]).map V.str)) nN2
    have haN := sN2 _ _ (sN _ _ (k4 _ _ (t1 _ _ ha) nah))
    refine ⟨_, _, a, ws, k, way, rfl, haN, hl7, hw, fun p3 G3 ys3 t3 m3 e3 l3 u3 => ?_⟩
    refine cat (t3 _ _ upd_same) e3 (by rw [List.length_append]; show ys1.length + 1 ≤ 100; omega) (by omega) fun N3 nN3 => ?_
    refine q _ N3 (ys1 ++ [zs[n]] ++ ys3) ((((hh4.same sN).same sN2).same t3).same (same_upd nN3)) (((kk.trans (But.of t1)).trans k4).trans (But.of (((sN.trans sN2).trans t3).trans (same_upd nN3)))) upd_same (by rw [List.length_append, List.length_append]; show ys1.length + 1 + ys3.length ≤ 21; omega) fun y hy => ?_
    rcases List.mem_append.mp hy with hy | hy
    · rcases List.mem_append.mp hy with hy | hy
      · exact u1 y hy
      · rw [List.mem_singleton.mp hy]
        exact hzn
    · exact u3 y hy
end
end Fp

set_option Elab.async false
set_option linter.all false
set_option maxRecDepth 100000
set_option maxHeartbeats 4000000
/-! the text of a tuple of pairs -/
namespace Fp
open PySem PySem.Spec PyProof.Rows L2
section
variable {P : Program} {w : World} {K : PySem.W.Frag} {mg : Str → Option Value} {base : Heap}
def spTextT : Sp := fun vs H Q _ => ∃ (a : Addr) (o : Obj) (ps : List Addr) (l : Tb), vs = [.ref a] ∧ H a = some (.frz o (.tup (ps.map V.ref))) ∧ PrsAt H ps l ∧ (∀ p ∈ l, 1 ≤ p.2 ∧ p.2 < 7 ∧ p.1.length ≤ 12) ∧ l.length ≤ 300 ∧ ∀ H', Same H H' → Q (.str (textT l)) H'
abbrev nTextT : List Str := ["_law_pairs_here", "_law_rows", "_law_word_here", "_law_number"]
theorem sc_textT : FnScope nTextT ["_law_pairs_here"] (defScope s__law_text_of) := ⟨rfl, rfl, rfl, by decide +kernel, rfl, by decide +kernel, by decide +kernel⟩
theorem ok_textT (T : Top K mg) : Ok P w K mg base 1 "_law_text_of" ["_law_pairs_here"] spTextT := by
  obtain ⟨fd, F⟩ := fn__law_text_of T
  refine ⟨⟨fd, ?_, F.bindsN fun _ _ _ _ _ _ us hl => match us, hl with | [_], _ => rfl⟩, g__law_text_of T, F.kp⟩
  refine F.ok sc_textT (fun vs H Q E h => ?_) (fun cdv A outer s H vs Q E hr h => ?_)
  · obtain ⟨a, o, ps, l, rfl, _⟩ := h
    rfl
  · obtain ⟨a, o, ps, l, rfl, ha, hps, hl, hk, q⟩ := h
    have nd := sc_textT.nd
    have hs : sizeLine = 16777216 := sizeLine_eq
    obtain ⟨e2, e3⟩ := id hps
    refine ⟨_, PSs.nox (pss_cons (ps_set (i := 1) nd rfl (Or.inl rfl) (pe_lst pa_nil))
      (pss_cons (ps_for PassesOwn.never rfl (pi_tup (pv 0)) (pg_tup rfl (pgs_cons (pg_name (i := 2) nd rfl (Or.inl rfl)) (pgs_cons (pg_name (i := 3) nd rfl (Or.inl rfl)) pgs_nil)))
        (pss_one (ps_if (pt_cmpR op_eq (pv 2) pe_str (nomark _)) (pss_one (ps_expr (pe_bm PySem.F.plainAttrs_list PySem.F.slot_list_append PySem.F.type_list_append mt_append (pv 1) (pa_cons (pe_callTy call_str_int (by rfl) (f_str T) (by decide +kernel) (pa_cons (pv 3) pa_nil)) pa_nil))))
          (pss_one (ps_if (pt_cmpR op_eq (pv 3) pe_int (nomark _)) (pss_one (ps_expr (pe_bm PySem.F.plainAttrs_list PySem.F.slot_list_append PySem.F.type_list_append mt_append (pv 1) (pa_cons (pv 2) pa_nil))))
            (pss_one (ps_expr (pe_bm PySem.F.plainAttrs_list PySem.F.slot_list_append PySem.F.type_list_append mt_append (pv 1) (pa_cons (pe_op op_add_str (pe_op op_add_str (pe_callTy call_str_int (by rfl) (f_str T) (by decide +kernel) (pa_cons (pv 3) pa_nil)) pe_str) (pv 2)) pa_nil)))))))))
      (pss_cons (ps_if (pt_cmpR op_eq (pe_callB call_len (by rfl) (f_len T) PySem.boot_len (pa_cons (pv 1) pa_nil)) pe_int (nomark _)) (pss_one (ps_ret pe_str)) pss_nil)
      (pss_one (ps_ret (pe_join pe_str (pv 1))))))), ?_⟩
    refine ⟨by show 0 ≤ sizeLine; omega, fun R nR => ?_⟩
    have s0 := same_upd (o := .lst []) nR
    have naR : a ≠ R := ne_of_none ha nR
    refine ⟨_, rfl, a, rfl, ⟨_, .inl (.inr ⟨o, s0 _ _ ha⟩)⟩, ?_⟩
    refine for_it (walk_tup (xs := ps.map V.ref)) (fun i σ H' => ∃ v2 v3 : Option V, σ = [some (.ref a), some (.ref R), v2, v3] ∧ H' R = some (.lst (((l.take i).map termT).map V.str)) ∧ Same H H')
      ⟨none, none, rfl, upd_same, s0⟩ (fun i σ H' _ hP => by obtain ⟨v2, v3, _, _, z⟩ := hP; exact .inl (.inr ⟨o, z _ _ ha⟩)) ?_ ?_
    · rintro i x σ Ha Hb hi ⟨v2, v3, rfl, p1, p2⟩ ⟨rfl, e⟩
      rw [List.length_map] at hi
      have hiL : i < l.length := by omega
      obtain ⟨qa, h1, h2⟩ := e3 i l[i] (List.getElem?_eq_getElem hiL)
      rw [List.getElem?_map, h1] at e
      obtain rfl : V.ref qa = x := Option.some.inj e
      obtain ⟨g1, g2, g3⟩ := hl l[i] (List.getElem_mem hiL)
      have hlog : (l[i].2).natAbs.log2 < 1920 := by
        have := Nat.log2_le_self (l[i].2).natAbs
        omega
      have hd := dgt_len g1 g2
      have fin : ∀ t : Str, t = termT l[i] → ∃ v2' v3' : Option V, [some (V.ref a), some (V.ref R), some (V.str l[i].1), some (V.int l[i].2)] = [some (.ref a), some (.ref R), v2', v3'] ∧ (upd Hb R (.lst (((l.take i).map termT).map V.str ++ [.str t]))) R = some (.lst (((l.take (i + 1)).map termT).map V.str)) ∧ Same H (upd Hb R (.lst (((l.take i).map termT).map V.str ++ [.str t]))) := fun t ht => by
        refine ⟨_, _, rfl, ?_, fun b u z => ?_⟩
        · rw [upd_same, List.take_add_one, List.getElem?_eq_getElem hiL, List.map_append, List.map_append, ht]
          rfl
        · rw [upd_ne (ne_of_none z nR)]
          exact p2 _ _ z
      have hz : (((l.take i).map termT).map V.str).length < sizeLine := by
        rw [List.length_map, List.length_map, List.length_take]
        omega
      refine ⟨qa, _, rfl, .inl (.inl (p2 _ _ h2)), rfl, ?_⟩
      refine ⟨_, _, rfl, _, _, rfl, rfl, ?_⟩
      generalize l[i] = p at fin g1 g2 g3 hlog hd
      obtain ⟨x, n⟩ := p
      refine ⟨_, rfl, rfl, _, rfl, ?_⟩
      by_cases hx0 : x = ""
      · rw [decide_eq_true (show V.str x = V.str "" by rw [hx0])]
        refine iteT ?_
        refine ⟨_, rfl, .inl ⟨rfl, _, SqL.of p1⟩, _, rfl, n, rfl, hlog, R, _, _, rfl, rfl, p1, hz, ?_⟩
        exact fin _ (by unfold termT; rw [if_pos hx0]; rfl)
      rw [decide_eq_false (show ¬ V.str x = V.str "" from fun z => hx0 (by injection z))]
      refine iteF ?_
      refine ⟨_, rfl, rfl, _, rfl, ?_⟩
      by_cases hn : n = 1
      · rw [decide_eq_true (show V.int n = V.int 1 by rw [hn])]
        refine iteT ?_
        refine ⟨_, rfl, .inl ⟨rfl, _, SqL.of p1⟩, _, rfl, R, _, _, rfl, rfl, p1, hz, ?_⟩
        exact fin _ (by unfold termT; rw [if_neg hx0, if_pos hn])
      · rw [decide_eq_false (show ¬ V.int n = V.int 1 from fun z => hn (by injection z))]
        refine iteF ?_
        refine ⟨_, rfl, .inl ⟨rfl, _, SqL.of p1⟩, _, rfl, n, rfl, hlog, _, _, rfl, rfl, ?_, _, rfl, _, _, rfl, rfl, ?_, R, _, _, rfl, rfl, p1, hz, ?_⟩
        · show (dgt n).length + 1 ≤ sizeLine
          have hd' : (dgt n).length = 1 := hd
          omega
        · show (dgt n ++ " ").length + x.length ≤ sizeLine
          rw [len_app, hd]
          show 1 + 1 + _ ≤ _
          have : x.length ≤ 12 := g3
          omega
        · exact fin _ (by unfold termT; rw [if_neg hx0, if_neg hn]; rfl)
    · rintro σ Ha ⟨v2, v3, rfl, p1, p2⟩
      rw [List.length_map, e2, List.take_length] at p1
      unfold textT at q
      refine ⟨_, rfl, .ref R, l.length, rfl, .inl ⟨_, SqL.of p1, by rw [List.length_map, List.length_map]⟩, rfl, _, rfl, ?_⟩
      by_cases hL : l = []
      · rw [if_pos hL] at q
        rw [decide_eq_true (show V.int ((l.length : Nat) : Int) = V.int 0 by rw [hL]; rfl)]
        exact iteT (q _ p2)
      · rw [if_neg hL] at q
        have hpos := List.length_pos_iff.mpr hL
        rw [decide_eq_false (show ¬ V.int ((l.length : Nat) : Int) = V.int 0 from fun z => by injection z with z; omega)]
        refine iteF ?_
        refine ⟨⟨_, rfl⟩, _, rfl, _, R, l.map termT, rfl, rfl, .inl (.inl (.inl p1)), ?_, q Ha p2⟩
        have h14 := sum_le (m := 14) (ys := l.map termT) fun y hy => by
          obtain ⟨p, hp, rfl⟩ := List.mem_map.mp hy
          obtain ⟨h1, h2, h3⟩ := hl p hp
          have := termT_len (p := p) h1 h2
          omega
        rw [List.length_map] at h14
        show ((l.map termT).map (·.length)).sum + (l.map termT).length * 3 ≤ 16777216
        rw [List.length_map]
        omega
end
end Fp

set_option Elab.async false
set_option linter.all false
set_option maxRecDepth 100000
set_option maxHeartbeats 8000000
namespace Fp
open PySem PySem.Spec PyProof.Rows L2
theorem PrsAt.but {H H' : Hp} {h : Addr} {ps : List Addr} {l : Tb} (p : PrsAt H ps l) (hl : ∃ xs, H h = some (.lst xs)) (k : But h H H') : PrsAt H' ps l := ⟨p.1, fun i q e => by
  obtain ⟨xs, hx⟩ := hl
  obtain ⟨a, h1, h2⟩ := p.2 i q e
  exact ⟨a, h1, k _ _ h2 (ne_of h2 hx (by intro y; cases y))⟩⟩
theorem text_len {c : Int} {m k : Nat} {l : Tb} (hc : c ≤ 7) (v : VT c m k l) (hm : m ≤ 12) : (textT l).length ≤ 17 * l.length + 1 := by
  unfold textT
  split
  · show 1 ≤ _
    omega
  · rename_i h
    have := join_len (s := plusS) (ys := l.map termT) (m := 14) fun p hp => by
      obtain ⟨y, hy, rfl⟩ := List.mem_map.mp hp
      have g1 := v.nu y hy
      have g2 := (v.wd y hy).2
      have := termT_len (p := y) g1.1 (by omega)
      omega
    rw [List.length_map] at this
    have e3 : plusS.length = 3 := rfl
    rw [e3] at this
    omega
theorem ck3 : isCk 3 := .inr (.inl rfl)
theorem OddA.but {H H' : Hp} {a h : Addr} (o : OddA H a) (k : But h H H') (n : a ≠ h) : OddA H' a := by
  cases o with
  | tup e => exact .tup (k _ _ e n)
  | lst e => exact .lst (k _ _ e n)
  | dct e => exact .dct (k _ _ e n)
theorem NoS.but {K : PySem.W.Frag} {H H' : Hp} {x : V} {h : Addr} (o : NoS K H x) (hl : ∃ xs, H h = some (.lst xs)) (k : But h H H') (n : x ≠ .ref h) : NoS K H' x := by
  rcases o with ⟨o, h2⟩ | ⟨a, c, L, rfl, hb⟩
  · refine .inl ⟨?_, h2⟩
    cases o with
    | non => exact .non
    | bl b => exact .bl b
    | int i => exact .int i
    | str s => exact .str s
    | ref o => exact .ref (o.but k fun e => n (by rw [e]))
  · exact .inr ⟨a, c, L, rfl, hb.but k hl⟩
def tNew : TE := fun σ H Q => ∀ p H', Same H H' → H p = none → OddA H' p → Q (.ref p) H'
def tBagX (K : PySem.W.Frag) : TE := fun σ H Q => ∀ b H', Same H H' → H b = none → BagAt K H' b 2 (canon []) → Q (.ref b) H'
/-- the first of the lines -/
def tJl : TE := fun σ H Q => ∃ (x0 x1 x2 x3 x5 x6 x7 x8 x9 x10 x11 x12 : Option V) (W : Addr) (ws : List Str), σ = [x0, x1, x2, x3, some (.ref W), x5, x6, x7, x8, x9, x10, x11, x12] ∧ H W = some (.lst (ws.map V.str)) ∧ ws.length ≤ 7 ∧ (∀ w ∈ ws, w.length ≤ 100) ∧ ∀ H' r, Same H H' → r.length ≤ 800 → Q (.str r) H'
section
variable {P : Program} {w : World} {K : PySem.W.Frag} {mg : Str → Option Value} {base : Heap}
def spLaw (K : PySem.W.Frag) : Sp := fun vs H Q _ => ∃ (a : Addr) (ns : List Int), vs = [.ref a] ∧ LamX.Tabs (TT K) H ∧ SqL K H a (ns.map V.int) ∧ ∀ H', Q (.bl true) H'
abbrev nLaw : List Str := ["_law_script", "_law_tape_here", "_law_turn", "_law_clock_here", "_law_lines", "_law_more", "_law_text", "_law_odd_here", "_law_texts", "_law_one", "_law_short", "_law_things", "_law_thing"]
theorem sc_law : FnScope nLaw ["_law_script"] (defScope s_law) := ⟨rfl, rfl, rfl, by decide +kernel, rfl, by decide +kernel, by decide +kernel⟩
theorem ok_law (T : Top K mg) (TB : LamX.TabB base mg (He.cT K dPr).1 (He.cT K dPr).2) {fd : FuncData} (F : FnP K "law" "law" s_law (He.fAd K ("law", none)) fd) : FnG P w K mg base 11 (He.ga K "law") fd ["_law_script"] (spLaw K) := by
  refine F.okG sc_law (fun vs H Q E h => ?_) (fun cdv A outer s H vs Q E hG hr h => ?_)
  · obtain ⟨a, ns, rfl, _⟩ := h
    rfl
  · obtain ⟨a, ns, rfl, tb, hS, q⟩ := h
    have nd := sc_law.nd
    have hs : sizeLine = 16777216 := sizeLine_eq
    have hr1 : Room 1 _ := hr.mono (by decide)
    have hr2 : Room 2 _ := hr.mono (by decide)
    have hr3 : Room 3 _ := hr.mono (by decide)
    have hr4 : Room 4 _ := hr.mono (by decide)
    have hr6 : Room 6 _ := hr.mono (by decide)
    have hr9 : Room 9 _ := hr.mono (by decide)
    refine ⟨_, PSs.nox (pss_cons (ps_set (i := 1) nd rfl (by first | exact Or.inl rfl | exact Or.inr rfl) (pc (ok_tape T) hr1 (pa_cons (pv 0) pa_nil)))
      (pss_cons (ps_for PassesOwn.never rfl (pi_range1 (by rfl) (f_range T) (pa_cons pe_int pa_nil)) (pg_name (i := 2) nd rfl (by first | exact Or.inl rfl | exact Or.inr rfl))
        (pss_cons (ps_set (i := 3) nd rfl (by first | exact Or.inl rfl | exact Or.inr rfl) (pc (ok_ck T) hr2 (pa_cons (pv 1) pa_nil)))
      (pss_cons (ps_set (i := 4) nd rfl (by first | exact Or.inl rfl | exact Or.inr rfl) (pe_lst (pa_cons (pe_callTy call_str_int (by rfl) (f_str T) (by decide +kernel) (pa_cons (pv 3) pa_nil)) pa_nil)))
      (pss_cons (ps_for PassesOwn.never rfl (pi_range1 (by rfl) (f_range T) (pa_cons (pe_op op_add pe_int (pc (ok_pick T) hr1 (pa_cons (pv 1) (pa_cons pe_int pa_nil)))) pa_nil)) (pg_name (i := 5) nd rfl (by first | exact Or.inl rfl | exact Or.inr rfl))
        (pss_one (ps_expr (pe_bm PySem.F.plainAttrs_list PySem.F.slot_list_append PySem.F.type_list_append mt_append (pv 4) (pa_cons (pc (ok_textT T) hr1 (pa_cons (pc (ok_prs T TB) hr2 (pa_cons (pc (ok_sparse T) hr4 (pa_cons (pv 1) (pa_cons (pv 3) (pa_cons pe_str (pa_cons pe_int (pa_cons pe_int pa_nil)))))) pa_nil)) pa_nil)) pa_nil)))))
      (pss_cons (ps_set (i := 6) nd rfl (by first | exact Or.inl rfl | exact Or.inr rfl) (pe_op op_add_str (pe_join pe_str (pv 4)) pe_str))
      (pss_cons (ps_set (i := 7) nd rfl (by first | exact Or.inl rfl | exact Or.inr rfl) (pe_op op_add_str (pe_join pe_str (pc (ok_ch T) hr2 (pa_cons (pv 1) (pa_cons (pv 4) pa_nil)))) pe_str))
      (pss_cons (ps_set (i := 8) nd rfl (by first | exact Or.inl rfl | exact Or.inr rfl) (pe_lst (pa_cons (pv 6) (pa_cons (pv 7) (pa_cons (pc (ok_sp T) hr2 (pa_cons (pv 1) (pa_cons (pv 6) pa_nil))) (pa_cons (pc (ok_sp T) hr2 (pa_cons (pv 1) (pa_cons (pv 7) pa_nil))) (pa_cons (pe_slice sl_str (pv 6) po_none (po_some (pe_un un_neg pe_int))) (pa_cons (pe_op op_add_str (pv 6) pe_str) (pa_cons (pe_op op_add_str pe_str (pv 6)) pa_nil)))))))))
      (pss_cons (ps_set (i := 8) nd rfl (by first | exact Or.inl rfl | exact Or.inr rfl) (pe_op op_cat (pv 8) (pe_lst (pa_cons (pe_op op_add_str (pv 6) pe_str) (pa_cons (pe_op op_add_str (pv 6) pe_str) (pa_cons (pe_op op_add_str (pv 6) (pv 6)) (pa_cons (PE.weak (t' := tJl) (pe_join pe_str (pe_slice sl_list (pv 4) po_none (po_some pe_int))) ?j1) (pa_cons (pe_op op_add_str (PE.weak (t' := tJl) (pe_join pe_str (pe_slice sl_list (pv 4) po_none (po_some pe_int))) ?j2) pe_str) pa_nil))))))))
      (pss_one (ps_if (pt_not (pt_val (pe_callB (cr_all rfl) (by rfl) (f_all T) (by decide +kernel) (pa_cons (pe_lc (own := [("_law_one", 9)]) (g := gName 9) (tt := tYes) (te := tCall (spIsR K) [] E0 (tCons (tVar 9) tNil)) rfl nd (pi_list (pv 8)) (blkOk_by (N := nLaw) (sc := defScope s_law) (by decide +kernel))
        (fun _ _ _ _ _ => pg_name (i := 9) nd rfl (by first | exact Or.inl rfl | exact Or.inr rfl)) (fun _ _ _ _ _ => pts_nil) (fun _ _ _ _ _ => by exact (pc_isr T TB hG hr (pa_cons (pv 9) pa_nil)))) pa_nil)))) (pss_one (ps_ret pe_bl)) pss_nil))))))))))
      (pss_cons (ps_set (i := 10) nd rfl (by first | exact Or.inl rfl | exact Or.inr rfl) (pe_lst (pa_cons pe_str (pa_cons pe_str (pa_cons pe_str (pa_cons pe_str (pa_cons pe_str (pa_cons pe_str (pa_cons pe_str (pa_cons pe_str (pa_cons pe_str (pa_cons pe_str (pa_cons pe_str (pa_cons pe_str pa_nil))))))))))))))
      (pss_cons (ps_set (i := 10) nd rfl (by first | exact Or.inl rfl | exact Or.inr rfl) (pe_op op_cat (pv 10) (pe_lst (pa_cons pe_str (pa_cons pe_str (pa_cons pe_str (pa_cons pe_str (pa_cons pe_str pa_nil))))))))
      (pss_cons (ps_if (pt_not (pt_val (pe_callB (cr_all rfl) (by rfl) (f_all T) (by decide +kernel) (pa_cons (pe_lc (own := [("_law_one", 9)]) (g := gName 9) (tt := tYes) (te := tCall (spIsR K) [] E0 (tCons (tVar 9) tNil)) rfl nd (pi_list (pv 10)) (blkOk_by (N := nLaw) (sc := defScope s_law) (by decide +kernel))
        (fun _ _ _ _ _ => pg_name (i := 9) nd rfl (by first | exact Or.inl rfl | exact Or.inr rfl)) (fun _ _ _ _ _ => pts_nil) (fun _ _ _ _ _ => by exact (pc_isr T TB hG hr (pa_cons (pv 9) pa_nil)))) pa_nil)))) (pss_one (ps_ret pe_bl)) pss_nil)
      (pss_cons (ps_set (i := 11) nd rfl (by first | exact Or.inl rfl | exact Or.inr rfl) (pe_lst (pa_cons pe_non (pa_cons pe_int (pa_cons pe_bl (pa_cons pe_int (pa_cons (PE.weak (t' := tNew) (pe_tup pa_nil) ?w1) (pa_cons (PE.weak (t' := tNew) (pe_lst pa_nil) ?w2) (pa_cons (PE.weak (t' := tNew) (pe_lst (pa_cons pe_str (pa_cons pe_str pa_nil))) ?w3) (pa_cons (PE.weak (t' := tNew) (pe_lst (pa_cons (pbag T hr6 (pa_cons pe_int (pa_cons (pe_disp (pps_cons pe_str pe_int pps_nil) (by rfl) (by rfl) (fun z => by cases z) (by decide)) pa_nil))) pa_nil)) ?w4) (pa_cons (PE.weak (t' := (tBagX K)) (pbag T hr6 (pa_cons pe_int (pa_cons pe_dnewK pa_nil))) ?w5) (pa_cons (pc (ok_dp T) hr2 (pa_cons (pv 1) pa_nil)) pa_nil))))))))))))
      (pss_one (ps_ret (pe_callB (cr_all rfl) (by rfl) (f_all T) (by decide +kernel) (pa_cons (pe_lc (own := [("_law_thing", 12)]) (g := gName 12) (tt := tYes) (te := tOp (rEqP K) (tCall (spTold K) [] E0 (tCons (tVar 12) tNil)) (tTup (tCons (tC (.str "bad")) (tCons (tC (.int 0)) tNil)))) rfl nd (pi_list (pv 11)) (blkOk_by (N := nLaw) (sc := defScope s_law) (by decide +kernel))
        (fun _ _ _ _ _ => pg_name (i := 12) nd rfl (by first | exact Or.inl rfl | exact Or.inr rfl)) (fun _ _ _ _ _ => pts_nil) (fun _ _ _ _ _ => by exact (pe_cmpR (op_eqP hr.units) (pc (ok_told T) hr9 (pa_cons (pv 12) pa_nil)) (pe_tup (pa_cons pe_str (pa_cons pe_int pa_nil))) (nomark _)))) pa_nil)))))))))), ?_⟩
    case w1 => exact fun σ H Q q => ⟨by show 0 ≤ sizeLine; omega, fun p np => q p _ (same_upd np) np (.tup upd_same)⟩
    case w2 => exact fun σ H Q q => ⟨by show 0 ≤ sizeLine; omega, fun p np => q p _ (same_upd np) np (.lst upd_same)⟩
    case w3 => exact fun σ H Q q => ⟨by show 2 ≤ sizeLine; omega, fun p np => q p _ (same_upd np) np (.lst upd_same)⟩
    case w4 =>
      intro σ H Q q D nD
      refine ⟨upd_same, [(Sum.inr "x", .int 1)], rfl, by decide, ?_⟩
      have s1 : Same H (upd (upd H D (.dK [])) D (.dK (mergeK [] [(Sum.inr "x", V.int 1)]))) := by
        rw [upd_upd]
        exact same_upd nD
      have e1 : (upd (upd H D (.dK [])) D (.dK (mergeK [] [(Sum.inr "x", V.int 1)]))) D = some (.dK (kv [("x", 1)])) := upd_same
      intro b dx hb hdx ne
      refine ⟨b, D, dx, 2, [("x", 1)], rfl, upd_same, .inl rfl, made_dict e1 hb hdx, ⟨List.nodup_cons.mpr ⟨List.not_mem_nil, List.nodup_nil⟩, by decide, by decide, by decide⟩, fun Hc kc hB => ⟨rfl, by show 1 ≤ sizeLine; omega, fun p np => ?_⟩⟩
      have s2 := s1.trans (made_same kc hb hdx)
      exact q p _ (s2.trans (same_upd np)) (s2.free np) (.lst upd_same)
    case w5 =>
      intro σ H Q q D nD b dx hb hdx ne
      exact ⟨b, D, dx, 2, [], rfl, upd_same, .inl rfl, made_dict upd_same hb hdx, (vt_nil 2 12).mono (Nat.le_refl _) (by decide), fun Hc kc hB => ⟨rfl, q b Hc ((same_upd nD).trans (made_same kc hb hdx)) ((same_upd nD).free hb) hB⟩⟩
    case j1 | j2 =>
      rintro σ H Q ⟨x0, x1, x2, x3, x5, x6, x7, x8, x9, x10, x11, x12, W, ws, rfl, eW, hl, hw, q⟩
      obtain ⟨ys, e, l, m⟩ := cut_strs ws none (some 1)
      have yw : ∀ y ∈ ys, y.length ≤ 100 := fun y hy => hw y (m y hy)
      have l1 := sum_lens yw
      have l2 := join_len (s := "\n") yw
      have e1 : ("\n" : Str).length = 1 := rfl
      rw [e1] at l2
      refine ⟨⟨_, rfl⟩, _, rfl, 1, rfl, W, _, rfl, SqL.of eW, fun p np => ?_⟩
      rw [e]
      exact ⟨_, p, ys, rfl, rfl, .inl (SqL.of upd_same), by rw [e1]; omega, q _ _ (same_upd np) (by omega)⟩
    refine ⟨_, rfl, a, ns, rfl, hS, fun H1 h ca s1 hh => ?_⟩
    have tb1 := tb.ext s1
    clear tb s1 hS
    have en : ("\n" : Str).length = 1 := rfl
    have ex : ("x" : Str).length = 1 := rfl
    have ew : ("w\n" : Str).length = 2 := rfl
    refine ⟨8, rfl, by decide, by decide, ?_⟩
    refine for_it walk_range (fun i σ H' => (∃ v2 v3 v4 v5 v6 v7 v8 v9 : Option V, σ = [some (.ref a), some (.ref h), v2, v3, v4, v5, v6, v7, v8, v9, none, none, none]) ∧ TapeAt ca H' h ∧ LamX.Tabs (TT K) H')
      ⟨⟨none, none, none, none, none, none, none, none, rfl⟩, hh, tb1⟩ (fun _ _ _ _ _ => trivial) ?_ ?_
    · rintro i x σ Ha Hb hi ⟨⟨v2, v3, v4, v5, v6, v7, v8, v9, rfl⟩, p1, p2⟩ ⟨rfl, rfl⟩
      refine ⟨_, rfl, h, ca, rfl, p1, fun H3 c hh3 k3 hck => ?_⟩
      have tb3 := tabs_but p2 p1.lst k3
      have cr := ck_range hck
      have hlog : c.natAbs.log2 < 1920 := by
        have := Nat.log2_le_self c.natAbs
        omega
      have lck : (dgt c).length ≤ 100 := by rcases hck with rfl | rfl | rfl | rfl <;> decide +kernel
      refine ⟨_, rfl, c, rfl, hlog, by show 1 ≤ sizeLine; omega, fun A nA => ?_⟩
      have sA := same_upd (o := .lst [V.str (toString c)]) nA
      have eA : (upd H3 A (.lst [V.str (toString c)])) A = some (.lst (([dgt c] : List Str).map V.str)) := upd_same
      obtain ⟨nAh, nAc⟩ := hh3.fresh nA
      replace hh3 := hh3.same sA
      replace tb3 := tb3.ext sA
      generalize upd H3 A (.lst [V.str (toString c)]) = H4 at *
      refine ⟨_, rfl, h, ca, 5, rfl, by decide, by decide, hh3, fun r H5 g0 g1 hh5 k5 => ⟨_, _, rfl, rfl, 1 + r, rfl, by omega, by omega, ?_⟩⟩
      have tb5 := tabs_but tb3 hh3.lst k5
      replace eA := k5 _ _ eA nAh
      clear k5 k3 sA nA hh3 tb3
      refine for_it walk_range (fun j σ H' => (∃ v5 : Option V, σ = [some (.ref a), some (.ref h), some (.int (0 + (i : Nat))), some (.int c), some (.ref A), v5, v6, v7, v8, v9, none, none, none]) ∧ (∃ ws : List Str, H' A = some (.lst (ws.map V.str)) ∧ ws.length = 1 + j ∧ ∀ w ∈ ws, w.length ≤ 100) ∧ TapeAt ca H' h ∧ LamX.Tabs (TT K) H')
        ⟨⟨_, rfl⟩, ⟨[dgt c], eA, rfl, fun w hw => by rw [List.mem_singleton.mp hw]; exact lck⟩, hh5, tb5⟩ (fun _ _ _ _ _ => trivial) ?_ ?_
      · rintro j x σ Hc Hd hj ⟨⟨w5, rfl⟩, ⟨ws, f1, f2, f3⟩, f4, f5⟩ ⟨rfl, rfl⟩
        refine ⟨_, rfl, .inl ⟨rfl, _, SqL.of f1⟩, ?_⟩
        refine ⟨_, rfl, _, rfl, h, ca, c, "xyz", 3, 4, rfl, f4, cr.1, cr.2, by decide, by decide, by decide, by decide, by decide, fun H8 d l hh8 k8 nd8 e8 v => ?_⟩
        have tb8 := tabs_but f5 f4.lst k8
        have vc := vt_canon v
        refine ⟨d, l, rfl, tb8, e8, v.nd, fun p hp => by have := (v.wd p hp).2; omega, by have := v.ln; omega, fun H9 t x9 tb9 w9 => ?_⟩
        obtain ⟨ps, o, et, hps⟩ := prs_of w9
        refine ⟨t, o, ps, canon l, rfl, et, hps, fun p hp => by have := vc.nu p hp; have := (vc.wd p hp).2; omega, by have := vc.ln; omega, fun H10 s10 => ?_⟩
        have tl := text_len cr.2 vc (by decide)
        have vl := vc.ln
        have fA := s10 _ _ (x9 _ _ (k8 _ _ f1 nAh) (by intro ps z; cases z))
        refine ⟨A, _, _, rfl, rfl, fA, by rw [List.length_map]; omega, ?_⟩
        refine ⟨⟨_, rfl⟩, ⟨ws ++ [textT (canon l)], by rw [upd_same, List.map_append]; rfl, by rw [List.length_append, f2]; rfl, fun w hw => ?_⟩, ((hh8.ext x9).same s10).off (d := A) but_upd nAh.symm nAc.symm, tabs_but (tb9.ext s10) ⟨_, fA⟩ but_upd⟩
        rcases List.mem_append.mp hw with hw | hw
        · exact f3 w hw
        · rw [List.mem_singleton.mp hw]
          omega
      rintro σ Hc ⟨⟨w5, rfl⟩, ⟨ws, f1, f2, f3⟩, f4, f5⟩
      have wl : 1 ≤ ws.length ∧ ws.length ≤ 6 := by omega
      clear f2 eA hh5 tb5 lck hlog
      have l1 := sum_lens f3
      have l2 := join_len (s := "\n") f3
      rw [en] at l2
      refine ⟨⟨_, rfl⟩, _, rfl, _, A, ws, rfl, rfl, .inl (.inl (.inl f1)), by rw [en]; omega, _, _, rfl, rfl, by omega, ?_⟩
      have ltx : (Txt.join "\n" ws ++ "\n").length ≤ 607 := by
        rw [len_app]
        omega
      generalize (Txt.join "\n" ws ++ "\n" : Str) = tx at ltx ⊢
      refine ⟨⟨_, rfl⟩, _, rfl, _, rfl, h, ca, A, ws, rfl, f4, nAh, f1, wl.1, by omega, f3, fun H6 r6 ys hh6 k6 er yl yw => ?_⟩
      have tb6 := tabs_but f5 f4.lst k6
      replace f1 := k6 _ _ f1 nAh
      have m1 := sum_lens yw
      have m2 := join_len (s := "\n") yw
      rw [en] at m2
      refine ⟨_, r6, ys, rfl, rfl, .inl (.inl (.inl er)), by rw [en]; omega, _, _, rfl, rfl, by omega, ?_⟩
      have lod : (Txt.join "\n" ys ++ "\n").length ≤ 2122 := by
        rw [len_app]
        omega
      generalize (Txt.join "\n" ys ++ "\n" : Str) = od at lod ⊢
      clear m1 m2 l1 l2 yw yl er k6 f4 f5
      -- the texts
      refine ⟨_, rfl, _, rfl, _, rfl, _, rfl, h, ca, tx, rfl, hh6, by omega, fun H7 z1 hh7 k7 lz1 => ?_⟩
      have tb7 := tabs_but tb6 hh6.lst k7
      replace f1 := k7 _ _ f1 nAh
      refine ⟨_, rfl, _, rfl, h, ca, od, rfl, hh7, by omega, fun H8 z2 hh8 k8 lz2 => ?_⟩
      have tb8 := tabs_but tb7 hh7.lst k8
      replace f1 := k8 _ _ f1 nAh
      have lcut := cutS_length tx none (some (-1))
      refine ⟨_, rfl, _, rfl, -1, rfl, tx, rfl, by omega, _, rfl, _, _, rfl, rfl, by omega, _, rfl, _, _, rfl, rfl, by omega, by show 7 ≤ sizeLine; omega, fun M nM => ?_⟩
      obtain ⟨zs1, hz1, hw1⟩ : ∃ zs : List Str, zs.map V.str = [V.str tx, V.str od, V.str z1, V.str z2, V.str (cutS tx none (some (-1))), V.str (tx ++ "\n"), V.str ("\n" ++ tx)] ∧ ∀ z ∈ zs, z.length ≤ 100000 := by
        refine ⟨tx :: od :: z1 :: z2 :: cutS tx none (some (-1)) :: (tx ++ "\n") :: ("\n" ++ tx) :: [], rfl, fun z hz => ?_⟩
        rcases List.mem_cons.mp hz with rfl | hz
        · omega
        rcases List.mem_cons.mp hz with rfl | hz
        · omega
        rcases List.mem_cons.mp hz with rfl | hz
        · omega
        rcases List.mem_cons.mp hz with rfl | hz
        · omega
        rcases List.mem_cons.mp hz with rfl | hz
        · omega
        rcases List.mem_cons.mp hz with rfl | hz
        · rw [len_app]; omega
        rw [List.mem_singleton.mp hz, len_app]
        omega
      have hl1 : zs1.length = 7 := by
        have := congrArg List.length hz1
        rwa [List.length_map] at this
      rw [← hz1]
      have sM := same_upd (o := .lst (zs1.map V.str)) nM
      have eM : (upd H8 M (.lst (zs1.map V.str))) M = some (.lst (zs1.map V.str)) := upd_same
      replace hh8 := hh8.same sM
      replace tb8 := tb8.ext sM
      replace f1 := sM _ _ f1
      generalize upd H8 M (.lst (zs1.map V.str)) = H9 at *
      clear sM nM hz1 lcut k7 k8 hh7 hh6 tb6 tb7
      refine ⟨_, rfl, _, rfl, _, _, rfl, rfl, by omega, _, rfl, _, _, rfl, rfl, by omega, _, rfl, _, rfl, _, _, rfl, rfl, by omega, ?_⟩
      refine ⟨_, _, _, _, _, _, _, _, _, _, _, _, A, ws, rfl, f1, by omega, f3, fun Hj y1 sj ly1 => ?_⟩
      refine ⟨_, _, _, _, _, _, _, _, _, _, _, _, A, ws, rfl, sj _ _ f1, by omega, f3, fun Hk y2 sk ly2 => ?_⟩
      refine ⟨_, _, rfl, rfl, by omega, by show 5 ≤ sizeLine; omega, fun M2 nM2 => ?_⟩
      obtain ⟨zs2, hz2, hw2⟩ : ∃ zs : List Str, zs.map V.str = [V.str (tx ++ "x"), V.str (tx ++ "w\n"), V.str (tx ++ tx), V.str y1, V.str (y2 ++ "\n")] ∧ ∀ z ∈ zs, z.length ≤ 100000 := by
        refine ⟨(tx ++ "x") :: (tx ++ "w\n") :: (tx ++ tx) :: y1 :: (y2 ++ "\n") :: [], rfl, fun z hz => ?_⟩
        rcases List.mem_cons.mp hz with rfl | hz
        · rw [len_app]; omega
        rcases List.mem_cons.mp hz with rfl | hz
        · rw [len_app]; omega
        rcases List.mem_cons.mp hz with rfl | hz
        · rw [len_app]; omega
        rcases List.mem_cons.mp hz with rfl | hz
        · omega
        rw [List.mem_singleton.mp hz, len_app]
        omega
      have hl2 : zs2.length = 5 := by
        have := congrArg List.length hz2
        rwa [List.length_map] at this
      rw [← hz2]
      have s2 := (sj.trans sk).trans (same_upd (o := .lst (zs2.map V.str)) nM2)
      have eM2 : (upd Hk M2 (.lst (zs2.map V.str))) M2 = some (.lst (zs2.map V.str)) := upd_same
      replace hh8 := hh8.same s2
      replace tb8 := tb8.ext s2
      replace eM := s2 _ _ eM
      generalize upd Hk M2 (.lst (zs2.map V.str)) = Hl at *
      refine ⟨M, M2, _, _, rfl, rfl, eM, eM2, by rw [List.length_map, List.length_map]; omega, fun N nN => ?_⟩
      rw [← List.map_append]
      have hzw : ∀ z ∈ zs1 ++ zs2, z.length ≤ 100000 := fun z hz => by
        rcases List.mem_append.mp hz with hz | hz
        · exact hw1 z hz
        · exact hw2 z hz
      have hzl : (zs1 ++ zs2).length = 12 := by rw [List.length_append, hl1, hl2]
      generalize zs1 ++ zs2 = zs at *
      have sN := same_upd (o := .lst (zs.map V.str)) nN
      have eN : (upd Hl N (.lst (zs.map V.str))) N = some (.lst (zs.map V.str)) := upd_same
      replace hh8 := hh8.same sN
      replace tb8 := tb8.ext sN
      generalize upd Hl N (.lst (zs.map V.str)) = Hm at *
      clear sN nN eM eM2 s2 sj sk nM2 hz2 hw1 hw2 hl1 hl2 f1
      refine ⟨_, rfl, N, rfl, ⟨_, SqL.of eN⟩, fun F0 hF => ?_⟩
      refine lc_it (walk_list (xs := zs.map V.str)) (fun i H' => H' F0 = some (.lst ((List.replicate i true).map V.bl)) ∧ LamX.ExtN Hm H' ∧ LamX.Tabs (TT K) H')
        ⟨upd_same, LamX.ExtN.of (same_upd hF), tb8.ext (same_upd hF)⟩ (fun i H' _ hP => SqL.of (hP.2.1 _ _ eN (by intro ps z; cases z))) ?_ ?_
      · rintro i x Ha Hb hi ⟨g1, g2, g3⟩ ⟨rfl, e⟩
        rw [List.length_map] at hi
        rw [List.getElem?_map, List.getElem?_eq_getElem hi] at e
        obtain rfl : V.str zs[i] = x := Option.some.inj e
        refine ⟨rfl, ?_⟩
        refine ⟨_, rfl, zs[i], rfl, g3, by have := hzw _ (List.getElem_mem hi); omega, fun Hx7 x7 tb7 => ?_⟩
        have e7 := x7 _ _ g1 (by intro ps z; cases z)
        refine ⟨_, e7, by rw [List.length_map, List.length_replicate]; omega, by rw [upd_same, rep_succ], fun b o y ny => ?_, tabs_but tb7 ⟨_, e7⟩ but_upd⟩
        rw [upd_ne (ne_of_none y hF)]
        exact (g2.trans x7) _ _ y ny
      rintro H10 ⟨g1, g2, g3⟩
      refine ⟨F0, _, rfl, SqL.of g1, _, rfl, ?_⟩
      rw [all_rep]
      refine iteF ?_
      exact ⟨⟨_, _, _, _, _, _, _, _, rfl⟩, hh8.ext g2, g3⟩
    rintro σ Ha ⟨⟨v2, v3, v4, v5, v6, v7, v8, v9, rfl⟩, hh2, tb2⟩
    clear hh tb1
    refine ⟨by show 12 ≤ sizeLine; omega, fun L nL => ?_⟩
    obtain ⟨zs1, hz1, hw1, hl1⟩ : ∃ zs : List Str, zs.map V.str = [V.str "", V.str "\n", V.str "2", V.str "2\n", V.str "2\n\n", V.str "2\nx", V.str "2\nw", V.str "2\nw\n", V.str "4\nx\n", V.str "x\n", V.str "7\n0\n", V.str "3\n2\n"] ∧ (∀ z ∈ zs, z.length ≤ 100000) ∧ zs.length = 12 :=
      ⟨"" :: "\n" :: "2" :: "2\n" :: "2\n\n" :: "2\nx" :: "2\nw" :: "2\nw\n" :: "4\nx\n" :: "x\n" :: "7\n0\n" :: "3\n2\n" :: [], rfl, by decide +kernel, rfl⟩
    rw [← hz1]
    have sL := same_upd (o := .lst (zs1.map V.str)) nL
    have eL : (upd Ha L (.lst (zs1.map V.str))) L = some (.lst (zs1.map V.str)) := upd_same
    replace hh2 := hh2.same sL
    replace tb2 := tb2.ext sL
    generalize upd Ha L (.lst (zs1.map V.str)) = H3 at *
    refine ⟨_, rfl, by show 5 ≤ sizeLine; omega, fun L2 nL2 => ?_⟩
    obtain ⟨zs2, hz2, hw2, hl2⟩ : ∃ zs : List Str, zs.map V.str = [V.str "2\t\nx\n", V.str "\t2\nx\n", V.str "2\n\tx\n", V.str "3\n2\tx\n", V.str "2\nx\n\t"] ∧ (∀ z ∈ zs, z.length ≤ 100000) ∧ zs.length = 5 :=
      ⟨"2\t\nx\n" :: "\t2\nx\n" :: "2\n\tx\n" :: "3\n2\tx\n" :: "2\nx\n\t" :: [], rfl, by decide +kernel, rfl⟩
    rw [← hz2]
    have sL2 := same_upd (o := .lst (zs2.map V.str)) nL2
    have eL2 : (upd H3 L2 (.lst (zs2.map V.str))) L2 = some (.lst (zs2.map V.str)) := upd_same
    replace hh2 := hh2.same sL2
    replace tb2 := tb2.ext sL2
    replace eL := sL2 _ _ eL
    generalize upd H3 L2 (.lst (zs2.map V.str)) = H4 at *
    refine ⟨L, L2, _, _, rfl, rfl, eL, eL2, by rw [List.length_map, List.length_map]; omega, fun N nN => ?_⟩
    rw [← List.map_append]
    have hzw : ∀ z ∈ zs1 ++ zs2, z.length ≤ 100000 := fun z hz => by
      rcases List.mem_append.mp hz with hz | hz
      · exact hw1 z hz
      · exact hw2 z hz
    have hzl : (zs1 ++ zs2).length = 17 := by rw [List.length_append, hl1, hl2]
    generalize zs1 ++ zs2 = zs at *
    have sN := same_upd (o := .lst (zs.map V.str)) nN
    have eN : (upd H4 N (.lst (zs.map V.str))) N = some (.lst (zs.map V.str)) := upd_same
    replace hh2 := hh2.same sN
    replace tb2 := tb2.ext sN
    generalize upd H4 N (.lst (zs.map V.str)) = H7 at *
    clear hz1 hz2 hw1 hw2 hl1 hl2 eL eL2 sL sL2 sN nN nL nL2 zs1 zs2 H3 H4
    refine ⟨_, rfl, N, rfl, ⟨_, SqL.of eN⟩, fun F0 hF => ?_⟩
    refine lc_it (walk_list (xs := zs.map V.str)) (fun i H' => H' F0 = some (.lst ((List.replicate i true).map V.bl)) ∧ LamX.ExtN H7 H' ∧ LamX.Tabs (TT K) H')
      ⟨upd_same, LamX.ExtN.of (same_upd hF), tb2.ext (same_upd hF)⟩ (fun i H' _ hP => SqL.of (hP.2.1 _ _ eN (by intro ps z; cases z))) ?_ ?_
    · rintro i x Ha Hb hi ⟨g1, g2, g3⟩ ⟨rfl, e⟩
      rw [List.length_map] at hi
      rw [List.getElem?_map, List.getElem?_eq_getElem hi] at e
      obtain rfl : V.str zs[i] = x := Option.some.inj e
      refine ⟨rfl, ?_⟩
      refine ⟨_, rfl, zs[i], rfl, g3, by have := hzw _ (List.getElem_mem hi); omega, fun Hx7 x7 tb7 => ?_⟩
      have e7 := x7 _ _ g1 (by intro ps z; cases z)
      refine ⟨_, e7, by rw [List.length_map, List.length_replicate]; omega, by rw [upd_same, rep_succ], fun b o y ny => ?_, tabs_but tb7 ⟨_, e7⟩ but_upd⟩
      rw [upd_ne (ne_of_none y hF)]
      exact (g2.trans x7) _ _ y ny
    rintro H8 ⟨g1, g2, g3⟩
    refine ⟨F0, _, rfl, SqL.of g1, _, rfl, ?_⟩
    rw [all_rep]
    refine iteF ?_
    have hh9 := hh2.ext g2
    clear g1 g2 g3 hh2 tb2 hF eN
    -- the things
    refine fun p4 G4 t4 n4 o4 => fun p5 G5 t5 n5 o5 => fun p6 G6 t6 n6 o6 => fun p7 G7 t7 n7 o7 => fun b G9 t9 n9 hb => ?_
    have st := (((t4.trans t5).trans t6).trans t7).trans t9
    have q4 := (hh9.fresh n4).1
    have q5 := ((hh9.same t4).fresh n5).1
    have q6 := ((hh9.same (t4.trans t5)).fresh n6).1
    have q7 := ((hh9.same ((t4.trans t5).trans t6)).fresh n7).1
    replace o4 := (((o4.same t5).same t6).same t7).same t9
    replace o5 := ((o5.same t6).same t7).same t9
    replace o6 := (o6.same t7).same t9
    replace o7 := o7.same t9
    replace hh9 := hh9.same st
    clear st t4 t5 t6 t7 t9 n4 n5 n6 n7 n9
    refine ⟨_, rfl, h, ca, rfl, hh9, fun G8 a8 hh10 k8 n8 o8 => ?_⟩
    replace o4 := o4.but k8 q4
    replace o5 := o5.but k8 q5
    replace o6 := o6.but k8 q6
    replace o7 := o7.but k8 q7
    replace hb := hb.but k8 hh9.lst
    refine ⟨by show 10 ≤ sizeLine; omega, fun M nM => ?_⟩
    have sM := same_upd (o := .lst [V.non, V.int 0, V.bl true, V.int 2, V.ref p4, V.ref p5, V.ref p6, V.ref p7, V.ref b, V.ref a8]) nM
    obtain ⟨ts, hts, tl, tn⟩ : ∃ ts : List V, ts = [V.non, V.int 0, V.bl true, V.int 2, V.ref p4, V.ref p5, V.ref p6, V.ref p7, V.ref b, V.ref a8] ∧ ts.length = 10 ∧ ∀ x ∈ ts, NoS K (upd G8 M (.lst [V.non, V.int 0, V.bl true, V.int 2, V.ref p4, V.ref p5, V.ref p6, V.ref p7, V.ref b, V.ref a8])) x := by
      refine ⟨_, rfl, rfl, fun x hx => ?_⟩
      rcases List.mem_cons.mp hx with rfl | hx
      · exact .inl ⟨.non, fun s z => (nomatch z)⟩
      rcases List.mem_cons.mp hx with rfl | hx
      · exact .inl ⟨.int _, fun s z => (nomatch z)⟩
      rcases List.mem_cons.mp hx with rfl | hx
      · exact .inl ⟨.bl _, fun s z => (nomatch z)⟩
      rcases List.mem_cons.mp hx with rfl | hx
      · exact .inl ⟨.int _, fun s z => (nomatch z)⟩
      rcases List.mem_cons.mp hx with rfl | hx
      · exact .inl ⟨.ref (o4.same sM), fun s z => (nomatch z)⟩
      rcases List.mem_cons.mp hx with rfl | hx
      · exact .inl ⟨.ref (o5.same sM), fun s z => (nomatch z)⟩
      rcases List.mem_cons.mp hx with rfl | hx
      · exact .inl ⟨.ref (o6.same sM), fun s z => (nomatch z)⟩
      rcases List.mem_cons.mp hx with rfl | hx
      · exact .inl ⟨.ref (o7.same sM), fun s z => (nomatch z)⟩
      rcases List.mem_cons.mp hx with rfl | hx
      · exact .inr ⟨b, 2, _, rfl, hb.same sM⟩
      rw [List.mem_singleton.mp hx]
      exact .inl ⟨.ref (o8.same sM), fun s z => (nomatch z)⟩
    have eM : (upd G8 M (.lst [V.non, V.int 0, V.bl true, V.int 2, V.ref p4, V.ref p5, V.ref p6, V.ref p7, V.ref b, V.ref a8])) M = some (.lst ts) := by
      rw [hts]
      exact upd_same
    clear hts
    generalize upd G8 M (.lst [V.non, V.int 0, V.bl true, V.int 2, V.ref p4, V.ref p5, V.ref p6, V.ref p7, V.ref b, V.ref a8]) = GM at *
    refine ⟨_, rfl, M, rfl, ⟨_, SqL.of eM⟩, fun F1 hF1 => ?_⟩
    refine lc_it (walk_list (xs := ts)) (fun i H' => H' F1 = some (.lst ((List.replicate i true).map V.bl)) ∧ Same GM H') ⟨upd_same, same_upd hF1⟩ (fun i H' _ hP => SqL.of (hP.2 _ _ eM)) ?_ ?_
    · rintro i x Ha Hb hi ⟨g1, g2⟩ ⟨rfl, e⟩
      have hx := tn x (List.mem_of_getElem? e)
      refine ⟨rfl, ?_⟩
      refine ⟨_, rfl, x, rfl, .inl ⟨hx.same g2, fun Hp p sp ep => ?_⟩⟩
      refine ⟨by show 2 ≤ sizeLine; omega, fun p2 np2 => ?_⟩
      have s2 := same_upd (o := .tup [V.str "bad", V.int 0]) np2
      refine ⟨.tuple [.str "bad", .int 0], .tuple [.str "bad", .int 0], .tup (.inl (.inl (s2 _ _ ep))) (.cons (.str _) (.cons (.int _) .nil)), .tup (.inl (.inl upd_same)) (.cons (.str _) (.cons (.int _) .nil)), rfl, rfl, by decide, ?_⟩
      rw [show PyData.eqv (.tuple [.str "bad", .int 0]) (.tuple [.str "bad", .int 0]) = true by decide +kernel]
      refine ⟨_, (sp.trans s2) _ _ g1, by rw [List.length_map, List.length_replicate]; omega, by rw [upd_same, rep_succ], fun b o y => ?_⟩
      rw [upd_ne (ne_of_none y hF1)]
      exact (sp.trans s2) _ _ (g2 _ _ y)
    rintro H10 ⟨g1, g2⟩
    refine ⟨F1, _, rfl, SqL.of g1, ?_⟩
    rw [all_rep]
    exact q _
end
end Fp

set_option Elab.async false
set_option linter.all false
set_option maxRecDepth 100000
set_option maxHeartbeats 0
namespace Fp
open PySem PySem.Spec PyProof.Rows L2
abbrev R : PySem.W.OpenRow := PySem.W.OpenLaw.row PySem.Challenge.rw_frontparts_k84_wrong_lines_of_rows
abbrev hk : PySem.W.Hook := He.hookX 5 fa fn [] [("_law_pairs", none)] ex
def ob (s : PySem.W.SharedT) : He.AlX := He.obsX 5 fa fn [] [("_law_pairs", none)] ex (HandSHeadRun.getT s)
theorem ob_eq (s : PySem.W.SharedT) : ob s = hk.obs s.abs := He.obsX_eq (HandSHeadRun.getT_eq s)
def loose : List PySem.Str := "__name__" :: "BagError" :: "BadBag" :: "BadText" :: "CLOCKS" :: "LETTERS" :: "is_integer" :: "is_from_to" :: "is_clock" :: "is_word" :: "rank_of" :: "MOST_WORDS" :: "MOST_LETTERS" :: "Bag" :: "are_words" :: "is_short_word" :: "pairs_of" :: "read_row" :: "check_string" :: "told_bag" :: "told_term" :: "_law_tape" :: "_law_pick" :: "_law_word" :: "_law_sparse" :: "_law_clock" :: "_law_letters" :: "_law_pairs" :: "_law_sum" :: "_law_product" :: "_law_size" :: "_law_is" :: "_law_text_of" :: "_law_word_told" :: "_law_read" :: "_law_spoiled" :: "_law_is_int" :: "_law_odd" :: "_law_deep" :: "_law_due" :: "_law_told" :: "_law_is_right" :: "_law_changed" :: []
theorem run (w : World) : HandSHeadRun.RunEq R (PySem.W.view R.prog [48]) hk ob 20000 loose w := by
  intro os
  kernel_rfl
theorem top_of {w : World} {h h' : Heap} {K : PySem.W.Frag} {mg : Str → Option Value} (X : K.In h) (G : h.Ns mainGlobals mg) (c : He.SaysX fa fn [] [("_law_pairs", none)] ex w h' K) : Top K mg := ⟨⟨h, X, G⟩, c.t.d, c.more⟩
end Fp

set_option Elab.async false
set_option linter.all false
set_option maxRecDepth 100000
set_option maxHeartbeats 2000000
/-! the end of a law whose defs show things with repr: nothing is being shown where it is called -/
namespace L2
open PySem PySem.Spec PyProof.Rows
section
variable {P : Program} {w : World} {K : PySem.W.Frag} {s₁ : Shared} {a : Addr} {vs : List Value} {ns : List Int}
/-- what is tracked at the start: the script, where it is none of the module's own objects -/
theorem start_hp (KX : K.In s₁.heap) (ha : s₁.heap.get? a = some { cls := .type "list", data := .seq vs.toArray }) (hi : IntsAre vs ns) (hl : ns.length ≤ sizeLine) :
    ∃ H : Hp, Only H ∧ SqL K H a (ns.map V.int) ∧ HOk P w H s₁.heap ∧ ∀ b, H b ≠ none → b = a ∧ K.lookup a = none := by
  have rv := vals_ints hi
  have lv := hi.length
  rcases hk : K.lookup a with _ | o
  · let o1 : HO := .frz { cls := .type "list", data := .seq vs.toArray } (.lst (ns.map V.int))
    have e1 : upd (fun _ => none) a o1 a = some o1 := upd_same
    have e2 : ∀ b, b ≠ a → upd (fun _ => none) a o1 b = none := fun b n => upd_ne n
    refine ⟨upd (fun _ => none) a o1, fun b => ?_, .inl (.inr ⟨_, e1⟩), fun b u z => ?_, fun b z => ?_⟩
    · by_cases n : b = a
      · subst n
        exact .inr ⟨_, _, e1⟩
      · exact .inl (e2 b n)
    · by_cases n : b = a
      · subst n
        rw [e1] at z
        cases z
        exact ⟨ha, by rw [List.length_map]; exact hl, vs, _, rv, ha⟩
      · rw [e2 b n] at z
        cases z
    · by_cases n : b = a
      · exact ⟨n, rfl⟩
      · exact absurd (e2 b n) z
  · have e := (KX a o hk).symm.trans ha
    injection e with e
    subst e
    exact ⟨fun _ => none, fun _ => .inl rfl, .inr ⟨_, vs.toArray, _, hk, rfl, rfl, rfl, by rw [List.size_toArray, lv]; exact hl, by simpa using rv⟩, fun b u z => (by cases (show (none : Option HO) = some u from z)), fun b z => absurd rfl z⟩
end
theorem callG {P : Program} {w : World} {K : PySem.W.Frag} {mg mb : Str → Option Value} {k : Nat} {fa a : Addr} {fd : FuncData} {x : Str} {sp : Sp} {s₁ : Shared} {vs : List Value} {ns : List Int}
    (KX : K.In s₁.heap) (nsG : s₁.heap.Ns mainGlobals mg) (nsB : s₁.heap.Ns builtinsNs mb) (bb : ∀ x : Str, x ≠ "__name__" → mb x = bootBuiltins x) (nl : s₁.heap.NoLimit) (ng : s₁.gens = #[])
    (ha : s₁.heap.get? a = some { cls := .type "list", data := .seq vs.toArray }) (hi : IntsAre vs ns) (hl : ns.length ≤ sizeLine) (hr : Room k callerA)
    (F : ∀ base : Heap, K.In base → base.Ns mainGlobals mg → FnG P w K mg base k fa fd [x] sp) (bind : ∀ (s : Shared) (u : Value), BindsTo s fd ⟨[u], []⟩ [(x, u)])
    (hsp : ∀ H : Hp, Only H → SqL K H a (ns.map V.int) → sp [.ref a] H (fun v _ => v = .bl true) fun _ _ _ => False) :
    codeAny (model P w) callerA (.call (.ref fa) ⟨[.ref a], []⟩) (fun r s' => r = .ok (.ret (.bool true)) ∧ OldK s₁.heap s'.heap ∧ s'.os = s₁.os ∧ AllBare s'.gens) s₁ := by
  obtain ⟨H, hO, hS, hok, hA⟩ := start_hp (P := P) (w := w) KX ha hi hl
  have free : ∀ {b : Addr} {o : Obj}, s₁.heap.get? b = some o → (b = a → o ≠ { cls := .type "list", data := .seq vs.toArray } ∨ K.lookup a ≠ none) → H b = none := fun {b o} e n => by
    by_cases z : H b = none
    · exact z
    · obtain ⟨rfl, hk⟩ := hA b z
      rcases n rfl with n | n
      · exact absurd (Option.some.inj (e.symm.trans ha)) n
      · exact absurd hk n
  have nsH : ∀ {b : Addr} {m : Str → Option Value}, s₁.heap.Ns b m → (hidT s₁.heap H).Ns b m := fun {b m} z => by
    obtain ⟨o, es, ep, e, d, r⟩ := z
    refine ⟨o, es, ep, hidT_get e (free e fun _ => .inl fun y => ?_), d, r⟩
    rw [y] at d
    cases d
  have inH : K.In (hidT s₁.heap H) := fun b o e => hidT_get (KX b o e) (free (KX b o e) fun y => .inr fun n => by rw [← y, e] at n; cases n)
  obtain ⟨mc, l1, l2⟩ := nl
  have e0 : Env0 P w K mg (hidT s₁.heap H) callerA [] s₁ H :=
    ⟨rfl, ⟨inH, nsH nsG, ⟨mb, nsH nsB, bb⟩, ⟨mc, nsH l1, l2⟩⟩, fun b o e => of_hidT e, Nat.le_of_eq (hidT_size _ _), trivial, fun b hb => (by cases hb), hok, .of_eq ng⟩
  refine codeAny_mono ((F _ inH (nsH nsG)).run callerA [] s₁ H ⟨[.ref a], []⟩ [.ref a] [.ref a] _ _ rfl hr e0 (bind s₁ (.ref a)) (.cons rfl .nil) (hsp H hO hS)) fun r s' h => ?_
  match r, h with
  | .error e, h => exact h.elim
  | .ok .next, h => exact h.elim
  | .ok .brk, h => exact h.elim
  | .ok .cont, h => exact h.elim
  | .ok (.ret u), ⟨v, H', os, bare, un, hok', rv, q⟩ =>
    cases (show v = V.bl true from q)
    obtain rfl : u = Value.bool true := rv
    refine ⟨rfl, OldK.of_keep fun b o e => ?_, os, bare⟩
    rcases hO b with z | ⟨ob, xs, z⟩
    · exact un.keep b o e z (fun y => by cases y) (fun y => by cases y)
    · have e1 := (hok b _ z).1
      have e2 := (hok' b _ (un.frzs b ob _ z)).1
      rw [← Option.some.inj (e1.symm.trans e)]
      exact e2
theorem walk_ofG {l : PySem.W.OpenLaw} {n k : Nat} {q : Program} {loose : List Str} {XP : (Str → Option Value) → Heap → Prop} {YP : World → Heap → Prop} {d : DefRec} {x : Str}
    (hn : l.most = some n) (hn2 : n ≤ sizeLine) (hdf : d.params.defaults = []) (hr : Room k callerA)
    (F : ∀ (w : World) (mg : Str → Option Value) (fa : Addr) (h : Heap), YP w h → h.Ns mainGlobals mg → mg d.name = some (.ref fa) →
      ∃ (K : PySem.W.Frag) (fd : FuncData) (sp : Sp), K.In h ∧ (∀ (s : Shared) (u : Value), BindsTo s fd ⟨[u], []⟩ [(x, u)]) ∧
        (∀ (H : Hp) (a : Addr) (ns : List Int), ns.length ≤ n → SqL K H a (ns.map V.int) → sp [.ref a] H (fun v _ => v = .bl true) fun _ _ _ => False) ∧ ∀ base : Heap, K.In base → base.Ns mainGlobals mg → FnG l.prog w K mg base k fa fd [x] sp) :
    PySem.W.WalkO q loose XP YP l.row.toRowW d [] (fun f vs => PySem.call f vs) := by
  refine Att.attach_call hn hdf fun w s₀ s₁ mg mb fa o pm cd doc a vs ns G Y ho hd hcd hmg hobj hints hlen hg => ?_
  obtain ⟨K, fd, sp, KX, bind, hsp, hF⟩ := F w mg fa _ Y G.T.g hmg
  exact callG KX G.T.g G.T.b G.T.builtins G.T.nolimit hg hobj hints (Nat.le_trans hlen hn2) hr hF bind fun H _ => hsp H a ns hlen
end L2

set_option Elab.async false
set_option linter.all false
set_option maxRecDepth 100000
set_option maxHeartbeats 2000000
/-! the end of a law whose defs show things with repr and make lambdas: guards, and tables of code objects -/
namespace LamX
open PySem PySem.Spec PyProof.Rows L2
section
variable {P : Program} {w : World} {K : PySem.W.Frag} {mg mb : Str → Option Value} {k : Nat} {fa a : Addr} {cs : List (Addr × Addr)} {fd : FuncData} {x : Str} {sp : Sp} {s₁ : Shared} {vs : List Value} {ns : List Int}
abbrev emptyTab : Obj := { cls := .none, data := .fields #[] }
abbrev theScript (vs : List Value) : Obj := { cls := .type "list", data := .seq vs.toArray }
/-- the tables stand beside what H tracks -/
def withTabs (cs : List (Addr × Addr)) (H : Hp) : Hp := fun b => if b ∈ cs.map (·.2) then some (.tbl #[]) else H b
theorem tabs_on {H : Hp} {b : Addr} (h : b ∈ cs.map (·.2)) : withTabs cs H b = some (.tbl #[]) := if_pos h
theorem tabs_off {H : Hp} {b : Addr} (h : b ∉ cs.map (·.2)) : withTabs cs H b = H b := if_neg h
theorem callTG (KX : K.In s₁.heap) (nG : s₁.heap.Ns mainGlobals mg) (nB : s₁.heap.Ns builtinsNs mb) (bb : ∀ x : Str, x ≠ "__name__" → mb x = bootBuiltins x) (nl : s₁.heap.NoLimit) (ng : s₁.gens = #[])
    (tabE : ∀ p ∈ cs, s₁.heap.get? p.2 = some emptyTab) (tabK : ∀ p ∈ cs, K.lookup p.2 = none) (tabC : ∀ p ∈ cs, PySem.W.CodeHd s₁.heap p.1 p.2)
    (bm : ∃ (m : Addr) (o : Obj), mg "__builtins__" = some (.ref m) ∧ m ≠ builtinsNs ∧ s₁.heap.get? m = some o ∧ o.cls = .type "module" ∧ o.dict = some builtinsNs ∧ o.data = .plain)
    (ha : s₁.heap.get? a = some (theScript vs)) (hi : IntsAre vs ns) (hl : ns.length ≤ sizeLine) (hr : Room k callerA)
    (F : ∀ base : Heap, K.In base → base.Ns mainGlobals mg → (∀ p ∈ cs, TabB base mg p.1 p.2) → FnG P w K mg base k fa fd [x] sp) (bind : ∀ (s : Shared) (u : Value), BindsTo s fd ⟨[u], []⟩ [(x, u)])
    (hsp : ∀ H : Hp, (∀ p ∈ cs, H p.2 = some (.tbl #[])) → SqL K H a (ns.map V.int) → sp [.ref a] H (fun v _ => v = .bl true) fun _ _ _ => False) :
    codeAny (model P w) callerA (.call (.ref fa) ⟨[.ref a], []⟩) (fun r s' => r = .ok (.ret (.bool true)) ∧ OldK s₁.heap s'.heap ∧ s'.os = s₁.os ∧ AllBare s'.gens) s₁ := by
  obtain ⟨H0, hO, hS, hok, hA⟩ := start_hp (P := P) (w := w) KX ha hi hl
  have mem : ∀ p ∈ cs, p.2 ∈ cs.map (·.2) := fun p hp => List.mem_map.mpr ⟨p, hp, rfl⟩
  have tE : ∀ b ∈ cs.map (·.2), s₁.heap.get? b = some emptyTab := fun b hb => by
    obtain ⟨p, hp, rfl⟩ := List.mem_map.mp hb
    exact tabE p hp
  have t0 : ∀ b ∈ cs.map (·.2), H0 b = none := fun b hb => by
    by_cases z : H0 b = none
    · exact z
    · have e := tE b hb
      rw [(hA b z).1, ha] at e
      have e2 : Data.seq vs.toArray _ = Data.fields #[] := congrArg Obj.data (Option.some.inj e)
      cases e2
  have sm : Same H0 (withTabs cs H0) := fun b o e => by
    rw [tabs_off fun z => by rw [t0 b z] at e; cases e]
    exact e
  -- nothing else is tracked
  have nothing : ∀ {b : Addr} {o : Obj}, s₁.heap.get? b = some o → o ≠ emptyTab → (b = a → o ≠ theScript vs ∨ K.lookup a ≠ none) → withTabs cs H0 b = none := fun {b o} e h1 h2 => by
    have hb : b ∉ cs.map (·.2) := fun z => h1 (Option.some.inj (e.symm.trans (tE b z)))
    rw [tabs_off hb]
    by_cases z : H0 b = none
    · exact z
    · obtain ⟨rfl, hk⟩ := hA b z
      rcases h2 rfl with n | n
      · exact absurd (Option.some.inj (e.symm.trans ha)) n
      · exact absurd hk n
  have nothingD : ∀ {b : Addr} {o : Obj}, s₁.heap.get? b = some o → o.data ≠ .fields #[] → (∀ ws n, o.data ≠ .seq ws n) → withTabs cs H0 b = none := fun {b o} e h1 h2 =>
    nothing e (fun z => h1 (congrArg Obj.data z)) fun _ => .inl fun z => h2 _ _ (congrArg Obj.data z)
  have spaces : ∀ {b : Addr} {m : Str → Option Value}, s₁.heap.Ns b m → (hidT s₁.heap (withTabs cs H0)).Ns b m := fun {b m} z => by
    obtain ⟨o, es, ep, e, d, r⟩ := z
    refine ⟨o, es, ep, hidT_get e (nothingD e (fun y => ?_) fun _ n y => ?_), d, r⟩
    · rw [d] at y
      cases y
    · rw [d] at y
      cases y
  have inB : K.In (hidT s₁.heap (withTabs cs H0)) := fun b o e => hidT_get (KX b o e) (by
    have hb : b ∉ cs.map (·.2) := fun z => by
      obtain ⟨p, hp, rfl⟩ := List.mem_map.mp z
      rw [tabK p hp] at e
      cases e
    rw [tabs_off hb]
    by_cases z : H0 b = none
    · exact z
    · obtain ⟨rfl, hk⟩ := hA b z
      rw [hk] at e
      cases e)
  have okT : HOk P w (withTabs cs H0) s₁.heap := fun b u z => by
    by_cases hb : b ∈ cs.map (·.2)
    · rw [tabs_on hb] at z
      cases z
      exact tE b hb
    · rw [tabs_off hb] at z
      rcases hO b with y | ⟨ob, xs, y⟩
      · rw [y] at z
        cases z
      · have g := hok b _ y
        rw [y] at z
        cases z
        exact g
  have tabB : ∀ p ∈ cs, TabB (hidT s₁.heap (withTabs cs H0)) mg p.1 p.2 := fun p hp => by
    refine ⟨?_, ?_, fun z => ?_⟩
    · obtain ⟨o, c1, c2, c3, c4, c5, c6, c7, c8, e, q1, q2, q3, q⟩ := tabC p hp
      refine ⟨o, c1, c2, c3, c4, c5, c6, c7, c8, hidT_get e (nothingD e (fun y => ?_) fun _ n y => ?_), q1, q2, q3, q⟩
      · rw [q2] at y
        cases y
        simp at q3
      · rw [q2] at y
        cases y
    · obtain ⟨m, o, b1, b2, b3, b4, b5, b6⟩ := bm
      refine ⟨m, o, b1, b2, fun y => ?_, fun y => ?_, hidT_get b3 (nothingD b3 (fun y => ?_) fun _ n y => ?_), b4, b5, b6⟩
      · obtain ⟨o', es, ep, e, d, _⟩ := nG
        rw [y, e] at b3
        cases b3
        rw [b6] at d
        cases d
      · rw [y, tabE p hp] at b3
        cases b3
        cases b6
      · rw [b6] at y
        cases y
      · rw [b6] at y
        cases y
    · obtain ⟨o', es, ep, e, d, _⟩ := nG
      rw [z, tabE p hp] at e
      cases e
      cases d
  obtain ⟨mc, l1, l2⟩ := nl
  have e0 : Env0 P w K mg (hidT s₁.heap (withTabs cs H0)) callerA [] s₁ (withTabs cs H0) :=
    ⟨rfl, ⟨inB, spaces nG, ⟨mb, spaces nB, bb⟩, ⟨mc, spaces l1, l2⟩⟩, fun b o e => of_hidT e, Nat.le_of_eq (hidT_size _ _), trivial, fun b hb => (by cases hb), okT, .of_eq ng⟩
  have hT : ∀ p ∈ cs, withTabs cs H0 p.2 = some (.tbl #[]) := fun p hp => tabs_on (mem p hp)
  refine codeAny_mono ((F _ inB (spaces nG) tabB).run callerA [] s₁ _ ⟨[.ref a], []⟩ [.ref a] [.ref a] _ _ rfl hr e0 (bind s₁ (.ref a)) (.cons rfl .nil) (hsp _ hT (hS.imp (fun z => z.imp (sm _ _) fun ⟨ob, y⟩ => ⟨ob, sm _ _ y⟩) id))) fun r s' h => ?_
  match r, h with
  | .error e, h => exact h.elim
  | .ok .next, h => exact h.elim
  | .ok .brk, h => exact h.elim
  | .ok .cont, h => exact h.elim
  | .ok (.ret u), ⟨v, H', os, bare, un, hok', rv, q⟩ =>
    cases (show v = V.bl true from q)
    obtain rfl : u = Value.bool true := rv
    have stay : ∀ b o, b ∉ cs.map (·.2) → s₁.heap.get? b = some o → s'.heap.get? b = some o := fun b o nb e => by
      rcases hO b with z | ⟨ob, xs, z⟩
      · exact un.keep b o e ((tabs_off nb).trans z) (fun y => by cases y) (fun y => by cases y)
      · have e1 := (hok b _ z).1
        have e2 := (hok' b _ (un.frzs b ob _ ((tabs_off nb).trans z))).1
        rw [← Option.some.inj (e1.symm.trans e)]
        exact e2
    have more : ∀ p ∈ cs, ∃ us : Array Value, s'.heap.get? p.2 = some { cls := .none, data := .fields us } := fun p hp => by
      obtain ⟨us, z⟩ := un.tbls p.2 #[] (hT p hp)
      exact ⟨_, hok' p.2 _ z⟩
    refine ⟨rfl, ⟨fun b o e => ?_, fun b o e => ?_⟩, os, bare⟩
    · by_cases nb : b ∈ cs.map (·.2)
      · obtain ⟨p, hp, rfl⟩ := List.mem_map.mp nb
        obtain ⟨us, z⟩ := more p hp
        cases (tabE p hp).symm.trans e
        exact .inr (.inl ⟨((tabC p hp).tab (tabE p hp)).isCodeTable, rfl, #[], us, rfl, by rw [Array.empty_append]; exact z⟩)
      · exact .inl (stay b o nb e)
    · by_cases nb : b ∈ cs.map (·.2)
      · obtain ⟨p, hp, rfl⟩ := List.mem_map.mp nb
        exact ⟨_, (more p hp).choose_spec⟩
      · exact ⟨o, stay b o nb e⟩
end
/-- the law's promise at the heap that the head leaves -/
def LawAtG (l : PySem.W.OpenLaw) (w : World) (K : PySem.W.Frag) (k n : Nat) (x : Str) (mg : Str → Option Value) (fa : Addr) (h : Heap) : Prop :=
  ∃ (fd : FuncData) (cs : List (Addr × Addr)) (sp : Sp), (∀ p ∈ cs, h.get? p.2 = some emptyTab ∧ K.lookup p.2 = none ∧ PySem.W.CodeHd h p.1 p.2) ∧ (∀ (s : Shared) (u : Value), BindsTo s fd ⟨[u], []⟩ [(x, u)]) ∧
    (∀ (H : Hp) (a : Addr) (ns : List Int), ns.length ≤ n → (∀ p ∈ cs, H p.2 = some (.tbl #[])) → SqL K H a (ns.map V.int) → sp [.ref a] H (fun v _ => v = .bl true) fun _ _ _ => False) ∧
    ∀ base : Heap, K.In base → base.Ns mainGlobals mg → (∀ p ∈ cs, TabB base mg p.1 p.2) → FnG l.prog w K mg base k fa fd [x] sp
theorem walk_ofTG {l : PySem.W.OpenLaw} {n k : Nat} {q : Program} {loose : List Str} {XP : (Str → Option Value) → Heap → Prop} {YP : World → Heap → Prop} {d : DefRec} {x : Str}
    (hn : l.most = some n) (hn2 : n ≤ sizeLine) (hdf : d.params.defaults = []) (hr : Room k callerA)
    (F : ∀ (w : World) (mg : Str → Option Value) (fa : Addr) (h : Heap), YP w h → h.Ns mainGlobals mg → mg d.name = some (.ref fa) → ∃ K : PySem.W.Frag, K.In h ∧ LawAtG l w K k n x mg fa h) :
    PySem.W.WalkO q loose XP YP l.row.toRowW d [] (fun f vs => PySem.call f vs) := by
  refine Att.attach_call hn hdf fun w s₀ s₁ mg mb fa o pm cd doc a vs ns G Y ho hd hcd hmg hobj hints hlen hg => ?_
  obtain ⟨K, KX, fd, cs, sp, tabs, bind, hsp, hF⟩ := F w mg fa _ Y G.T.g hmg
  exact callTG KX G.T.g G.T.b G.T.builtins G.T.nolimit hg (fun p hp => (tabs p hp).1) (fun p hp => (tabs p hp).2.1) (fun p hp => (tabs p hp).2.2) G.T.bmain hobj hints (Nat.le_trans hlen hn2) hr hF bind fun H hT => hsp H a ns hlen hT
end LamX

set_option Elab.async false
set_option linter.all false
set_option maxRecDepth 100000
set_option maxHeartbeats 8000000
open PySem PySem.W PySem.Calls PyProof.Rows
theorem PySem.Challenge.cw_frontparts_k84_wrong_lines_of_rows_holds : PySem.Challenge.rw_frontparts_k84_wrong_lines_of_rows.Holds := by
  w_on; o_law
  refine HandSHeadRun.head_any (r := OpenLaw.row PySem.Challenge.rw_frontparts_k84_wrong_lines_of_rows) (q := view (OpenLaw.row PySem.Challenge.rw_frontparts_k84_wrong_lines_of_rows).prog [48]) (H := Fp.hk) (ob := Fp.ob) (M := 20000) (loose := Fp.loose) (d := HandSHeadRun.topDef (OpenLaw.row PySem.Challenge.rw_frontparts_k84_wrong_lines_of_rows).prog 48) (kwd := []) Fp.ob_eq
    (by kernel_rfl) (fun s => by kernel_rfl) Fp.run (by kernel_rfl) (by kernel_rfl) (by kernel_rfl) (by rfl) (by first | assumption | decide +kernel) (by decide +kernel) ⟨rfl, rfl, rfl, rfl, rfl, by decide +kernel⟩ ?hw ?hc
  case hw => w_witness2
  case hc =>
    refine LamX.walk_ofTG (l := PySem.Challenge.rw_frontparts_k84_wrong_lines_of_rows) (n := 63) (k := 11) (x := "_law_script") rfl (by decide) (by kernel_rfl) ⟨rfl, by decide, by decide⟩ ?F
    intro w mg fa h Y G hmg0
    obtain ⟨K, KX, c⟩ := Y
    have hmg : mg ("law" : PySem.Str) = some (.ref fa) := by
      have e : (HandSHeadRun.topDef (OpenLaw.row PySem.Challenge.rw_frontparts_k84_wrong_lines_of_rows).prog 48).name = ("law" : PySem.Str) := by kernel_rfl
      rw [← e]
      exact hmg0
    have T := Fp.top_of KX G c
    obtain ⟨fd, F⟩ := Fp.fn_law T
    have e := hmg.symm.trans (Fp.g_law T)
    cases e
    have b := L2.FunD.bindsA (ps := ["_law_script"]) F fun _ _ _ _ _ _ us hl => match us, hl with | [_], _ => rfl
    exact ⟨K, KX, fd, [He.cT K Fp.dPr], Fp.spLaw K, fun p hp => by
      rw [List.mem_singleton.mp hp]
      exact ⟨c.empty _ (List.mem_singleton.mpr rfl), c.out _ (List.mem_singleton.mpr rfl), PySem.W.codeHd_of_K KX (c.hd _ (List.mem_singleton.mpr rfl))⟩, fun s v => b s [v] rfl, fun H a ns hl hP hS => ⟨a, ns, rfl, (fun p hp => by
      rw [List.mem_singleton.mp hp]
      exact LamX.TabS.nil (hP _ (List.mem_singleton.mpr rfl))), hS, fun _ => rfl⟩, fun base _ _ TB => Fp.ok_law T (TB _ (List.mem_singleton.mpr rfl)) F⟩
