import PyProof.Rows.All
import Wide.All
import OpenK.AllK
import Wide.FinOn
import HandS.ForMost
import HandS.More
import HandS.OwnEq
import HandS.IsInst
import HandS.WordsExc
import HandS.Defaults
import HandS.SortKw
import KE.SortData
import KE.SortKeyHeap
import HandS.StrMore
import HandS.Walk
import HandS.Style
import KE.KDictPairs
import HandS.HeadHook1
import HandS.HeadHook2
import HandS.HeadHook3
import HandS.HeadHook4
import Wide.Once
import KE.KStateDown
import Lean
import HandS.Head0
import HandS.Head1
import HandS.Head2
import HandS.Head3
import HandS.HeadEnd
import KE.DataEq
import HandS.DictComp
import HandS.ForExc
import KE.DataCmp
import KE.DataMinKey
import HandS.Gcd
import HandS.TryOnly
import KE.KRevSl
import KE.KLam
import HandS.Lambda
import HandS.NestedK
import HandS.EndTab
import PySem.Challenge.RW_frontparts_k70_whole_beginnings_put_toge
set_option Elab.async false
set_option linter.all false
set_option maxRecDepth 100000
set_option maxHeartbeats 2000000
/-! == and != of an instance by an own __eq__, whatever stands at the right -/
namespace Fp
open PySem PySem.Spec PyProof.Rows PySem.SeqAt
section
variable {M : Model} {prog : Program} {w : World} {A : Around} {E : Value → Shared → Prop} {s : Shared} {K : PySem.W.Frag} {x C f : Addr} {ox : Obj} {od : Option Obj} {b tb : Value}
theorem ifBound_objNe {args : List Value} {Q : Option Value → Shared → Prop} (X : K.In s.heap) (I : PySem.W.InstAt s.heap x ox C od) (hs : PySem.W.findIn K (.ref C) "__ne__" = some (some (.builtin "object.__ne__")))
    (h : wpAny M A (call (.builtin "object.__ne__") (.ref x :: args)) (fun v => Q (some v)) E s) : wpAny M A (callSpecialIfBound? (.ref x) "__ne__" args) Q E s := by
  simp only [callSpecialIfBound?, bindSpecialIfBound?]
  refine wpAny_holding (wpAny_bind (wpAny_bind (wpAny_bind (I.type.here ((PySem.W.looks_findIn X hs).here ?_)))))
  refine wpAny_bind (wpAny_askSetting (wpAny_ite ?_))
  have fin : wpAny M A (call (.builtin "object.__ne__") ([.ref x] ++ args) >>= fun v => pure (some v)) Q E s := wpAny_bind (wpAny_mono h (fun v s' h' => wpAny_pure h') fun _ _ h' => h')
  split
  · exact wpAny_bind (wpAny_of_eq (F.cmp_object.ne.bind _) (wpAny_pure (by exact fin)))
  · exact wpAny_tryCatch (wpAny_bind (wpAny_of_eq (F.cmp_object.ne.bind _) (wpAny_pure (by exact fin))))
theorem entry_ne {Q : Fin → Shared → Prop} (hu : A.units < cLine) (X : K.In s.heap) (I : PySem.W.InstAt s.heap x ox C od) (hs : PySem.W.findIn K (.ref C) "__eq__" = some (some (.ref f))) (hf : PySem.W.isFn K (.ref f) = true)
    (hcall : wpAny (model prog w) A (call (.ref f) [.ref x, b]) (fun v s' => ∃ r, v = .bool r ∧ Q (.done (.ret (.bool (!r)))) s') E s) :
    wpAny (model prog w) A (Builtin.«object.__ne__» ⟨[.ref x, b], []⟩) Q E s := by
  unfold Builtin.«object.__ne__»
  repeat (first
    | with_reducible refine wpAny_cRoomFor hu ?_
    | (refine wpAny_bind (m := callSpecialIfBound? (.ref x) (Str.ofString "__eq__") [b])
        (PySem.W.ifBound_K X I hs hf (wpAny_mono hcall (fun r s' hr => by
          obtain ⟨b, rfl, hq⟩ := hr
          repeat (first | exact hq | exact wpAny_pure hq | exact wpAny_truthy_bool hq | (refine wpAny_bind (m := truthy (.bool _)) (wpAny_truthy_bool ?_)) | wp_step)) fun _ _ e => e)))
    | wp_step)
theorem cmpNe_K {Q : Value → Shared → Prop} (hu : A.units + 1 < cLine) (X : K.In s.heap) (I : PySem.W.InstAt s.heap x ox C od) (hb : PySem.W.Looks (model prog w) s.heap (typeOf b) tb) (hn : PySem.W.notFirst K C tb = true)
    (hne : PySem.W.findIn K (.ref C) "__ne__" = some (some (.builtin "object.__ne__"))) (hs : PySem.W.findIn K (.ref C) "__eq__" = some (some (.ref f))) (hf : PySem.W.isFn K (.ref f) = true) (hm : PySem.W.mroIn K C (.type "object") = some true)
    (h : wpAny (model prog w) A.in1 (call (.ref f) [.ref x, b]) (fun v s' => ∃ r, v = .bool r ∧ Q (.bool (!r)) s') E s) : wpAny (model prog w) A (richCompare .NotEq (.ref x) b) Q E s := by
  have one : wpAny (model prog w) A (tryCompare (.ref x) "__ne__" b) (fun r s' => ∃ v, r = some v ∧ Q v s') E s := by
    unfold tryCompare
    refine wpAny_bind (ifBound_objNe X I hne ?_)
    refine wpAny_call (codeAny_call_builtin F.cmp_object.ne.plain F.cmpEntry_ne (PySem.W.check_slot F.cmpKind_ne F.cmpSplit_ne (I.type.andThen (PySem.W.looks_mroIn X hm)) (F.cmpArgs_ne _ _)
      (entry_ne (A := A.in1) (show A.in1.units < cLine from hu) X I hs hf (wpAny_mono h (fun v s' hv => ?_) fun _ _ e => e))))
    obtain ⟨r, rfl, hq⟩ := hv
    exact ⟨r, rfl, wpAny_pure ⟨_, rfl, hq⟩⟩
  unfold richCompare
  simp only [oneThing_ref]
  refine wpAny_holding (wpAny_bind (wpAny_cRoomFor (Nat.lt_of_succ_lt hu) ?_))
  rw [show cmpInfo .NotEq = (("!=", "__ne__", "__ne__") : String × Str × Str) from rfl]
  dsimp only
  refine wpAny_bind (I.type.here (wpAny_bind (hb.here ?_)))
  split
  · rename_i q
    have e : PySem.W.subIn K tb (.ref C) = some false := by
      rcases Bool.or_eq_true_iff.mp hn with e | e
      · rw [beq_iff_eq.mp e] at q; simp at q
      · exact beq_iff_eq.mp e
    refine wpAny_bind ((PySem.W.looks_subIn X e).here ?_)
    simp only [Bool.false_eq_true, if_false]
    refine wpAny_bind (wpAny_mono one (fun r s' z => ?_) fun _ _ e => e)
    obtain ⟨v, rfl, hq⟩ := z
    exact wpAny_pure hq
  · refine wpAny_bind (wpAny_pure ?_)
    simp only [Bool.false_eq_true, if_false]
    refine wpAny_bind (wpAny_mono one (fun r s' z => ?_) fun _ _ e => e)
    obtain ⟨v, rfl, hq⟩ := z
    exact wpAny_pure hq
end
end Fp
namespace L2
open PySem PySem.Spec PyProof.Rows
def rOwnEq (K : PySem.W.Frag) (C : Addr) (sp : Sp) : R2 := fun x y H Q => ∃ a dx fs t, x = .ref a ∧ H a = some (.ins C dx fs) ∧ TyX K H y t ∧ PySem.W.notFirst K C t = true ∧ sp [x, y] H (fun v H' => ∃ r, v = .bl r ∧ Q (.bl r) H') (fun _ _ _ => False)
def rOwnNe (K : PySem.W.Frag) (C : Addr) (sp : Sp) : R2 := fun x y H Q => ∃ a dx fs t, x = .ref a ∧ H a = some (.ins C dx fs) ∧ TyX K H y t ∧ PySem.W.notFirst K C t = true ∧ sp [x, y] H (fun v H' => ∃ r, v = .bl r ∧ Q (.bl (!r)) H') (fun _ _ _ => False)
section
variable {X : Cx} {C f : Addr} {fd : FuncData} {ps : List Str} {sp : Sp} {n : Nat}
theorem op_ownEq (F : FnOk X.prog X.w X.K X.mg X.base CX0 n f fd ps sp) (hs : PySem.W.findIn X.K (.ref C) "__eq__" = some (some (.ref f))) (hf : PySem.W.isFn X.K (.ref f) = true) (hb : Binds X.K fd ps []) (hr : Room n X.A) :
    OpR X (compareOp .Eq) (rOwnEq X.K C sp) := by
  intro pins s σ H x y v u Q I rx ry hq
  obtain ⟨a, dx, fs, t, rfl, ha, ty, hn, hsp⟩ := hq
  cases rx
  obtain ⟨mA, J, _⟩ := ins_get I.hok ha
  obtain ⟨od, J, _⟩ := J.look
  obtain ⟨P, Z, p, _⟩ := kit_of I ry ty
  obtain ⟨m, hF⟩ := I.fr
  show wpAny (model X.prog X.w) X.A (richCompare .Eq _ u) (EP X pins σ Q) X.xe s
  refine PySem.W.cmp_K (op := .Eq) (tb := t) hr.units0 hF I.ok.mod.kin J (Z.ty _ _ I.kIn p) hn hs hf ?_
  have hl := F.len _ _ _ _ hsp
  have r2 : Vals [V.ref a, y] [Value.ref a, u] := .cons rfl (.cons ry .nil)
  refine wpAny_call (codeAny_mono (F.run X.A X.stack s H ⟨[.ref a, u], []⟩ [.ref a, u] [.ref a, y] _ (fun _ _ _ => False) hr I.env0 (by
    have := hb s [.ref a, u] I.kIn (by simpa using hl)
    simpa using this) r2 hsp) fun r s' hq => ?_)
  cases r with
  | error e => exact pass0 pins σ H s e s' I hq
  | ok fl =>
    cases fl with
    | ret w =>
      obtain ⟨z, H', I', rz, r, ez, q⟩ := I.after hq
      subst ez
      cases rz
      exact ⟨.bl r, H', I', rfl, q⟩
    | next => exact False.elim hq
    | brk => exact False.elim hq
    | cont => exact False.elim hq
theorem op_ownNe (F : FnOk X.prog X.w X.K X.mg X.base CX0 n f fd ps sp) (hne : PySem.W.findIn X.K (.ref C) "__ne__" = some (some (.builtin "object.__ne__"))) (hs : PySem.W.findIn X.K (.ref C) "__eq__" = some (some (.ref f))) (hf : PySem.W.isFn X.K (.ref f) = true)
    (hm : PySem.W.mroIn X.K C (.type "object") = some true) (hb : Binds X.K fd ps []) (hr : Room (n + 1) X.A) :
    OpR X (compareOp .NotEq) (rOwnNe X.K C sp) := by
  intro pins s σ H x y v u Q I rx ry hq
  obtain ⟨a, dx, fs, t, rfl, ha, ty, hn, hsp⟩ := hq
  cases rx
  obtain ⟨mA, J, _⟩ := ins_get I.hok ha
  obtain ⟨od, J, _⟩ := J.look
  obtain ⟨P, Z, p, _⟩ := kit_of I ry ty
  show wpAny (model X.prog X.w) X.A (richCompare .NotEq _ u) (EP X pins σ Q) X.xe s
  have hu : X.A.units + 1 < cLine := hr.in1.units0
  refine Fp.cmpNe_K (tb := t) hu I.kIn J (Z.ty _ _ I.kIn p) hn hne hs hf hm ?_
  have hl := F.len _ _ _ _ hsp
  have r2 : Vals [V.ref a, y] [Value.ref a, u] := .cons rfl (.cons ry .nil)
  refine wpAny_call (codeAny_mono (F.run X.A.in1 X.stack s H ⟨[.ref a, u], []⟩ [.ref a, u] [.ref a, y] _ (fun _ _ _ => False) hr.in1 I.env0.in1 (by
    have := hb s [.ref a, u] I.kIn (by simpa using hl)
    simpa using this) r2 hsp) fun r s' hq => ?_)
  cases r with
  | error e => exact pass0 pins σ H s e s' I hq
  | ok fl =>
    cases fl with
    | ret w =>
      obtain ⟨z, H', I', rz, r, ez, q⟩ := I.after hq
      subst ez
      cases rz
      exact ⟨r, rfl, .bl (!r), H', I', rfl, q⟩
    | next => exact False.elim hq
    | brk => exact False.elim hq
    | cont => exact False.elim hq
end
end L2

set_option Elab.async false
set_option linter.all false
set_option maxRecDepth 100000
set_option maxHeartbeats 2000000
/-! sorted(d, key=rank_of) of a dict of texts; sorted of tuples of an int and a text -/
namespace Fp
open PySem PySem.W PySem.Spec PyProof.Rows
/-- a word's rank -/
def rk (w : Str) : PyData := .tuple [.int (-(w.length : Int)), .str w]
def leR : Str → Str → Bool := dataLe false rk
def rkA (p : Pos) : Arguments := { posonlyargs := [], args := [{ arg := "word", annotation := none, pos := p }], vararg := none, kwonlyargs := [], kw_defaults := [], kwarg := none, defaults := [] }
def rkB (p1 p2 p3 p4 p5 p6 p7 : Pos) : List Stmt := [.Return (some (.Tuple [.UnaryOp .USub (.Call (.Name "len" p1) [.Name "word" p2] [] p3) p4, .Name "word" p5] 0 p6)) p7]
def rkS : Scope := { kind := .function, names := [(PySem.Str.ofString "word", .local), (PySem.Str.ofString "len", .globalImplicit)], isGenerator := false, isCoroutine := false, more := [] }
theorem ldC {M : Model} {s : Shared} {name : Str} {scope : Scope} {L a : Addr} {cd : Value} {m : Str → Option Value} {x : Str} {pos : Pos} {v : Value} {Q : Value → Shared → Prop} {A : Around} {E : Value → Shared → Prop} (hn : s.heap.Ns L m) (hv : m x = some v) (h : Q v s)
    (hk : scope.kind = .function := by rfl) (hl : (envOfC name scope L a cd).kindOf x = some .local := by rfl) (hd : (x == ("__debug__" : Str)) = false := by decide) :
    wpAny M A (eval (.Name x pos) (envOfC name scope L a cd)) Q E s := wpAny_Name (wpAny_loadName_local hk hl hn hv h) hd
section
variable {prog : Program} {w : World} {A : Around} {E : Value → Shared → Prop} {s : Shared} {K : Frag} {mg : Str → Option Value} {base : Heap} {fR : Addr} {fd : FuncData} {p0 p1 p2 p3 p4 p5 p6 p7 : Pos}
theorem rank_call (F : L2.FunD K "rank_of" "rank_of" (rkA p0) (rkB p1 p2 p3 p4 p5 p6 p7) rkS [] [] fR fd) (Mo : L2.Mod K mg base) (kb : ∀ b o, base.get? b = some o → s.heap.get? b = some o) (hlen : mg "len" = none) (hroom : A.depth + 1 < recursionLimit)
    {w0 : Str} {t : Tok} (hw : w0.length ≤ sizeLine) : wpAny (model prog w) A (call (.ref fR) [.str w0 t]) (KeyPure (rk w0) s) E s := by
  obtain ⟨oc, od, dV, kV, doc, pm, an, cdv, ct, osl, rfl, lk, hcd, hD, _⟩ := F.ex
  obtain rfl : dV = .none := by
    rcases hD with ⟨_, e⟩ | ⟨e, _⟩
    · exact e
    · exact absurd rfl e
  have X : K.In s.heap := Mo.kin.keeps kb
  refine wpAny_call (Att.call_fn (binds := [("word", .str w0 t)]) X (Mo.nolimit.keeps kb) lk hcd (Nat.lt_of_succ_lt hroom) (BindsTo.of_eq (by first | rfl | with_unfolding_all rfl)) (by first | rfl | decide | with_unfolding_all rfl) (fun s₁ IC => ?_) rfl rfl rfl)
  obtain ⟨h₁, tk₁, rfl⟩ := IC.toInCall.same
  have k : ∀ b o, s.heap.get? b = some o → h₁.get? b = some o := IC.toInCall.keep
  have hn := IC.toInCall.ns
  obtain ⟨mb, b1, b2⟩ := Mo.blt
  show wpAny _ _ (execs _ _) _ _ _
  refine wpAny_execs_cons (wpAny_Return_some (wpAny_Tuple_spliced ?_))
  show wpAny _ _ (spliced ((false, eval _ _) :: backTo p6 (starEach [_] _))) _ _ _
  refine Calls.spliced_cons (wpAny_UnaryOp ?_)
  refine wpAny_Call_Name_kw (Calls.Name_function_global rfl rfl (Calls.loadGlobal_builtin (Mo.glob.keeps fun b o e => k b o (kb b o e)) hlen (b1.keeps fun b o e => k b o (kb b o e)) ((b2 "len" (by decide)).trans boot_len) ?_) (by decide))
  refine callWith_builtin1 (spliced_more (ldC (v := .str w0 t) hn (by first | rfl | with_unfolding_all rfl | kernel_rfl) (spliced_none ?_))) rfl rfl
  have hs : sizeLine = 16777216 := sizeLine_eq
  have hl63 := L2.line63
  refine len_str (by omega) (neg_int ?_)
  show wpAny _ _ (spliced ((false, eval _ _) :: backTo p6 (starEach [] _))) _ _ _
  refine Calls.spliced_cons (ldC (v := .str w0 t) hn (by first | rfl | with_unfolding_all rfl | kernel_rfl) (Calls.spliced_nil ?_))
  refine ⟨by show 2 ≤ sizeLine; rw [sizeLine_eq]; decide, ?_⟩
  refine ⟨_, _, rfl, fun b o e => Heap.get?_push_of_some _ (k b o e), ?_⟩
  exact Reads.tuple (Heap.get?_push_size _ rfl) rfl rfl (by
    first
    | exact ReadsAll.cons (Reads.int _ _) (ReadsAll.cons (Reads.str _ _) ReadsAll.nil)
    | (have := ReadsAll.cons (h := Heap.push h₁ _) (Reads.int (-(w0.length : Int)) _) (ReadsAll.cons (Reads.str w0 t) ReadsAll.nil); simpa using this))
end
theorem alike_rk (a b : Str) : alike (rk a) (rk b) = true := by simp [rk, alike, alikeAll]
theorem rk_all (ws : List Str) : AllAlike (ws.map rk) := AllAlike.of alike_rk
theorem rk_sortable (ws : List Str) : Sortable (ws.map rk) := Sortable.tuples fun _ => ⟨_, _, rfl⟩
theorem rk_depth (w : Str) : (rk w).depth ≤ 2 := by simp [rk, PyData.depth, PyData.depthAll]
theorem vals_strs : ∀ {us : List Value} {ws : List Str}, EachIs (fun v w => ∃ t, v = Value.str w t) us ws → L2.Vals (ws.map L2.V.str) us
  | _, _, .nil => .nil
  | _, _, .cons h t => .cons h (vals_strs t)
theorem strs_each : ∀ {us : List Value} {ks : List Str}, us.length = ks.length → (∀ (j : Nat) (v : Value), us[j]? = some v → ∃ (x : Str) (t : Tok), ks[j]? = some x ∧ v = Value.str x t) → EachIs (fun v w => ∃ t, v = Value.str w t) us ks
  | [], [], _, _ => .nil
  | u :: us, k :: ks, hl, h => by
    obtain ⟨x, t, e1, e2⟩ := h 0 u rfl
    have e1' : k = x := Option.some.inj e1
    subst e1'
    refine .cons ⟨t, e2⟩ (strs_each (by simpa using hl) fun j v e => ?_)
    obtain ⟨x, t, a, b⟩ := h (j + 1) v (by simpa using e)
    exact ⟨x, t, by simpa using a, b⟩
  | [], _ :: _, hl, _ => by simp at hl
  | _ :: _, [], hl, _ => by simp at hl
/-- a pair of an int and a text, at an address -/
abbrev IS : Type := Addr × Int × Str
def enIS (p : IS) : PyData := .tuple [.int p.2.1, .str p.2.2]
def leIS : IS → IS → Bool := dataLe false enIS
theorem is_all (ws : List IS) : AllAlike (ws.map enIS) := AllAlike.of fun a b => by simp [enIS, alike, alikeAll]
theorem is_sortable (ws : List IS) : Sortable (ws.map enIS) := Sortable.tuples fun _ => ⟨_, _, rfl⟩
theorem is_depth (w : IS) : (enIS w).depth ≤ 2 := by simp [enIS, PyData.depth, PyData.depthAll]
theorem refs_each : ∀ {ps : List IS} {us : List Value}, L2.Vals (ps.map fun p => L2.V.ref p.1) us → EachIs (fun v p => v = Value.ref p.1) us ps
  | [], _, h => by cases h; exact .nil
  | p :: ps, _, h => by
    cases h with
    | cons r t => exact .cons r (refs_each t)
theorem each_refs : ∀ {us : List Value} {ps : List IS}, EachIs (fun v p => v = Value.ref p.1) us ps → L2.Vals (ps.map fun p => L2.V.ref p.1) us
  | _, _, .nil => .nil
  | _, _, .cons h t => .cons h (each_refs t)
end Fp
namespace L2
open PySem PySem.Spec PyProof.Rows
def rSortRk (fR : Addr) : List V → List V → Hp → VK → Prop := fun vs zs H Q => ∃ (a : Addr) (kvs : List (Key × V)) (ws : List Str), vs = [.ref a] ∧ zs = [.ref fR] ∧ Rd H a (.dK kvs) ∧ kvs.map (·.1) = ws.map Sum.inr ∧ (∀ w ∈ ws, w.length ≤ sizeLine) ∧
  ∀ p, H p = none → Q (.ref p) (upd H p (.lst ((ws.mergeSort Fp.leR).map V.str)))
section
variable {X : Cx} {fR : Addr} {fd : FuncData} {p0 p1 p2 p3 p4 p5 p6 p7 : Pos}
/-- sorted(d, key=rank_of) -/
theorem cr_sortRk (hcalm : X.calm = true) (F : FunD X.K "rank_of" "rank_of" (Fp.rkA p0) (Fp.rkB p1 p2 p3 p4 p5 p6 p7) Fp.rkS [] [] fR fd) (hlen : X.mg "len" = none) (hr : Room 1 X.A) : CallRK X (.builtin "sorted") [Str.ofString "key"] (rSortRk fR) := by
  intro pins s σ H vs zs us ws Q I r rz h
  obtain ⟨a, kvs, ks, rfl, rfl, hd, hks, hwl, q⟩ := h
  obtain rfl := Vals.ref1 r
  obtain ⟨w1, rfl, e1⟩ := vals1 rz
  obtain rfl : w1 = Value.ref fR := e1
  obtain ⟨z, lo, vs, rel, dd⟩ := dk_rd I.hok hd
  obtain ⟨ep, hat⟩ := dd.dictAt
  have hkeys : vs.map (·.1) = ks.map Sum.inr := rel.keys.symm.trans hks
  have hl : vs.length = ks.length := by
    have e := congrArg List.length hkeys
    rw [List.length_map, List.length_map] at e
    exact e
  have hlk : kvs.length = ks.length := by
    have e := congrArg List.length hks
    rw [List.length_map, List.length_map] at e
    exact e
  have h16 : vs.length ≤ sizeLine := by rw [hl, ← hlk]; exact z
  refine PyProof.Rows.call_function_entry_kw PyProof.Rows.kind_sorted PyProof.Rows.plain_sorted PyProof.Rows.entry_sorted (PyProof.Rows.ksk_s1 _ _) ?_
  unfold Builtin.«sorted»
  refine wpAny_bind (m := checkCount "sorted" 1 1 _) (wpAny_pure ?_)
  refine wpAny_bind (PySem.W.kdu_collect (A := X.A.in1) (PySem.W.kdl_dict (knd := mixKind X.prog X.w) (kvs := vs) (ep := ep) lo) (I.ok.hd hcalm) hat h16 fun h' tk acc hk hacc => ?_)
  have hal : acc.toList.length = ks.length := by rw [Array.length_toList, hacc.1, hl]
  have hS : PySem.W.EachIs (fun v w => ∃ t, v = Value.str w t) acc.toList ks := Fp.strs_each hal fun j v e => by
    obtain ⟨k, x, e1, e2⟩ := hacc.2 j v (by rw [← Array.getElem?_toList]; exact e)
    have e3 : (vs.map (·.1))[j]? = some k := by rw [List.getElem?_map, e1]; all_goals rfl
    rw [hkeys, List.getElem?_map] at e3
    cases e4 : ks[j]? with
    | none => rw [e4] at e3; cases e3
    | some y =>
      rw [e4] at e3
      have e5 : Sum.inr y = k := Option.some.inj e3
      subst e5
      obtain ⟨t, ev⟩ := Value.isStrOf_shape (x := y) (v := v) e2
      exact ⟨y, t, rfl, ev⟩
  have I1 : Inv X pins σ H { s with heap := h', toks := tk } := I.kept hk
  refine wpAny_bind (wpAny_newList ?_ (by rw [hal, ← hlk]; exact z))
  have hoL : (h'.push (seqObj "list" acc.toList.toArray 0)).get? h'.objs.size = some (seqObj "list" acc.toList.toArray 0) := Heap.get?_push_size _ rfl
  show wpAny _ _ _ _ _ { s with heap := h'.push (seqObj "list" acc.toList.toArray 0), toks := tk }
  refine wpAny_bind (wpAny_holding (wpAny_call_entry_kw slot_list_sort ⟨_, hoL, rfl⟩ entry_list_sort ?body (PyProof.Rows.ksk_l1 _ _)))
  case body =>
    show wpAny (model X.prog X.w) X.A.in1.in1 (Builtin.«list.sort» ⟨[.ref h'.objs.size], [(Str.ofString "key", .ref fR)]⟩) _ _ _
    rw [ksk_t1]
    have hun := hr.un
    have hdp := hr.dp
    refine PySem.W.keyH_tree (kz := ks.map Fp.rk) (s := { s with heap := h'.push (seqObj "list" acc.toList.toArray 0), toks := tk }) hoL (by rw [List.length_map]; exact hal.symm) (by rw [hal, ← hlk]; exact z) (Fp.rk_all ks) (Fp.rk_sortable ks)
      (fun d hd => by
        obtain ⟨w, _, rfl⟩ := List.mem_map.mp hd
        have := Fp.rk_depth w
        show X.A.units + 1 + 1 + _ < _
        omega)
      (PySem.W.keyH_turns (s := { s with heap := h'.push (seqObj "list" acc.toList.toArray 0), toks := tk }) hS fun v x hR hx h tk2 kp => ?_) fun h2 tk2 out c kp hD ko => ⟨_, rfl, ?_⟩
    · obtain ⟨t, rfl⟩ := hR
      refine Fp.rank_call (s := { s with heap := h, toks := tk2 }) F I.ok.mod (fun b o e => ?_) hlen ?_ (hwl x hx)
      · have e1 : s.heap.get? b = some o := I.bk b o e
        have e2 : h'.get? b = some o := hk b o e1
        exact kp b o (Nat.ne_of_lt (Heap.lt_size e2)) (Heap.get?_push_of_some _ e2)
      · show X.A.depth + 1 < _
        omega
    · have ev := PySem.W.keyedOut_each Fp.rk ko hS
      have hlen2 : ((ks.mergeSort Fp.leR).map V.str).length ≤ sizeLine := by
        rw [List.length_map, List.length_mergeSort, ← hlk]
        exact z
      refine wpAny_pure ⟨_, rfl, .ref h'.objs.size, upd H h'.objs.size (.lst ((ks.mergeSort Fp.leR).map V.str)), I1.laid (t' := tk2) (fun b u e => kp b u (Nat.ne_of_lt (Heap.lt_size e)) (Heap.get?_push_of_some _ e)) (Nat.le_refl _)
        (show ObjOk X.prog X.w _ _ _ (.lst ((ks.mergeSort Fp.leR).map V.str)) from ⟨hlen2, out, c, Fp.vals_strs ev, hD⟩), rfl, q _ (I1.hok.fresh (Nat.le_refl _))⟩
/-- sorted(xs), xs a list of pairs of an int and a text -/
def rSortIS (K : PySem.W.Frag) : List V → Hp → VK → Prop := fun vs H Q => ∃ (a : Addr) (ps : List Fp.IS), vs = [.ref a] ∧ SqL K H a (ps.map fun p => V.ref p.1) ∧ (∀ p ∈ ps, H p.1 = some (.tup [.int p.2.1, .str p.2.2])) ∧
  ∀ p, H p = none → Q (.ref p) (upd H p (.lst ((ps.mergeSort Fp.leIS).map fun p => V.ref p.1)))
theorem cr_sortIS (hr : Room 1 X.A) : CallR X (.builtin "sorted") (rSortIS X.K) := by
  intro pins s σ H vs us Q I r h
  obtain ⟨a, ps, rfl, hs, hp, q⟩ := h
  obtain rfl := Vals.ref1 r
  obtain ⟨its, rv, hl, hz⟩ := I.list hs
  have hE := Fp.refs_each rv
  have hl2 : its.length = ps.length := by rw [← rv.length, List.length_map]
  have hun := hr.un
  have hz2 : ps.length ≤ sizeLine := by rw [List.length_map] at hz; exact hz
  refine PySem.W.sorted_data (enc := Fp.enIS) (bs := ps) hl.isList hE ?_ (Fp.is_all ps) (Fp.is_sortable ps) hz2 (fun b hb => ?_) fun out hlo ho => ?_
  · refine PySem.W.EachIs.of_zip hl2 fun z hz => ?_
    obtain ⟨v, p⟩ := z
    have hv : v = Value.ref p.1 := PySem.W.EachIs.zip hE (v, p) hz
    have hm : p ∈ ps := (List.of_mem_zip hz).2
    obtain ⟨_, its2, r2, o, h1, h2, n, h3⟩ := I.hok _ _ (hp p hm)
    obtain ⟨u1, u2, rfl, ⟨t1, e1⟩, ⟨t2, e2⟩⟩ := vals2 r2
    subst hv e1 e2
    exact ⟨_, Reads.tuple h1 h2 h3 (ReadsAll.cons (Reads.int _ _) (ReadsAll.cons (Reads.str _ _) ReadsAll.nil))⟩
  · have := Fp.is_depth b
    omega
  · obtain ⟨ep, he'⟩ := PyProof.Rows.sortedAll_at s.heap its out.toArray
    have hlen : ((ps.mergeSort Fp.leIS).map fun p => V.ref p.1).length ≤ sizeLine := by
      rw [List.length_map, List.length_mergeSort]
      exact hz2
    exact ⟨.ref _, upd H (s.heap.objs.size + 1) (.lst ((ps.mergeSort Fp.leIS).map fun p => V.ref p.1)), I.laid (t' := s.toks) (fun _ _ => PyProof.Rows.sortedAll_old) (Nat.le_succ _) ⟨hlen, out, ep, Fp.each_refs ho, he'⟩, rfl, q _ (I.hok.fresh (Nat.le_succ _))⟩
end
end L2

set_option Elab.async false
set_option linter.all false
set_option maxRecDepth 100000
set_option maxHeartbeats 2000000
/-! what is shared: a def by its name, heaps, tables of words -/
namespace L2
open PySem PySem.Spec PyProof.Rows
/-- a tuple as tuple() makes it: no dict of its own -/
def PlainTup (o : Obj) : Prop := o.cls = .type "tuple" ∧ o.dict = none ∧ ∃ (its : Array Value) (n : Nat), o.data = .seq its n
section
variable {X : Cx}
/-- tuple(l): a new tuple, its object known -/
theorem call_tupleF : CallR X (.type "tuple") (fun xs H Q => ∃ p ys, xs = [.ref p] ∧ SqL X.K H p ys ∧ ∀ l o, H l = none → PlainTup o → Q (.ref l) (upd H l (.frz o (.tup ys)))) := by
  intro pins s σ H xs us Q I r h
  obtain ⟨p, ys, rfl, hq, q⟩ := h
  obtain ⟨u, rfl, rx⟩ := vals1 r
  cases rx
  obtain ⟨its, r', pl, hz⟩ := I.list hq
  have hlen := r'.length
  refine call_tuple_list pl.isList (fun h' kp => ?_) (by simp only [List.size_toArray] <;> omega)
  have I1 : Inv X pins σ H { s with heap := h' } := I.kept (t' := s.toks) kp
  have I2 : Inv X pins σ (upd H h'.objs.size (.frz { cls := .type "tuple", data := .seq its.toArray } (.tup ys))) { s with heap := h'.push { cls := .type "tuple", data := .seq its.toArray } } :=
    I1.laid (t' := s.toks) (fun b o e => Heap.get?_push_of_some _ e) (Nat.le_refl _) (show ObjOk X.prog X.w _ _ _ (.frz _ (.tup ys)) from ⟨Heap.get?_push_size _ rfl, hz, its, r', IsTup.new _ _⟩)
  exact ⟨.ref h'.objs.size, _, I2, rfl, q _ _ (I1.hok.fresh (Nat.le_refl _)) ⟨rfl, rfl, _, _, rfl⟩⟩
theorem refs_get : ∀ {ps : List Addr} {us : List Value}, Vals (ps.map V.ref) us → us = ps.map Value.ref
  | [], _, h => by cases h; rfl
  | p :: ps, _, h => by
    cases h with
    | cons r t =>
      cases r
      rw [refs_get t] <;> rfl
/-- dict(t), t such a tuple of pairs -/
theorem call_dictPT (hcalm : X.calm = true) : CallR X (.type "dict") (fun xs H Q => ∃ (a : Addr) (o : Obj) (ps : List Addr) (kvs : List (Key × V)), xs = [.ref a] ∧ H a = some (.frz o (.tup (ps.map V.ref))) ∧ PlainTup o ∧ Paired (fun p kv => SqT X.K H p [kV kv.1, kv.2]) ps kvs ∧
    ∀ p, H p = none → Q (.ref p) (upd H p (.dK (mergeK [] kvs)))) := by
  intro pins s σ H xs us Q I r q
  obtain ⟨a, o, ps, kvs, ex, hq, ⟨pc, pd, pits, pn, pdat⟩, hp, q⟩ := q
  subst ex
  obtain ⟨u, eu, rx⟩ := vals1 r
  subst eu
  cases rx
  obtain ⟨ho, hz, its, rv, o2, ho2, hc2, n2, hdat2⟩ := (show ObjOk X.prog X.w H s.heap a (.frz o (.tup (ps.map V.ref))) from I.hok a _ hq)
  rw [ho] at ho2
  cases ho2
  have ei := refs_get rv
  subst ei
  rw [List.length_map] at hz
  obtain ⟨prs, rel, hl, hpr⟩ := pairs_of I hp
  -- the keys' values
  have hks : ∃ us : List Value, us.length = prs.length ∧ ∀ (j : Nat) (q : Key × Value), prs[j]? = some q → ∃ (b : Addr) (u : Value), us[j]? = some u ∧ ps[j]? = some b ∧ IsTup s.heap b #[u, q.2] ∧ keyIs q.1 u = true := by
    have hall : ∀ j : Nat, j < prs.length → ∃ u : Value, ∀ q, prs[j]? = some q → ∃ b, ps[j]? = some b ∧ IsTup s.heap b #[u, q.2] ∧ keyIs q.1 u = true := fun j hj => by
      obtain ⟨b, u, e1, e2, e3⟩ := hpr j prs[j] (List.getElem?_eq_getElem hj)
      refine ⟨u, fun q e => ?_⟩
      rw [List.getElem?_eq_getElem hj] at e
      cases e
      exact ⟨b, e1, e2, e3⟩
    let f : Nat → Value := fun j => if hj : j < prs.length then Classical.choose (hall j hj) else .none
    refine ⟨(List.range prs.length).map f, by simp, fun j q e => ?_⟩
    have hj : j < prs.length := (List.getElem?_eq_some_iff.mp e).1
    have hsp := Classical.choose_spec (hall j hj) q e
    obtain ⟨b, e1, e2, e3⟩ := hsp
    refine ⟨b, f j, by simp [hj], e1, ?_, ?_⟩
    · show IsTup s.heap b #[f j, q.2]
      have : f j = Classical.choose (hall j hj) := dif_pos hj
      rw [this]
      exact e2
    · have : f j = Classical.choose (hall j hj) := dif_pos hj
      rw [this]
      exact e3
  obtain ⟨us, hus, hk⟩ := hks
  let vps : List (Value × Value) := us.zip (prs.map (·.2))
  have hvl : vps.length = prs.length := by simp [vps, hus]
  have hget : ∀ j k v, vps[j]? = some (k, v) → ∃ q : Key × Value, prs[j]? = some q ∧ q.2 = v ∧ us[j]? = some k := fun j k v e => by
    obtain ⟨e1, e2⟩ := List.getElem?_zip_eq_some.mp e
    rw [List.getElem?_map] at e2
    cases e3 : prs[j]? with
    | none => rw [e3] at e2; cases e2
    | some q =>
      rw [e3] at e2
      exact ⟨q, e3, Option.some.inj e2, e1⟩
  refine PySem.call_dict_pairs (knd := mixKind X.prog X.w) (kvs := prs) (PairArg.tuple a (ps.map Value.ref).toArray (fun j => ps.getD j 0) vps) (I.ok.hd hcalm) ⟨⟨o, n2, ho, pc, pd, hdat2⟩, ?_, fun j k v e => ?_⟩ ⟨hvl.symm, fun j k v e => ?_⟩ (by rw [hvl, hl]; exact hz) fun h' tk hd' kp => ?_
  · rw [hvl, hl]
    simp
  · obtain ⟨q, e1, e2, e3⟩ := hget j k v e
    obtain ⟨b, u, f1, f2, f3, f4⟩ := hk j q e1
    rw [e3] at f1
    cases f1
    subst e2
    refine ⟨?_, .inl ?_⟩
    · simp [List.getD, f2]
    · show IsTup s.heap (ps.getD j 0) #[k, q.2]
      rw [show ps.getD j 0 = b by simp [List.getD, f2]]
      exact f3
  · obtain ⟨q, e1, e2, e3⟩ := hget j k v e
    obtain ⟨b, u, f1, f2, f3, f4⟩ := hk j q e1
    rw [e3] at f1
    cases f1
    exact ⟨q.1, by rw [e1, ← e2], f4⟩
  · have hm : (s.heap.objs.size == sysModules) = false := beq_eq_false_iff_ne.mpr (Nat.ne_of_gt I.big)
    have hlen : (mergeK [] kvs).length ≤ sizeLine := by
      refine Nat.le_trans (length_mergeK kvs []) ?_
      rw [List.length_nil, Nat.zero_add, rel.length, hl]
      exact hz
    exact ⟨.ref s.heap.objs.size, upd H s.heap.objs.size (.dK (mergeK [] kvs)), I.laid (t' := tk) (fun b o e => kp b o (by simp) e) (Nat.le_refl _) (show ObjOk X.prog X.w _ _ _ (.dK (mergeK [] kvs)) from ⟨hlen, hm, merged [] prs, KV.merge rel .nil, hd'⟩), rfl, q _ (I.hok.fresh (Nat.le_refl _))⟩
end
end L2
namespace Fp
open PySem PySem.Spec PyProof.Rows L2
/-! ### a def of the top by its name -/
structure Ok (P : Program) (w : World) (K : PySem.W.Frag) (mg : Str → Option Value) (base : Heap) (k : Nat) (x : Str) (ps : List Str) (sp : Sp) : Prop where
  ex : ∃ fd, FnOk P w K mg base CX0 k (He.ga K x) fd ps sp ∧ Binds K fd ps []
  g : mg x = some (.ref (He.ga K x))
  kp : PySem.W.keepIn K (.ref (He.ga K x)) = true
theorem pc {X : Cx} {x : Str} {p pos : Pos} {e : Expr} {es : List Expr} {t : TA} {k : Nat} {ps : List Str} {sp : Sp} (G : Ok X.prog X.w X.K X.mg X.base k x ps sp) (hr : Room k X.A) (ha : PA X (e :: es) t) (hg : Gl X x := by rfl) (hdb : (x == ("__debug__" : Str)) = false := by decide)
    (he : starEach (e :: es) X.env = (false, eval e X.env) :: starEach es X.env := by rfl) (hpl : (backTo pos (starEach es X.env)).any (·.1) = false := by rfl) : PE X (.Call (.Name x p) (e :: es) [] pos) (tCall sp [] E0 t) := by
  obtain ⟨fd, F, b⟩ := G.ex
  exact pe_call F hr hg G.g G.kp b .nil pass0 ha hdb he hpl
theorem Ok.mono {P : Program} {w : World} {K : PySem.W.Frag} {mg : Str → Option Value} {base : Heap} {j k : Nat} {x : Str} {ps : List Str} {sp : Sp} (G : Ok P w K mg base j x ps sp) (h : j ≤ k) : Ok P w K mg base k x ps sp := by
  obtain ⟨fd, F, b⟩ := G.ex
  exact ⟨⟨fd, F.mono h, b⟩, G.g, G.kp⟩
/-! ### heaps -/
/-- all that was tracked stays, but for a -/
def But (a : Addr) (H H' : Hp) : Prop := ∀ b o, H b = some o → b ≠ a → H' b = some o
theorem But.refl (a : Addr) (H : Hp) : But a H H := fun _ _ e _ => e
theorem But.trans {a : Addr} {H H1 H2 : Hp} (x : But a H H1) (y : But a H1 H2) : But a H H2 := fun b o e n => y b o (x b o e n) n
theorem But.of {a : Addr} {H H' : Hp} (s : Same H H') : But a H H' := fun b o e _ => s b o e
theorem But.free {a : Addr} {H H' : Hp} (x : But a H H') (hs : ∃ o, H' a = some o) {l : Addr} (e : H' l = none) : H l = none := by
  cases q : H l with
  | none => rfl
  | some o =>
    by_cases hl : l = a
    · obtain ⟨u, hu⟩ := hs
      rw [hl] at e
      rw [hu] at e
      cases e
    · rw [x l o q hl] at e
      cases e
theorem same_upd {H : Hp} {p : Addr} {o : HO} (h : H p = none) : Same H (upd H p o) := fun b x e => by
  rw [upd_ne (ne_of_none e h)]
  exact e
theorem but_upd {H : Hp} {p : Addr} {o : HO} : But p H (upd H p o) := fun b x e n => by
  rw [upd_ne n]
  exact e
theorem lock_back {H : Hp} {d : Addr} {o u : HO} (h : H d = some o) (e : o = u) : upd (upd H d u) d o = H := by
  subst e
  rw [upd_upd]
  funext b
  by_cases hb : b = d
  · rw [hb, upd_same, h]
  · rw [upd_ne hb]
/-! ### tables: words with numbers, in the order in which they were put in -/
abbrev Tb : Type := List (Str × Int)
def kv (l : Tb) : List (Key × V) := l.map fun p => ((Sum.inr p.1 : Key), V.int p.2)
def num (l : Tb) (x : Str) : Int := ((l.find? fun p => decide (p.1 = x)).map (·.2)).getD 0
def has (l : Tb) (x : Str) : Bool := l.any fun p => decide (p.1 = x)
def putT (l : Tb) (x : Str) (n : Int) : Tb := if has l x then l.map (fun p => if p.1 = x then (p.1, n) else p) else l ++ [(x, n)]
def dropT (l : Tb) (x : Str) : Tb := l.filter fun p => decide (p.1 ≠ x)
theorem kv_len (l : Tb) : (kv l).length = l.length := List.length_map _
theorem kv_keys (l : Tb) : (kv l).map (·.1) = (l.map (·.1)).map Sum.inr := by
  unfold kv
  rw [List.map_map, List.map_map]
  rfl
theorem valV_kv (x : Str) : ∀ l : Tb, valV (kv l) (Sum.inr x : Key) = (l.find? fun p => decide (p.1 = x)).map fun p => V.int p.2
  | [] => rfl
  | p :: r => by
    have ih := valV_kv x r
    by_cases e : p.1 = x
    · rw [List.find?_cons_of_pos (by simpa using e)]
      exact valV_pos (p := ((Sum.inr p.1 : Key), V.int p.2)) (by rw [e])
    · rw [List.find?_cons_of_neg (by simpa using e)]
      exact (valV_neg (p := ((Sum.inr p.1 : Key), V.int p.2)) (fun z => e (Sum.inr.inj z))).trans ih
theorem has_find (l : Tb) (x : Str) : has l x = (l.find? fun p => decide (p.1 = x)).isSome := by
  unfold has
  induction l with
  | nil => rfl
  | cons p r ih =>
    by_cases e : p.1 = x
    · rw [List.find?_cons_of_pos (by simpa using e), List.any_cons]
      simp [e]
    · rw [List.find?_cons_of_neg (by simpa using e), List.any_cons, ih]
      simp [e]
theorem valV_yes {l : Tb} {x : Str} (h : has l x = true) : valV (kv l) (Sum.inr x : Key) = some (.int (num l x)) := by
  rw [valV_kv]
  rw [has_find] at h
  unfold num
  cases e : l.find? fun p => decide (p.1 = x) with
  | none => rw [e] at h; cases h
  | some p => rfl
theorem valV_no {l : Tb} {x : Str} (h : has l x = false) : valV (kv l) (Sum.inr x : Key) = none ∧ num l x = 0 := by
  rw [valV_kv]
  rw [has_find] at h
  unfold num
  cases e : l.find? fun p => decide (p.1 = x) with
  | none => exact ⟨rfl, rfl⟩
  | some p => rw [e] at h; cases h
theorem putK_kv (l : Tb) (x : Str) (n : Int) : putK (kv l) (Sum.inr x : Key) (.int n) = kv (putT l x n) := by
  have ea : ((kv l).any fun q => decide (q.1 = (Sum.inr x : Key))) = has l x := by
    unfold kv has
    rw [List.any_map]
    congr 1
    funext p
    by_cases e : p.1 = x
    · simp [e]
    · simp [e]
  unfold putK putT
  rw [ea]
  cases has l x with
  | true =>
    rw [if_pos rfl, if_pos rfl]
    unfold kv
    rw [List.map_map, List.map_map]
    apply List.map_congr_left
    intro p _
    by_cases e : p.1 = x
    · simp [e]
    · simp [e]
  | false =>
    rw [if_neg Bool.false_ne_true, if_neg Bool.false_ne_true]
    unfold kv
    rw [List.map_append]
    rfl
theorem dropK_kv (l : Tb) (x : Str) : dropK (kv l) (Sum.inr x : Key) = kv (dropT l x) := by
  unfold dropK dropT kv
  rw [List.filter_map]
  congr 1
  apply List.filter_congr
  intro p _
  by_cases e : p.1 = x
  · simp [e]
  · simp [e]
/-- a table of distinct words -/
def Nd (l : Tb) : Prop := (l.map (·.1)).Nodup
theorem has_iff {l : Tb} {x : Str} : has l x = true ↔ x ∈ l.map (·.1) := by
  unfold has
  rw [List.any_eq_true]
  constructor
  · rintro ⟨p, hp, e⟩
    exact List.mem_map.mpr ⟨p, hp, of_decide_eq_true e⟩
  · intro h
    obtain ⟨p, hp, e⟩ := List.mem_map.mp h
    exact ⟨p, hp, decide_eq_true e⟩
theorem putT_keys {l : Tb} {x : Str} {n : Int} : (putT l x n).map (·.1) = if has l x then l.map (·.1) else l.map (·.1) ++ [x] := by
  unfold putT
  cases has l x with
  | true =>
    rw [if_pos rfl, if_pos rfl, List.map_map]
    apply List.map_congr_left
    intro p _
    by_cases e : p.1 = x
    · simp [e]
    · simp [e]
  | false =>
    rw [if_neg Bool.false_ne_true, if_neg Bool.false_ne_true, List.map_append]
    rfl
theorem nd_put {l : Tb} (h : Nd l) (x : Str) (n : Int) : Nd (putT l x n) := by
  unfold Nd
  rw [putT_keys]
  cases e : has l x with
  | true => exact h
  | false =>
    rw [if_neg Bool.false_ne_true, List.nodup_append]
    refine ⟨h, by simp, fun a ha b hb => ?_⟩
    have : b = x := by simpa using hb
    subst this
    rintro rfl
    rw [has_iff.mpr ha] at e
    cases e
theorem nd_drop {l : Tb} (h : Nd l) (x : Str) : Nd (dropT l x) := by
  unfold Nd dropT
  exact (List.Sublist.map _ List.filter_sublist).nodup h
theorem mem_put {l : Tb} {x : Str} {n : Int} {p : Str × Int} (h : p ∈ putT l x n) : p = (x, n) ∨ p ∈ l := by
  unfold putT at h
  cases e : has l x with
  | true =>
    rw [e, if_pos rfl] at h
    obtain ⟨q, hq, e2⟩ := List.mem_map.mp h
    by_cases e3 : q.1 = x
    · rw [if_pos e3, e3] at e2
      exact .inl e2.symm
    · rw [if_neg e3] at e2
      exact .inr (e2 ▸ hq)
  | false =>
    rw [e, if_neg Bool.false_ne_true] at h
    rcases List.mem_append.mp h with h | h
    · exact .inr h
    · exact .inl (by simpa using h)
theorem len_put (l : Tb) (x : Str) (n : Int) : (putT l x n).length ≤ l.length + 1 := by
  unfold putT
  split
  · rw [List.length_map]
    omega
  · rw [List.length_append]
    simp
end Fp

set_option Elab.async false
set_option linter.all false
set_option maxRecDepth 100000
set_option maxHeartbeats 2000000
/-! a written dict from ints to tuples of ints, read: d[k] -/
namespace L2
open PySem PySem.Spec PyProof.Rows
abbrev WTab : Type := List (Int × List Int)
def intsB : List Int → List Value → Bool
  | [], [] => true
  | n :: ns, .int i _ :: vs => decide (i = n) && intsB ns vs
  | _, _ => false
theorem intsB_vals : ∀ (ns : List Int) (vs : List Value), intsB ns vs = true → Vals (ns.map V.int) vs
  | [], [], _ => .nil
  | n :: ns, .int i t :: vs, h => by
    have h' : (decide (i = n) && intsB ns vs) = true := h
    rw [Bool.and_eq_true] at h'
    have e : i = n := of_decide_eq_true h'.1
    subst e
    exact .cons ⟨t, rfl⟩ (intsB_vals ns vs h'.2)
def tupO (K : PySem.W.Frag) (a : Addr) (ns : List Int) : Bool := match K.lookup a with
  | some o => (match o.cls, o.data with
    | .type c, .seq its _ => decide (c = "tuple") && (decide (its.size ≤ sizeLine) && intsB ns its.toList)
    | _, _ => false)
  | none => false
theorem tupO_sq {K : PySem.W.Frag} {a : Addr} {ns : List Int} (h : tupO K a ns = true) (H : Hp) : SqT K H a (ns.map V.int) := by
  unfold tupO at h
  split at h
  · rename_i o ho
    split at h
    · rename_i c its n hc hd
      simp only [Bool.and_eq_true, decide_eq_true_eq] at h
      obtain ⟨h1, h2, h3⟩ := h
      subst h1
      exact .inr ⟨o, its, n, ho, hc, hd, h2, intsB_vals _ _ h3⟩
    · cases h
  · cases h
def entB (K : PySem.W.Frag) : WTab → List DictEntry → Bool
  | [], [] => true
  | p :: r, e :: es => (match e.key, e.val with
    | .int i _, .ref a => decide (i = p.1) && (decide (e.hash = hashInt p.1) && tupO K a p.2)
    | _, _ => false) && entB K r es
  | _, _ => false
def wdB (K : PySem.W.Frag) (a : Addr) (t : WTab) : Bool := match K.lookup a with
  | some o => (match o.cls, o.dict, o.data with
    | .type c, none, .dict es _ => decide (c = "dict") && (decide (o.slots.size = 0) && entB K t es.toList)
    | _, _, _ => false)
  | none => false
theorem entB_pairs {P : Program} {w : World} {K : PySem.W.Frag} : ∀ (t : WTab) (es : List DictEntry), entB K t es = true → ∃ vs : List (Key × Value), Pairs (mixKind P w) es vs ∧ (∀ e ∈ es, ∃ k, (mixKind P w).is k e.key = true ∧ e.hash = (mixKind P w).hash k) ∧
    Paired (fun (p : Int × List Int) (v : Key × Value) => v.1 = Sum.inl p.1 ∧ ∃ b, v.2 = .ref b ∧ tupO K b p.2 = true) t vs
  | [], [], _ => ⟨[], .nil, (fun e he => by cases he), .nil⟩
  | p :: r, e :: es, h => by
    unfold entB at h
    rw [Bool.and_eq_true] at h
    obtain ⟨h1, h2⟩ := h
    obtain ⟨vs, a1, a2, a3⟩ := entB_pairs r es h2
    obtain ⟨eh, ek, ev⟩ := e
    cases ek with
    | int i tk =>
      cases ev with
      | ref a =>
        have h1 : (decide (i = p.1) && (decide (eh = hashInt p.1) && tupO K a p.2)) = true := h1
        simp only [Bool.and_eq_true, decide_eq_true_eq] at h1
        obtain ⟨e1, e2, e3⟩ := h1
        subst e1
        refine ⟨(Sum.inl p.1, .ref a) :: vs, .cons (keyIs_int _ tk) rfl a1, (fun x hx => ?_), .cons ⟨rfl, a, rfl, e3⟩ a3⟩
        rcases List.mem_cons.mp hx with rfl | hx
        · exact ⟨Sum.inl p.1, keyIs_int _ tk, e2⟩
        · exact a2 x hx
      | _ => exact absurd h1 (by simp)
    | _ => exact absurd h1 (by simp)
theorem pairs_find {K : PySem.W.Frag} {t : WTab} {vs : List (Key × Value)} (h : Paired (fun (p : Int × List Int) (v : Key × Value) => v.1 = Sum.inl p.1 ∧ ∃ b, v.2 = .ref b ∧ tupO K b p.2 = true) t vs) (hn : (t.map (·.1)).Nodup) :
    (vs.map (·.1)).Nodup ∧ (∀ v ∈ vs, ∃ p ∈ t, v.1 = Sum.inl p.1) ∧ ∀ p ∈ t, ∃ b, valueAt vs (Sum.inl p.1 : Key) = some (.ref b) ∧ tupO K b p.2 = true := by
  induction h with
  | nil => exact ⟨List.nodup_nil, fun v hv => (by cases hv), fun p hp => (by cases hp)⟩
  | @cons p v t vs e r ih =>
    have hn' : (p.1 :: t.map (·.1)).Nodup := hn
    obtain ⟨n1, n2⟩ := List.nodup_cons.mp hn'
    obtain ⟨i1, i2, i3⟩ := ih n2
    obtain ⟨e1, b, e2, e3⟩ := e
    refine ⟨?_, fun u hu => ?_, fun q hq => ?_⟩
    · rw [List.map_cons, List.nodup_cons]
      refine ⟨fun hm => ?_, i1⟩
      obtain ⟨u, hu, eu⟩ := List.mem_map.mp hm
      obtain ⟨q, hq, eq⟩ := i2 u hu
      have : (Sum.inl q.1 : Key) = Sum.inl p.1 := (eq.symm.trans eu).trans e1
      injection this with this
      exact n1 (this ▸ List.mem_map.mpr ⟨q, hq, rfl⟩)
    · rcases List.mem_cons.mp hu with rfl | hu
      · exact ⟨p, List.mem_cons_self, e1⟩
      · obtain ⟨q, hq, eq⟩ := i2 u hu
        exact ⟨q, List.mem_cons_of_mem _ hq, eq⟩
    · unfold valueAt
      rcases List.mem_cons.mp hq with rfl | hq
      · rw [List.find?_cons_of_pos (by simp [e1])]
        exact ⟨b, by rw [Option.map_some, e2], e3⟩
      · obtain ⟨b', h1, h2⟩ := i3 q hq
        refine ⟨b', ?_, h2⟩
        rw [List.find?_cons_of_neg]
        · exact h1
        · rw [e1]
          intro z
          have z' : (Sum.inl p.1 : Key) = Sum.inl q.1 := of_decide_eq_true z
          injection z' with z'
          exact n1 (z' ▸ List.mem_map.mpr ⟨q, hq, rfl⟩)
/-- d[k], d written -/
def tWD (K : PySem.W.Frag) (t : WTab) (ta tb : TE) : TE := fun σ H Q => ta σ H fun x H1 => tb σ H1 fun y H2 => ∃ (a : Addr) (k : Int) (ns : List Int), x = .ref a ∧ wdB K a t = true ∧ y = .int k ∧ (k, ns) ∈ t ∧ ∀ b, tupO K b ns = true → Q (.ref b) H2
theorem pe_wd {X : Cx} {t : WTab} {o i : Expr} {ta tb : TE} {pos : Pos} (hn : (t.map (·.1)).Nodup) (ho : PE X o ta) (hi : PE X i tb) (hs : NoSl i) : PE X (.Subscript o i pos) (tWD X.K t ta tb) := by
  constructor
  intro pins s σ H Q I h
  refine subD_of PySem.F.slot_dict_getitem.lookup hs (thn (ho.run pins s σ H _ I h) fun u s1 ⟨x, H1, I1, rx, q1⟩ => thn (hi.run pins s1 σ H1 _ I1 q1) fun iv s2 ⟨y, H2, I2, ry, a, k, ns, ex, hw, ey, hm, q2⟩ => ?_)
  subst ex
  subst ey
  cases rx
  obtain ⟨tk, rfl⟩ := ry
  unfold wdB at hw
  split at hw
  · rename_i ob hob
    split at hw
    · rename_i c es ep hc hd hdat
      simp only [Bool.and_eq_true, decide_eq_true_eq] at hw
      obtain ⟨w1, w2, w3⟩ := hw
      subst w1
      obtain ⟨vs, p1, p2, p3⟩ := entB_pairs (P := X.prog) (w := X.w) t es.toList w3
      obtain ⟨f1, f2, f3⟩ := pairs_find p3 hn
      obtain ⟨b, v1, v2⟩ := f3 (k, ns) hm
      have dd : s2.heap.DictOf (mixKind X.prog X.w) a vs := ⟨ob, es, ep, I2.kIn a ob hob, ⟨hc, hd, Array.eq_empty_of_size_eq_zero w2⟩, hdat, fun e he => p2 e (Array.mem_def.mp he), p1, f1⟩
      exact ⟨dd.typeIs, wpAny_getItem_of (knd := mixKind X.prog X.w) (k := (Sum.inl k : Key)) (keyIs_int k tk) dd.mapOf v1 ⟨.ref b, H2, I2.tok _, rfl, q2 b v2⟩⟩
    · cases hw
  · cases hw
end L2

set_option Elab.async false
set_option linter.all false
set_option maxRecDepth 100000
set_option maxHeartbeats 2000000
namespace Fp
open PySem PySem.Spec PyProof.Rows L2
def top (i : Nat) : Stmt := PySem.Challenge.pw_frontparts_k70_whole_beginnings_put_toge.main.body.getD i (.Pass ⟨0, 0, 0, 0⟩)
abbrev s_is_integer : Stmt := top 11
abbrev s_is_from_to : Stmt := top 12
abbrev s_is_clock : Stmt := top 13
abbrev s_is_word : Stmt := top 14
abbrev s_inverse : Stmt := top 17
abbrev s_rank_of : Stmt := top 18
abbrev s_first_word : Stmt := top 19
abbrev s_tidied : Stmt := top 20
abbrev s_scaled : Stmt := top 21
abbrev s_added : Stmt := top 22
abbrev s_multiplied : Stmt := top 23
abbrev s_Bag__init__ : Stmt := inClass (top 27) 0
abbrev s_Bag__eq__ : Stmt := inClass (top 27) 1
abbrev s_are_words : Stmt := top 28
abbrev s_is_short_word : Stmt := top 29
abbrev s_pairs_of : Stmt := top 30
abbrev s_bag_of : Stmt := top 31
abbrev s_table_of : Stmt := top 32
abbrev s_has_only : Stmt := top 33
abbrev s_check_clocks : Stmt := top 34
abbrev s_check_something : Stmt := top 35
abbrev s_together : Stmt := top 36
abbrev s_less : Stmt := top 37
abbrev s_behind : Stmt := top 38
abbrev s_mirrored : Stmt := top 39
abbrev s_reduced : Stmt := top 41
abbrev s_reduce_at : Stmt := top 42
abbrev s_start_of : Stmt := top 43
abbrev s_take_off : Stmt := top 44
abbrev s_divided : Stmt := top 45
abbrev s_rest_behind : Stmt := top 47
abbrev s_rest_ahead : Stmt := top 48
abbrev s_is_full : Stmt := top 51
abbrev s_beginnings : Stmt := top 52
abbrev s_check_alphabet : Stmt := top 53
abbrev s_check_over : Stmt := top 54
abbrev s__law_tape : Stmt := top 56
abbrev s__law_draw : Stmt := top 57
abbrev s__law_added : Stmt := top 58
abbrev s__law_product : Stmt := top 59
abbrev s__law_is : Stmt := top 60
abbrev s__law_clock : Stmt := top 61
abbrev s__law_word : Stmt := top 62
abbrev s__law_some : Stmt := top 63
abbrev s__law_flag : Stmt := top 64
abbrev s__law_grown : Stmt := top 65
abbrev s__law_code : Stmt := top 66
abbrev s__law_made : Stmt := top 67
abbrev s__law_fits : Stmt := top 68
abbrev s__law_set_in : Stmt := top 69
abbrev s__law_along : Stmt := top 70
abbrev s_law : Stmt := top 71
abbrev FnP (K : PySem.W.Frag) (x q : Str) (st : Stmt) (f : Addr) (fd : FuncData) : Prop := FunD K x q (defArgs st) (defBody st) (defScope st) [] [] f fd
def d_is_integer : He.DefD := ⟨("is_integer", none), "is_integer", "is_integer", defArgs s_is_integer, defBody s_is_integer, defScope s_is_integer, [], []⟩
def d_is_from_to : He.DefD := ⟨("is_from_to", none), "is_from_to", "is_from_to", defArgs s_is_from_to, defBody s_is_from_to, defScope s_is_from_to, [], []⟩
def d_is_clock : He.DefD := ⟨("is_clock", none), "is_clock", "is_clock", defArgs s_is_clock, defBody s_is_clock, defScope s_is_clock, [], []⟩
def d_is_word : He.DefD := ⟨("is_word", none), "is_word", "is_word", defArgs s_is_word, defBody s_is_word, defScope s_is_word, [], []⟩
def d_inverse : He.DefD := ⟨("inverse", none), "inverse", "inverse", defArgs s_inverse, defBody s_inverse, defScope s_inverse, [], []⟩
def d_rank_of : He.DefD := ⟨("rank_of", none), "rank_of", "rank_of", defArgs s_rank_of, defBody s_rank_of, defScope s_rank_of, [], []⟩
def d_first_word : He.DefD := ⟨("first_word", none), "first_word", "first_word", defArgs s_first_word, defBody s_first_word, defScope s_first_word, [], []⟩
def d_tidied : He.DefD := ⟨("tidied", none), "tidied", "tidied", defArgs s_tidied, defBody s_tidied, defScope s_tidied, [], []⟩
def d_scaled : He.DefD := ⟨("scaled", none), "scaled", "scaled", defArgs s_scaled, defBody s_scaled, defScope s_scaled, [], []⟩
def d_added : He.DefD := ⟨("added", none), "added", "added", defArgs s_added, defBody s_added, defScope s_added, [], []⟩
def d_multiplied : He.DefD := ⟨("multiplied", none), "multiplied", "multiplied", defArgs s_multiplied, defBody s_multiplied, defScope s_multiplied, [], []⟩
def d_Bag__init__ : He.DefD := ⟨("Bag", some "__init__"), "__init__", "Bag.__init__", defArgs s_Bag__init__, defBody s_Bag__init__, defScope s_Bag__init__, [], []⟩
def d_Bag__eq__ : He.DefD := ⟨("Bag", some "__eq__"), "__eq__", "Bag.__eq__", defArgs s_Bag__eq__, defBody s_Bag__eq__, defScope s_Bag__eq__, [], []⟩
def d_are_words : He.DefD := ⟨("are_words", none), "are_words", "are_words", defArgs s_are_words, defBody s_are_words, defScope s_are_words, [], []⟩
def d_is_short_word : He.DefD := ⟨("is_short_word", none), "is_short_word", "is_short_word", defArgs s_is_short_word, defBody s_is_short_word, defScope s_is_short_word, [], []⟩
def d_pairs_of : He.DefD := ⟨("pairs_of", none), "pairs_of", "pairs_of", defArgs s_pairs_of, defBody s_pairs_of, defScope s_pairs_of, [], []⟩
def d_bag_of : He.DefD := ⟨("bag_of", none), "bag_of", "bag_of", defArgs s_bag_of, defBody s_bag_of, defScope s_bag_of, [], []⟩
def d_table_of : He.DefD := ⟨("table_of", none), "table_of", "table_of", defArgs s_table_of, defBody s_table_of, defScope s_table_of, [], []⟩
def d_has_only : He.DefD := ⟨("has_only", none), "has_only", "has_only", defArgs s_has_only, defBody s_has_only, defScope s_has_only, [], []⟩
def d_check_clocks : He.DefD := ⟨("check_clocks", none), "check_clocks", "check_clocks", defArgs s_check_clocks, defBody s_check_clocks, defScope s_check_clocks, [], []⟩
def d_check_something : He.DefD := ⟨("check_something", none), "check_something", "check_something", defArgs s_check_something, defBody s_check_something, defScope s_check_something, [], []⟩
def d_together : He.DefD := ⟨("together", none), "together", "together", defArgs s_together, defBody s_together, defScope s_together, [], []⟩
def d_less : He.DefD := ⟨("less", none), "less", "less", defArgs s_less, defBody s_less, defScope s_less, [], []⟩
def d_behind : He.DefD := ⟨("behind", none), "behind", "behind", defArgs s_behind, defBody s_behind, defScope s_behind, [], []⟩
def d_mirrored : He.DefD := ⟨("mirrored", none), "mirrored", "mirrored", defArgs s_mirrored, defBody s_mirrored, defScope s_mirrored, [], []⟩
def d_reduced : He.DefD := ⟨("reduced", none), "reduced", "reduced", defArgs s_reduced, defBody s_reduced, defScope s_reduced, [], []⟩
def d_reduce_at : He.DefD := ⟨("reduce_at", none), "reduce_at", "reduce_at", defArgs s_reduce_at, defBody s_reduce_at, defScope s_reduce_at, [], []⟩
def d_start_of : He.DefD := ⟨("start_of", none), "start_of", "start_of", defArgs s_start_of, defBody s_start_of, defScope s_start_of, [], []⟩
def d_take_off : He.DefD := ⟨("take_off", none), "take_off", "take_off", defArgs s_take_off, defBody s_take_off, defScope s_take_off, [], []⟩
def d_divided : He.DefD := ⟨("divided", none), "divided", "divided", defArgs s_divided, defBody s_divided, defScope s_divided, [], []⟩
def d_rest_behind : He.DefD := ⟨("rest_behind", none), "rest_behind", "rest_behind", defArgs s_rest_behind, defBody s_rest_behind, defScope s_rest_behind, [], []⟩
def d_rest_ahead : He.DefD := ⟨("rest_ahead", none), "rest_ahead", "rest_ahead", defArgs s_rest_ahead, defBody s_rest_ahead, defScope s_rest_ahead, [], []⟩
def d_is_full : He.DefD := ⟨("is_full", none), "is_full", "is_full", defArgs s_is_full, defBody s_is_full, defScope s_is_full, [], []⟩
def d_beginnings : He.DefD := ⟨("beginnings", none), "beginnings", "beginnings", defArgs s_beginnings, defBody s_beginnings, defScope s_beginnings, [], []⟩
def d_check_alphabet : He.DefD := ⟨("check_alphabet", none), "check_alphabet", "check_alphabet", defArgs s_check_alphabet, defBody s_check_alphabet, defScope s_check_alphabet, [], []⟩
def d_check_over : He.DefD := ⟨("check_over", none), "check_over", "check_over", defArgs s_check_over, defBody s_check_over, defScope s_check_over, [], []⟩
def d__law_tape : He.DefD := ⟨("_law_tape", none), "_law_tape", "_law_tape", defArgs s__law_tape, defBody s__law_tape, defScope s__law_tape, [], []⟩
def d__law_draw : He.DefD := ⟨("_law_draw", none), "_law_draw", "_law_draw", defArgs s__law_draw, defBody s__law_draw, defScope s__law_draw, [], []⟩
def d__law_added : He.DefD := ⟨("_law_added", none), "_law_added", "_law_added", defArgs s__law_added, defBody s__law_added, defScope s__law_added, [], []⟩
def d__law_product : He.DefD := ⟨("_law_product", none), "_law_product", "_law_product", defArgs s__law_product, defBody s__law_product, defScope s__law_product, [], []⟩
def d__law_is : He.DefD := ⟨("_law_is", none), "_law_is", "_law_is", defArgs s__law_is, defBody s__law_is, defScope s__law_is, [], []⟩
def d__law_clock : He.DefD := ⟨("_law_clock", none), "_law_clock", "_law_clock", defArgs s__law_clock, defBody s__law_clock, defScope s__law_clock, [], []⟩
def d__law_word : He.DefD := ⟨("_law_word", none), "_law_word", "_law_word", defArgs s__law_word, defBody s__law_word, defScope s__law_word, [], []⟩
def d__law_some : He.DefD := ⟨("_law_some", none), "_law_some", "_law_some", defArgs s__law_some, defBody s__law_some, defScope s__law_some, [], []⟩
def d__law_flag : He.DefD := ⟨("_law_flag", none), "_law_flag", "_law_flag", defArgs s__law_flag, defBody s__law_flag, defScope s__law_flag, [], []⟩
def d__law_grown : He.DefD := ⟨("_law_grown", none), "_law_grown", "_law_grown", defArgs s__law_grown, defBody s__law_grown, defScope s__law_grown, [], []⟩
def d__law_code : He.DefD := ⟨("_law_code", none), "_law_code", "_law_code", defArgs s__law_code, defBody s__law_code, defScope s__law_code, [], []⟩
def d__law_made : He.DefD := ⟨("_law_made", none), "_law_made", "_law_made", defArgs s__law_made, defBody s__law_made, defScope s__law_made, [], []⟩
def d__law_fits : He.DefD := ⟨("_law_fits", none), "_law_fits", "_law_fits", defArgs s__law_fits, defBody s__law_fits, defScope s__law_fits, [], []⟩
def d__law_set_in : He.DefD := ⟨("_law_set_in", none), "_law_set_in", "_law_set_in", defArgs s__law_set_in, defBody s__law_set_in, defScope s__law_set_in, [], []⟩
def d__law_along : He.DefD := ⟨("_law_along", none), "_law_along", "_law_along", defArgs s__law_along, defBody s__law_along, defScope s__law_along, [], []⟩
def d_law : He.DefD := ⟨("law", none), "law", "law", defArgs s_law, defBody s_law, defScope s_law, [], []⟩
def fn : List He.DefD := [d_is_integer, d_is_from_to, d_is_clock, d_is_word, d_inverse, d_rank_of, d_first_word, d_tidied, d_scaled, d_added, d_multiplied, d_Bag__init__, d_Bag__eq__, d_are_words, d_is_short_word, d_pairs_of, d_bag_of, d_table_of, d_has_only, d_check_clocks, d_check_something, d_together, d_less, d_behind, d_mirrored, d_reduced, d_reduce_at, d_start_of, d_take_off, d_divided, d_rest_behind, d_rest_ahead, d_is_full, d_beginnings, d_check_alphabet, d_check_over, d__law_tape, d__law_draw, d__law_added, d__law_product, d__law_is, d__law_clock, d__law_word, d__law_some, d__law_flag, d__law_grown, d__law_code, d__law_made, d__law_fits, d__law_set_in, d__law_along, d_law]
def fa : List He.Fa := [.glo "is_integer", .glo "is_from_to", .glo "is_clock", .glo "is_word", .glo "inverse", .glo "rank_of", .glo "first_word", .glo "tidied", .glo "scaled", .glo "added", .glo "multiplied", .glo "are_words", .glo "is_short_word", .glo "pairs_of", .glo "bag_of", .glo "table_of", .glo "has_only", .glo "check_clocks", .glo "check_something", .glo "together", .glo "less", .glo "behind", .glo "mirrored", .glo "reduced", .glo "reduce_at", .glo "start_of", .glo "take_off", .glo "divided", .glo "rest_behind", .glo "rest_ahead", .glo "is_full", .glo "beginnings", .glo "check_alphabet", .glo "check_over", .glo "_law_tape", .glo "_law_draw", .glo "_law_added", .glo "_law_product", .glo "_law_is", .glo "_law_clock", .glo "_law_word", .glo "_law_some", .glo "_law_flag", .glo "_law_grown", .glo "_law_code", .glo "_law_made", .glo "_law_fits", .glo "_law_set_in", .glo "_law_along", .glo "law", .glo "BagError", .exc "BagError", .glo "BadBag", .glo "UnlikeClocks", .exc "UnlikeClocks", .glo "IsNothing", .exc "IsNothing", .glo "NoAlphabet", .exc "NoAlphabet", .glo "NoLetters", .exc "NoLetters", .glo "Bag", .cls "Bag", .mkr "Bag", .meth "Bag" "__eq__", .noat "Bag" "clock", .noat "Bag" "words", .glo "CLOCKS", .str "LETTERS" "xyz", .int "MOST_WORDS" 300, .int "MOST_LETTERS" 12, .glo "ALPHABETS", .free "all", .free "bool", .free "dict", .free "int", .free "isinstance", .free "len", .free "list", .free "min", .free "range", .free "sorted", .free "str", .free "tuple", .free "zip", .glo "INVERSES"]
def exl (K : PySem.W.Frag) : List Bool := [He.tupB K "CLOCKS" [.int 2, .int 3, .int 5, .int 7], He.tupB K "ALPHABETS" [.str "xy", .str "xyz"], decide (PySem.W.findIn K (.ref (He.ga K "Bag")) "__class__" = some (some (.builtin "object.__class__"))), decide (PySem.W.specialIn K (.builtin "object.__class__") "__get__" = some (some (.builtin "getset_descriptor.__get__"))), decide (PySem.W.takesIn K (.builtin "object.__class__") = some true), decide (PySem.W.mroIn K (He.ga K "Bag") (.type "object") = some true), decide (PySem.W.findIn K (.ref (He.ga K "Bag")) "__ne__" = some (some (.builtin "object.__ne__"))), decide (PySem.W.kitOne K (.ref (He.ga K "Bag")) (.ref (He.ga K "Bag")) = some true), PySem.W.notFirst K (He.ga K "Bag") (.type "NoneType"), decide (PySem.W.kitOne K (.type "NoneType") (.ref (He.ga K "Bag")) = some false), PySem.W.notFirst K (He.ga K "Bag") (.type "int"), decide (PySem.W.kitOne K (.type "int") (.ref (He.ga K "Bag")) = some false), PySem.W.notFirst K (He.ga K "Bag") (.type "bool"), decide (PySem.W.kitOne K (.type "bool") (.ref (He.ga K "Bag")) = some false), PySem.W.notFirst K (He.ga K "Bag") (.type "str"), decide (PySem.W.kitOne K (.type "str") (.ref (He.ga K "Bag")) = some false), PySem.W.notFirst K (He.ga K "Bag") (.type "dict"), decide (PySem.W.kitOne K (.type "dict") (.ref (He.ga K "Bag")) = some false), PySem.W.notFirst K (He.ga K "Bag") (.type "list"), decide (PySem.W.kitOne K (.type "list") (.ref (He.ga K "Bag")) = some false), PySem.W.notFirst K (He.ga K "Bag") (.type "tuple"), decide (PySem.W.kitOne K (.type "tuple") (.ref (He.ga K "Bag")) = some false), wdB K (He.ga K "INVERSES") [(2, [0, 1]), (3, [0, 1, 2]), (5, [0, 1, 3, 2, 4]), (7, [0, 1, 4, 5, 2, 3, 6])], decide (PySem.W.nsIn K mainGlobals "heapify" = some (some (.builtin "_heapq.heapify"))), decide (PySem.W.nsIn K mainGlobals "heappop" = some (some (.builtin "_heapq.heappop"))), decide (PySem.W.nsIn K mainGlobals "heappush" = some (some (.builtin "_heapq.heappush"))), decide (PySem.W.exmOne K (.ref (He.ga K "BagError")) (.ref (He.ga K "BagError")) = some true), decide (PySem.W.exmOne K (.ref (He.ga K "UnlikeClocks")) (.ref (He.ga K "UnlikeClocks")) = some true), decide (PySem.W.exmOne K (.ref (He.ga K "IsNothing")) (.ref (He.ga K "IsNothing")) = some true), decide (PySem.W.exmOne K (.ref (He.ga K "NoAlphabet")) (.ref (He.ga K "NoAlphabet")) = some true), decide (PySem.W.exmOne K (.ref (He.ga K "NoLetters")) (.ref (He.ga K "NoLetters")) = some true)]
def ex (K : PySem.W.Frag) : Bool := (exl K).all id
/-- what the top has left -/
structure Top (K : PySem.W.Frag) (mg : Str → Option Value) : Prop where
  h : ∃ h : Heap, K.In h ∧ h.Ns mainGlobals mg
  c : He.SaysD fa fn K
  e : ex K = true
section
variable {K : PySem.W.Frag} {mg : Str → Option Value}
theorem Top.x (T : Top K mg) (i : Nat) {b : Bool} (h : (exl K)[i]? = some b := by rfl) : b = true := by
  have := List.all_eq_true.mp T.e b (List.mem_of_getElem? h)
  exact this
theorem g_is_integer (T : Top K mg) : mg "is_integer" = some (.ref (He.ga K "is_integer")) := by
  obtain ⟨h, X, G⟩ := T.h
  exact He.glo_ok X G (T.c.fact 0 (f := .glo "is_integer") rfl)
theorem g_is_from_to (T : Top K mg) : mg "is_from_to" = some (.ref (He.ga K "is_from_to")) := by
  obtain ⟨h, X, G⟩ := T.h
  exact He.glo_ok X G (T.c.fact 1 (f := .glo "is_from_to") rfl)
theorem g_is_clock (T : Top K mg) : mg "is_clock" = some (.ref (He.ga K "is_clock")) := by
  obtain ⟨h, X, G⟩ := T.h
  exact He.glo_ok X G (T.c.fact 2 (f := .glo "is_clock") rfl)
theorem g_is_word (T : Top K mg) : mg "is_word" = some (.ref (He.ga K "is_word")) := by
  obtain ⟨h, X, G⟩ := T.h
  exact He.glo_ok X G (T.c.fact 3 (f := .glo "is_word") rfl)
theorem g_inverse (T : Top K mg) : mg "inverse" = some (.ref (He.ga K "inverse")) := by
  obtain ⟨h, X, G⟩ := T.h
  exact He.glo_ok X G (T.c.fact 4 (f := .glo "inverse") rfl)
theorem g_rank_of (T : Top K mg) : mg "rank_of" = some (.ref (He.ga K "rank_of")) := by
  obtain ⟨h, X, G⟩ := T.h
  exact He.glo_ok X G (T.c.fact 5 (f := .glo "rank_of") rfl)
theorem g_first_word (T : Top K mg) : mg "first_word" = some (.ref (He.ga K "first_word")) := by
  obtain ⟨h, X, G⟩ := T.h
  exact He.glo_ok X G (T.c.fact 6 (f := .glo "first_word") rfl)
theorem g_tidied (T : Top K mg) : mg "tidied" = some (.ref (He.ga K "tidied")) := by
  obtain ⟨h, X, G⟩ := T.h
  exact He.glo_ok X G (T.c.fact 7 (f := .glo "tidied") rfl)
theorem g_scaled (T : Top K mg) : mg "scaled" = some (.ref (He.ga K "scaled")) := by
  obtain ⟨h, X, G⟩ := T.h
  exact He.glo_ok X G (T.c.fact 8 (f := .glo "scaled") rfl)
theorem g_added (T : Top K mg) : mg "added" = some (.ref (He.ga K "added")) := by
  obtain ⟨h, X, G⟩ := T.h
  exact He.glo_ok X G (T.c.fact 9 (f := .glo "added") rfl)
theorem g_multiplied (T : Top K mg) : mg "multiplied" = some (.ref (He.ga K "multiplied")) := by
  obtain ⟨h, X, G⟩ := T.h
  exact He.glo_ok X G (T.c.fact 10 (f := .glo "multiplied") rfl)
theorem g_are_words (T : Top K mg) : mg "are_words" = some (.ref (He.ga K "are_words")) := by
  obtain ⟨h, X, G⟩ := T.h
  exact He.glo_ok X G (T.c.fact 11 (f := .glo "are_words") rfl)
theorem g_is_short_word (T : Top K mg) : mg "is_short_word" = some (.ref (He.ga K "is_short_word")) := by
  obtain ⟨h, X, G⟩ := T.h
  exact He.glo_ok X G (T.c.fact 12 (f := .glo "is_short_word") rfl)
theorem g_pairs_of (T : Top K mg) : mg "pairs_of" = some (.ref (He.ga K "pairs_of")) := by
  obtain ⟨h, X, G⟩ := T.h
  exact He.glo_ok X G (T.c.fact 13 (f := .glo "pairs_of") rfl)
theorem g_bag_of (T : Top K mg) : mg "bag_of" = some (.ref (He.ga K "bag_of")) := by
  obtain ⟨h, X, G⟩ := T.h
  exact He.glo_ok X G (T.c.fact 14 (f := .glo "bag_of") rfl)
theorem g_table_of (T : Top K mg) : mg "table_of" = some (.ref (He.ga K "table_of")) := by
  obtain ⟨h, X, G⟩ := T.h
  exact He.glo_ok X G (T.c.fact 15 (f := .glo "table_of") rfl)
theorem g_has_only (T : Top K mg) : mg "has_only" = some (.ref (He.ga K "has_only")) := by
  obtain ⟨h, X, G⟩ := T.h
  exact He.glo_ok X G (T.c.fact 16 (f := .glo "has_only") rfl)
theorem g_check_clocks (T : Top K mg) : mg "check_clocks" = some (.ref (He.ga K "check_clocks")) := by
  obtain ⟨h, X, G⟩ := T.h
  exact He.glo_ok X G (T.c.fact 17 (f := .glo "check_clocks") rfl)
theorem g_check_something (T : Top K mg) : mg "check_something" = some (.ref (He.ga K "check_something")) := by
  obtain ⟨h, X, G⟩ := T.h
  exact He.glo_ok X G (T.c.fact 18 (f := .glo "check_something") rfl)
theorem g_together (T : Top K mg) : mg "together" = some (.ref (He.ga K "together")) := by
  obtain ⟨h, X, G⟩ := T.h
  exact He.glo_ok X G (T.c.fact 19 (f := .glo "together") rfl)
theorem g_less (T : Top K mg) : mg "less" = some (.ref (He.ga K "less")) := by
  obtain ⟨h, X, G⟩ := T.h
  exact He.glo_ok X G (T.c.fact 20 (f := .glo "less") rfl)
theorem g_behind (T : Top K mg) : mg "behind" = some (.ref (He.ga K "behind")) := by
  obtain ⟨h, X, G⟩ := T.h
  exact He.glo_ok X G (T.c.fact 21 (f := .glo "behind") rfl)
theorem g_mirrored (T : Top K mg) : mg "mirrored" = some (.ref (He.ga K "mirrored")) := by
  obtain ⟨h, X, G⟩ := T.h
  exact He.glo_ok X G (T.c.fact 22 (f := .glo "mirrored") rfl)
theorem g_reduced (T : Top K mg) : mg "reduced" = some (.ref (He.ga K "reduced")) := by
  obtain ⟨h, X, G⟩ := T.h
  exact He.glo_ok X G (T.c.fact 23 (f := .glo "reduced") rfl)
theorem g_reduce_at (T : Top K mg) : mg "reduce_at" = some (.ref (He.ga K "reduce_at")) := by
  obtain ⟨h, X, G⟩ := T.h
  exact He.glo_ok X G (T.c.fact 24 (f := .glo "reduce_at") rfl)
theorem g_start_of (T : Top K mg) : mg "start_of" = some (.ref (He.ga K "start_of")) := by
  obtain ⟨h, X, G⟩ := T.h
  exact He.glo_ok X G (T.c.fact 25 (f := .glo "start_of") rfl)
theorem g_take_off (T : Top K mg) : mg "take_off" = some (.ref (He.ga K "take_off")) := by
  obtain ⟨h, X, G⟩ := T.h
  exact He.glo_ok X G (T.c.fact 26 (f := .glo "take_off") rfl)
theorem g_divided (T : Top K mg) : mg "divided" = some (.ref (He.ga K "divided")) := by
  obtain ⟨h, X, G⟩ := T.h
  exact He.glo_ok X G (T.c.fact 27 (f := .glo "divided") rfl)
theorem g_rest_behind (T : Top K mg) : mg "rest_behind" = some (.ref (He.ga K "rest_behind")) := by
  obtain ⟨h, X, G⟩ := T.h
  exact He.glo_ok X G (T.c.fact 28 (f := .glo "rest_behind") rfl)
theorem g_rest_ahead (T : Top K mg) : mg "rest_ahead" = some (.ref (He.ga K "rest_ahead")) := by
  obtain ⟨h, X, G⟩ := T.h
  exact He.glo_ok X G (T.c.fact 29 (f := .glo "rest_ahead") rfl)
theorem g_is_full (T : Top K mg) : mg "is_full" = some (.ref (He.ga K "is_full")) := by
  obtain ⟨h, X, G⟩ := T.h
  exact He.glo_ok X G (T.c.fact 30 (f := .glo "is_full") rfl)
theorem g_beginnings (T : Top K mg) : mg "beginnings" = some (.ref (He.ga K "beginnings")) := by
  obtain ⟨h, X, G⟩ := T.h
  exact He.glo_ok X G (T.c.fact 31 (f := .glo "beginnings") rfl)
theorem g_check_alphabet (T : Top K mg) : mg "check_alphabet" = some (.ref (He.ga K "check_alphabet")) := by
  obtain ⟨h, X, G⟩ := T.h
  exact He.glo_ok X G (T.c.fact 32 (f := .glo "check_alphabet") rfl)
theorem g_check_over (T : Top K mg) : mg "check_over" = some (.ref (He.ga K "check_over")) := by
  obtain ⟨h, X, G⟩ := T.h
  exact He.glo_ok X G (T.c.fact 33 (f := .glo "check_over") rfl)
theorem g__law_tape (T : Top K mg) : mg "_law_tape" = some (.ref (He.ga K "_law_tape")) := by
  obtain ⟨h, X, G⟩ := T.h
  exact He.glo_ok X G (T.c.fact 34 (f := .glo "_law_tape") rfl)
theorem g__law_draw (T : Top K mg) : mg "_law_draw" = some (.ref (He.ga K "_law_draw")) := by
  obtain ⟨h, X, G⟩ := T.h
  exact He.glo_ok X G (T.c.fact 35 (f := .glo "_law_draw") rfl)
theorem g__law_added (T : Top K mg) : mg "_law_added" = some (.ref (He.ga K "_law_added")) := by
  obtain ⟨h, X, G⟩ := T.h
  exact He.glo_ok X G (T.c.fact 36 (f := .glo "_law_added") rfl)
theorem g__law_product (T : Top K mg) : mg "_law_product" = some (.ref (He.ga K "_law_product")) := by
  obtain ⟨h, X, G⟩ := T.h
  exact He.glo_ok X G (T.c.fact 37 (f := .glo "_law_product") rfl)
theorem g__law_is (T : Top K mg) : mg "_law_is" = some (.ref (He.ga K "_law_is")) := by
  obtain ⟨h, X, G⟩ := T.h
  exact He.glo_ok X G (T.c.fact 38 (f := .glo "_law_is") rfl)
theorem g__law_clock (T : Top K mg) : mg "_law_clock" = some (.ref (He.ga K "_law_clock")) := by
  obtain ⟨h, X, G⟩ := T.h
  exact He.glo_ok X G (T.c.fact 39 (f := .glo "_law_clock") rfl)
theorem g__law_word (T : Top K mg) : mg "_law_word" = some (.ref (He.ga K "_law_word")) := by
  obtain ⟨h, X, G⟩ := T.h
  exact He.glo_ok X G (T.c.fact 40 (f := .glo "_law_word") rfl)
theorem g__law_some (T : Top K mg) : mg "_law_some" = some (.ref (He.ga K "_law_some")) := by
  obtain ⟨h, X, G⟩ := T.h
  exact He.glo_ok X G (T.c.fact 41 (f := .glo "_law_some") rfl)
theorem g__law_flag (T : Top K mg) : mg "_law_flag" = some (.ref (He.ga K "_law_flag")) := by
  obtain ⟨h, X, G⟩ := T.h
  exact He.glo_ok X G (T.c.fact 42 (f := .glo "_law_flag") rfl)
theorem g__law_grown (T : Top K mg) : mg "_law_grown" = some (.ref (He.ga K "_law_grown")) := by
  obtain ⟨h, X, G⟩ := T.h
  exact He.glo_ok X G (T.c.fact 43 (f := .glo "_law_grown") rfl)
theorem g__law_code (T : Top K mg) : mg "_law_code" = some (.ref (He.ga K "_law_code")) := by
  obtain ⟨h, X, G⟩ := T.h
  exact He.glo_ok X G (T.c.fact 44 (f := .glo "_law_code") rfl)
theorem g__law_made (T : Top K mg) : mg "_law_made" = some (.ref (He.ga K "_law_made")) := by
  obtain ⟨h, X, G⟩ := T.h
  exact He.glo_ok X G (T.c.fact 45 (f := .glo "_law_made") rfl)
theorem g__law_fits (T : Top K mg) : mg "_law_fits" = some (.ref (He.ga K "_law_fits")) := by
  obtain ⟨h, X, G⟩ := T.h
  exact He.glo_ok X G (T.c.fact 46 (f := .glo "_law_fits") rfl)
theorem g__law_set_in (T : Top K mg) : mg "_law_set_in" = some (.ref (He.ga K "_law_set_in")) := by
  obtain ⟨h, X, G⟩ := T.h
  exact He.glo_ok X G (T.c.fact 47 (f := .glo "_law_set_in") rfl)
theorem g__law_along (T : Top K mg) : mg "_law_along" = some (.ref (He.ga K "_law_along")) := by
  obtain ⟨h, X, G⟩ := T.h
  exact He.glo_ok X G (T.c.fact 48 (f := .glo "_law_along") rfl)
theorem g_law (T : Top K mg) : mg "law" = some (.ref (He.ga K "law")) := by
  obtain ⟨h, X, G⟩ := T.h
  exact He.glo_ok X G (T.c.fact 49 (f := .glo "law") rfl)
theorem g_BagError (T : Top K mg) : mg "BagError" = some (.ref (He.ga K "BagError")) := by
  obtain ⟨h, X, G⟩ := T.h
  exact He.glo_ok X G (T.c.fact 50 (f := .glo "BagError") rfl)
theorem e_BagError (T : Top K mg) : PySem.W.excIn K (He.ga K "BagError") He.veBase "ValueError.__new__" = true ∧ PySem.W.keepIn K (.ref (He.ga K "BagError")) = true ∧ PySem.W.subIn K (.ref (He.ga K "BagError")) (.type "BaseException") = some true ∧ PySem.W.typeIn K (.ref (He.ga K "BagError")) = some (.type "type") := He.exc_ok (T.c.fact 51 (f := .exc "BagError") rfl)
theorem g_BadBag (T : Top K mg) : mg "BadBag" = some (.ref (He.ga K "BadBag")) := by
  obtain ⟨h, X, G⟩ := T.h
  exact He.glo_ok X G (T.c.fact 52 (f := .glo "BadBag") rfl)
theorem g_UnlikeClocks (T : Top K mg) : mg "UnlikeClocks" = some (.ref (He.ga K "UnlikeClocks")) := by
  obtain ⟨h, X, G⟩ := T.h
  exact He.glo_ok X G (T.c.fact 53 (f := .glo "UnlikeClocks") rfl)
theorem e_UnlikeClocks (T : Top K mg) : PySem.W.excIn K (He.ga K "UnlikeClocks") He.veBase "ValueError.__new__" = true ∧ PySem.W.keepIn K (.ref (He.ga K "UnlikeClocks")) = true ∧ PySem.W.subIn K (.ref (He.ga K "UnlikeClocks")) (.type "BaseException") = some true ∧ PySem.W.typeIn K (.ref (He.ga K "UnlikeClocks")) = some (.type "type") := He.exc_ok (T.c.fact 54 (f := .exc "UnlikeClocks") rfl)
theorem g_IsNothing (T : Top K mg) : mg "IsNothing" = some (.ref (He.ga K "IsNothing")) := by
  obtain ⟨h, X, G⟩ := T.h
  exact He.glo_ok X G (T.c.fact 55 (f := .glo "IsNothing") rfl)
theorem e_IsNothing (T : Top K mg) : PySem.W.excIn K (He.ga K "IsNothing") He.veBase "ValueError.__new__" = true ∧ PySem.W.keepIn K (.ref (He.ga K "IsNothing")) = true ∧ PySem.W.subIn K (.ref (He.ga K "IsNothing")) (.type "BaseException") = some true ∧ PySem.W.typeIn K (.ref (He.ga K "IsNothing")) = some (.type "type") := He.exc_ok (T.c.fact 56 (f := .exc "IsNothing") rfl)
theorem g_NoAlphabet (T : Top K mg) : mg "NoAlphabet" = some (.ref (He.ga K "NoAlphabet")) := by
  obtain ⟨h, X, G⟩ := T.h
  exact He.glo_ok X G (T.c.fact 57 (f := .glo "NoAlphabet") rfl)
theorem e_NoAlphabet (T : Top K mg) : PySem.W.excIn K (He.ga K "NoAlphabet") He.veBase "ValueError.__new__" = true ∧ PySem.W.keepIn K (.ref (He.ga K "NoAlphabet")) = true ∧ PySem.W.subIn K (.ref (He.ga K "NoAlphabet")) (.type "BaseException") = some true ∧ PySem.W.typeIn K (.ref (He.ga K "NoAlphabet")) = some (.type "type") := He.exc_ok (T.c.fact 58 (f := .exc "NoAlphabet") rfl)
theorem g_NoLetters (T : Top K mg) : mg "NoLetters" = some (.ref (He.ga K "NoLetters")) := by
  obtain ⟨h, X, G⟩ := T.h
  exact He.glo_ok X G (T.c.fact 59 (f := .glo "NoLetters") rfl)
theorem e_NoLetters (T : Top K mg) : PySem.W.excIn K (He.ga K "NoLetters") He.veBase "ValueError.__new__" = true ∧ PySem.W.keepIn K (.ref (He.ga K "NoLetters")) = true ∧ PySem.W.subIn K (.ref (He.ga K "NoLetters")) (.type "BaseException") = some true ∧ PySem.W.typeIn K (.ref (He.ga K "NoLetters")) = some (.type "type") := He.exc_ok (T.c.fact 60 (f := .exc "NoLetters") rfl)
theorem g_Bag (T : Top K mg) : mg "Bag" = some (.ref (He.ga K "Bag")) := by
  obtain ⟨h, X, G⟩ := T.h
  exact He.glo_ok X G (T.c.fact 61 (f := .glo "Bag") rfl)
theorem cls_Bag (T : Top K mg) : Cls K (He.ga K "Bag") := He.cls_ok (T.c.fact 62 (f := .cls "Bag") rfl)
theorem mk_Bag (T : Top K mg) : Mk K (He.ga K "Bag") (He.ma K (He.ga K "Bag") "__init__") := He.mkr_ok (T.c.fact 63 (f := .mkr "Bag") rfl)
theorem m_Bag___eq__ (T : Top K mg) : Meth K (He.ga K "Bag") "__eq__" (He.ma K (He.ga K "Bag") "__eq__") := He.meth_ok (T.c.fact 64 (f := .meth "Bag" "__eq__") rfl)
theorem na_Bag_clock (T : Top K mg) : NoAttr K (He.ga K "Bag") "clock" := He.noat_ok (T.c.fact 65 (f := .noat "Bag" "clock") rfl)
theorem na_Bag_words (T : Top K mg) : NoAttr K (He.ga K "Bag") "words" := He.noat_ok (T.c.fact 66 (f := .noat "Bag" "words") rfl)
theorem g_CLOCKS (T : Top K mg) : mg "CLOCKS" = some (.ref (He.ga K "CLOCKS")) := by
  obtain ⟨h, X, G⟩ := T.h
  exact He.glo_ok X G (T.c.fact 67 (f := .glo "CLOCKS") rfl)
theorem t_LETTERS (T : Top K mg) : ∃ t, mg "LETTERS" = some (.str "xyz" t) := by
  obtain ⟨h, X, G⟩ := T.h
  exact He.str_ok X G (T.c.fact 68 (f := .str "LETTERS" "xyz") rfl)
theorem i_MOST_WORDS (T : Top K mg) : ∃ t, mg "MOST_WORDS" = some (.int 300 t) := by
  obtain ⟨h, X, G⟩ := T.h
  exact He.int_ok X G (T.c.fact 69 (f := .int "MOST_WORDS" 300) rfl)
theorem i_MOST_LETTERS (T : Top K mg) : ∃ t, mg "MOST_LETTERS" = some (.int 12 t) := by
  obtain ⟨h, X, G⟩ := T.h
  exact He.int_ok X G (T.c.fact 70 (f := .int "MOST_LETTERS" 12) rfl)
theorem g_ALPHABETS (T : Top K mg) : mg "ALPHABETS" = some (.ref (He.ga K "ALPHABETS")) := by
  obtain ⟨h, X, G⟩ := T.h
  exact He.glo_ok X G (T.c.fact 71 (f := .glo "ALPHABETS") rfl)
theorem f_all (T : Top K mg) : mg "all" = none := by
  obtain ⟨h, X, G⟩ := T.h
  exact He.free_ok X G (T.c.fact 72 (f := .free "all") rfl)
theorem f_bool (T : Top K mg) : mg "bool" = none := by
  obtain ⟨h, X, G⟩ := T.h
  exact He.free_ok X G (T.c.fact 73 (f := .free "bool") rfl)
theorem f_dict (T : Top K mg) : mg "dict" = none := by
  obtain ⟨h, X, G⟩ := T.h
  exact He.free_ok X G (T.c.fact 74 (f := .free "dict") rfl)
theorem f_int (T : Top K mg) : mg "int" = none := by
  obtain ⟨h, X, G⟩ := T.h
  exact He.free_ok X G (T.c.fact 75 (f := .free "int") rfl)
theorem f_isinstance (T : Top K mg) : mg "isinstance" = none := by
  obtain ⟨h, X, G⟩ := T.h
  exact He.free_ok X G (T.c.fact 76 (f := .free "isinstance") rfl)
theorem f_len (T : Top K mg) : mg "len" = none := by
  obtain ⟨h, X, G⟩ := T.h
  exact He.free_ok X G (T.c.fact 77 (f := .free "len") rfl)
theorem f_list (T : Top K mg) : mg "list" = none := by
  obtain ⟨h, X, G⟩ := T.h
  exact He.free_ok X G (T.c.fact 78 (f := .free "list") rfl)
theorem f_min (T : Top K mg) : mg "min" = none := by
  obtain ⟨h, X, G⟩ := T.h
  exact He.free_ok X G (T.c.fact 79 (f := .free "min") rfl)
theorem f_range (T : Top K mg) : mg "range" = none := by
  obtain ⟨h, X, G⟩ := T.h
  exact He.free_ok X G (T.c.fact 80 (f := .free "range") rfl)
theorem f_sorted (T : Top K mg) : mg "sorted" = none := by
  obtain ⟨h, X, G⟩ := T.h
  exact He.free_ok X G (T.c.fact 81 (f := .free "sorted") rfl)
theorem f_str (T : Top K mg) : mg "str" = none := by
  obtain ⟨h, X, G⟩ := T.h
  exact He.free_ok X G (T.c.fact 82 (f := .free "str") rfl)
theorem f_tuple (T : Top K mg) : mg "tuple" = none := by
  obtain ⟨h, X, G⟩ := T.h
  exact He.free_ok X G (T.c.fact 83 (f := .free "tuple") rfl)
theorem f_zip (T : Top K mg) : mg "zip" = none := by
  obtain ⟨h, X, G⟩ := T.h
  exact He.free_ok X G (T.c.fact 84 (f := .free "zip") rfl)
theorem g_INVERSES (T : Top K mg) : mg "INVERSES" = some (.ref (He.ga K "INVERSES")) := by
  obtain ⟨h, X, G⟩ := T.h
  exact He.glo_ok X G (T.c.fact 85 (f := .glo "INVERSES") rfl)
theorem fn_is_integer (T : Top K mg) : ∃ fd, FnP K "is_integer" "is_integer" s_is_integer (He.fAd K ("is_integer", none)) fd := T.c.def_ 0 (d := d_is_integer) rfl
theorem fn_is_from_to (T : Top K mg) : ∃ fd, FnP K "is_from_to" "is_from_to" s_is_from_to (He.fAd K ("is_from_to", none)) fd := T.c.def_ 1 (d := d_is_from_to) rfl
theorem fn_is_clock (T : Top K mg) : ∃ fd, FnP K "is_clock" "is_clock" s_is_clock (He.fAd K ("is_clock", none)) fd := T.c.def_ 2 (d := d_is_clock) rfl
theorem fn_is_word (T : Top K mg) : ∃ fd, FnP K "is_word" "is_word" s_is_word (He.fAd K ("is_word", none)) fd := T.c.def_ 3 (d := d_is_word) rfl
theorem fn_inverse (T : Top K mg) : ∃ fd, FnP K "inverse" "inverse" s_inverse (He.fAd K ("inverse", none)) fd := T.c.def_ 4 (d := d_inverse) rfl
theorem fn_rank_of (T : Top K mg) : ∃ fd, FnP K "rank_of" "rank_of" s_rank_of (He.fAd K ("rank_of", none)) fd := T.c.def_ 5 (d := d_rank_of) rfl
theorem fn_first_word (T : Top K mg) : ∃ fd, FnP K "first_word" "first_word" s_first_word (He.fAd K ("first_word", none)) fd := T.c.def_ 6 (d := d_first_word) rfl
theorem fn_tidied (T : Top K mg) : ∃ fd, FnP K "tidied" "tidied" s_tidied (He.fAd K ("tidied", none)) fd := T.c.def_ 7 (d := d_tidied) rfl
theorem fn_scaled (T : Top K mg) : ∃ fd, FnP K "scaled" "scaled" s_scaled (He.fAd K ("scaled", none)) fd := T.c.def_ 8 (d := d_scaled) rfl
theorem fn_added (T : Top K mg) : ∃ fd, FnP K "added" "added" s_added (He.fAd K ("added", none)) fd := T.c.def_ 9 (d := d_added) rfl
theorem fn_multiplied (T : Top K mg) : ∃ fd, FnP K "multiplied" "multiplied" s_multiplied (He.fAd K ("multiplied", none)) fd := T.c.def_ 10 (d := d_multiplied) rfl
theorem fn_Bag__init__ (T : Top K mg) : ∃ fd, FnP K "__init__" "Bag.__init__" s_Bag__init__ (He.fAd K ("Bag", some "__init__")) fd := T.c.def_ 11 (d := d_Bag__init__) rfl
theorem fn_Bag__eq__ (T : Top K mg) : ∃ fd, FnP K "__eq__" "Bag.__eq__" s_Bag__eq__ (He.fAd K ("Bag", some "__eq__")) fd := T.c.def_ 12 (d := d_Bag__eq__) rfl
theorem fn_are_words (T : Top K mg) : ∃ fd, FnP K "are_words" "are_words" s_are_words (He.fAd K ("are_words", none)) fd := T.c.def_ 13 (d := d_are_words) rfl
theorem fn_is_short_word (T : Top K mg) : ∃ fd, FnP K "is_short_word" "is_short_word" s_is_short_word (He.fAd K ("is_short_word", none)) fd := T.c.def_ 14 (d := d_is_short_word) rfl
theorem fn_pairs_of (T : Top K mg) : ∃ fd, FnP K "pairs_of" "pairs_of" s_pairs_of (He.fAd K ("pairs_of", none)) fd := T.c.def_ 15 (d := d_pairs_of) rfl
theorem fn_bag_of (T : Top K mg) : ∃ fd, FnP K "bag_of" "bag_of" s_bag_of (He.fAd K ("bag_of", none)) fd := T.c.def_ 16 (d := d_bag_of) rfl
theorem fn_table_of (T : Top K mg) : ∃ fd, FnP K "table_of" "table_of" s_table_of (He.fAd K ("table_of", none)) fd := T.c.def_ 17 (d := d_table_of) rfl
theorem fn_has_only (T : Top K mg) : ∃ fd, FnP K "has_only" "has_only" s_has_only (He.fAd K ("has_only", none)) fd := T.c.def_ 18 (d := d_has_only) rfl
theorem fn_check_clocks (T : Top K mg) : ∃ fd, FnP K "check_clocks" "check_clocks" s_check_clocks (He.fAd K ("check_clocks", none)) fd := T.c.def_ 19 (d := d_check_clocks) rfl
theorem fn_check_something (T : Top K mg) : ∃ fd, FnP K "check_something" "check_something" s_check_something (He.fAd K ("check_something", none)) fd := T.c.def_ 20 (d := d_check_something) rfl
theorem fn_together (T : Top K mg) : ∃ fd, FnP K "together" "together" s_together (He.fAd K ("together", none)) fd := T.c.def_ 21 (d := d_together) rfl
theorem fn_less (T : Top K mg) : ∃ fd, FnP K "less" "less" s_less (He.fAd K ("less", none)) fd := T.c.def_ 22 (d := d_less) rfl
theorem fn_behind (T : Top K mg) : ∃ fd, FnP K "behind" "behind" s_behind (He.fAd K ("behind", none)) fd := T.c.def_ 23 (d := d_behind) rfl
theorem fn_mirrored (T : Top K mg) : ∃ fd, FnP K "mirrored" "mirrored" s_mirrored (He.fAd K ("mirrored", none)) fd := T.c.def_ 24 (d := d_mirrored) rfl
theorem fn_reduced (T : Top K mg) : ∃ fd, FnP K "reduced" "reduced" s_reduced (He.fAd K ("reduced", none)) fd := T.c.def_ 25 (d := d_reduced) rfl
theorem fn_reduce_at (T : Top K mg) : ∃ fd, FnP K "reduce_at" "reduce_at" s_reduce_at (He.fAd K ("reduce_at", none)) fd := T.c.def_ 26 (d := d_reduce_at) rfl
theorem fn_start_of (T : Top K mg) : ∃ fd, FnP K "start_of" "start_of" s_start_of (He.fAd K ("start_of", none)) fd := T.c.def_ 27 (d := d_start_of) rfl
theorem fn_take_off (T : Top K mg) : ∃ fd, FnP K "take_off" "take_off" s_take_off (He.fAd K ("take_off", none)) fd := T.c.def_ 28 (d := d_take_off) rfl
theorem fn_divided (T : Top K mg) : ∃ fd, FnP K "divided" "divided" s_divided (He.fAd K ("divided", none)) fd := T.c.def_ 29 (d := d_divided) rfl
theorem fn_rest_behind (T : Top K mg) : ∃ fd, FnP K "rest_behind" "rest_behind" s_rest_behind (He.fAd K ("rest_behind", none)) fd := T.c.def_ 30 (d := d_rest_behind) rfl
theorem fn_rest_ahead (T : Top K mg) : ∃ fd, FnP K "rest_ahead" "rest_ahead" s_rest_ahead (He.fAd K ("rest_ahead", none)) fd := T.c.def_ 31 (d := d_rest_ahead) rfl
theorem fn_is_full (T : Top K mg) : ∃ fd, FnP K "is_full" "is_full" s_is_full (He.fAd K ("is_full", none)) fd := T.c.def_ 32 (d := d_is_full) rfl
theorem fn_beginnings (T : Top K mg) : ∃ fd, FnP K "beginnings" "beginnings" s_beginnings (He.fAd K ("beginnings", none)) fd := T.c.def_ 33 (d := d_beginnings) rfl
theorem fn_check_alphabet (T : Top K mg) : ∃ fd, FnP K "check_alphabet" "check_alphabet" s_check_alphabet (He.fAd K ("check_alphabet", none)) fd := T.c.def_ 34 (d := d_check_alphabet) rfl
theorem fn_check_over (T : Top K mg) : ∃ fd, FnP K "check_over" "check_over" s_check_over (He.fAd K ("check_over", none)) fd := T.c.def_ 35 (d := d_check_over) rfl
theorem fn__law_tape (T : Top K mg) : ∃ fd, FnP K "_law_tape" "_law_tape" s__law_tape (He.fAd K ("_law_tape", none)) fd := T.c.def_ 36 (d := d__law_tape) rfl
theorem fn__law_draw (T : Top K mg) : ∃ fd, FnP K "_law_draw" "_law_draw" s__law_draw (He.fAd K ("_law_draw", none)) fd := T.c.def_ 37 (d := d__law_draw) rfl
theorem fn__law_added (T : Top K mg) : ∃ fd, FnP K "_law_added" "_law_added" s__law_added (He.fAd K ("_law_added", none)) fd := T.c.def_ 38 (d := d__law_added) rfl
theorem fn__law_product (T : Top K mg) : ∃ fd, FnP K "_law_product" "_law_product" s__law_product (He.fAd K ("_law_product", none)) fd := T.c.def_ 39 (d := d__law_product) rfl
theorem fn__law_is (T : Top K mg) : ∃ fd, FnP K "_law_is" "_law_is" s__law_is (He.fAd K ("_law_is", none)) fd := T.c.def_ 40 (d := d__law_is) rfl
theorem fn__law_clock (T : Top K mg) : ∃ fd, FnP K "_law_clock" "_law_clock" s__law_clock (He.fAd K ("_law_clock", none)) fd := T.c.def_ 41 (d := d__law_clock) rfl
theorem fn__law_word (T : Top K mg) : ∃ fd, FnP K "_law_word" "_law_word" s__law_word (He.fAd K ("_law_word", none)) fd := T.c.def_ 42 (d := d__law_word) rfl
theorem fn__law_some (T : Top K mg) : ∃ fd, FnP K "_law_some" "_law_some" s__law_some (He.fAd K ("_law_some", none)) fd := T.c.def_ 43 (d := d__law_some) rfl
theorem fn__law_flag (T : Top K mg) : ∃ fd, FnP K "_law_flag" "_law_flag" s__law_flag (He.fAd K ("_law_flag", none)) fd := T.c.def_ 44 (d := d__law_flag) rfl
theorem fn__law_grown (T : Top K mg) : ∃ fd, FnP K "_law_grown" "_law_grown" s__law_grown (He.fAd K ("_law_grown", none)) fd := T.c.def_ 45 (d := d__law_grown) rfl
theorem fn__law_code (T : Top K mg) : ∃ fd, FnP K "_law_code" "_law_code" s__law_code (He.fAd K ("_law_code", none)) fd := T.c.def_ 46 (d := d__law_code) rfl
theorem fn__law_made (T : Top K mg) : ∃ fd, FnP K "_law_made" "_law_made" s__law_made (He.fAd K ("_law_made", none)) fd := T.c.def_ 47 (d := d__law_made) rfl
theorem fn__law_fits (T : Top K mg) : ∃ fd, FnP K "_law_fits" "_law_fits" s__law_fits (He.fAd K ("_law_fits", none)) fd := T.c.def_ 48 (d := d__law_fits) rfl
theorem fn__law_set_in (T : Top K mg) : ∃ fd, FnP K "_law_set_in" "_law_set_in" s__law_set_in (He.fAd K ("_law_set_in", none)) fd := T.c.def_ 49 (d := d__law_set_in) rfl
theorem fn__law_along (T : Top K mg) : ∃ fd, FnP K "_law_along" "_law_along" s__law_along (He.fAd K ("_law_along", none)) fd := T.c.def_ 50 (d := d__law_along) rfl
theorem fn_law (T : Top K mg) : ∃ fd, FnP K "law" "law" s_law (He.fAd K ("law", none)) fd := T.c.def_ 51 (d := d_law) rfl
theorem x_CLOCKS (T : Top K mg) (H : Hp) : SqT K H (He.ga K "CLOCKS") [.int 2, .int 3, .int 5, .int 7] := He.tupB_ok (T.x 0) H
theorem x_ALPHABETS (T : Top K mg) (H : Hp) : SqT K H (He.ga K "ALPHABETS") [.str "xy", .str "xyz"] := He.tupB_ok (T.x 1) H
theorem x_class (T : Top K mg) : PySem.W.findIn K (.ref (He.ga K "Bag")) "__class__" = some (some (.builtin "object.__class__")) := of_decide_eq_true (T.x 2)
theorem x_get (T : Top K mg) : PySem.W.specialIn K (.builtin "object.__class__") "__get__" = some (some (.builtin "getset_descriptor.__get__")) := of_decide_eq_true (T.x 3)
theorem x_takes (T : Top K mg) : PySem.W.takesIn K (.builtin "object.__class__") = some true := of_decide_eq_true (T.x 4)
theorem x_mro (T : Top K mg) : PySem.W.mroIn K (He.ga K "Bag") (.type "object") = some true := of_decide_eq_true (T.x 5)
theorem x_ne (T : Top K mg) : PySem.W.findIn K (.ref (He.ga K "Bag")) "__ne__" = some (some (.builtin "object.__ne__")) := of_decide_eq_true (T.x 6)
theorem x_is (T : Top K mg) : PySem.W.kitOne K (.ref (He.ga K "Bag")) (.ref (He.ga K "Bag")) = some true := of_decide_eq_true (T.x 7)
theorem x_nf_NoneType (T : Top K mg) : PySem.W.notFirst K (He.ga K "Bag") (.type "NoneType") = true := T.x 8
theorem x_no_NoneType (T : Top K mg) : PySem.W.kitOne K (.type "NoneType") (.ref (He.ga K "Bag")) = some false := of_decide_eq_true (T.x 9)
theorem x_nf_int (T : Top K mg) : PySem.W.notFirst K (He.ga K "Bag") (.type "int") = true := T.x 10
theorem x_no_int (T : Top K mg) : PySem.W.kitOne K (.type "int") (.ref (He.ga K "Bag")) = some false := of_decide_eq_true (T.x 11)
theorem x_nf_bool (T : Top K mg) : PySem.W.notFirst K (He.ga K "Bag") (.type "bool") = true := T.x 12
theorem x_no_bool (T : Top K mg) : PySem.W.kitOne K (.type "bool") (.ref (He.ga K "Bag")) = some false := of_decide_eq_true (T.x 13)
theorem x_nf_str (T : Top K mg) : PySem.W.notFirst K (He.ga K "Bag") (.type "str") = true := T.x 14
theorem x_no_str (T : Top K mg) : PySem.W.kitOne K (.type "str") (.ref (He.ga K "Bag")) = some false := of_decide_eq_true (T.x 15)
theorem x_nf_dict (T : Top K mg) : PySem.W.notFirst K (He.ga K "Bag") (.type "dict") = true := T.x 16
theorem x_no_dict (T : Top K mg) : PySem.W.kitOne K (.type "dict") (.ref (He.ga K "Bag")) = some false := of_decide_eq_true (T.x 17)
theorem x_nf_list (T : Top K mg) : PySem.W.notFirst K (He.ga K "Bag") (.type "list") = true := T.x 18
theorem x_no_list (T : Top K mg) : PySem.W.kitOne K (.type "list") (.ref (He.ga K "Bag")) = some false := of_decide_eq_true (T.x 19)
theorem x_nf_tuple (T : Top K mg) : PySem.W.notFirst K (He.ga K "Bag") (.type "tuple") = true := T.x 20
theorem x_no_tuple (T : Top K mg) : PySem.W.kitOne K (.type "tuple") (.ref (He.ga K "Bag")) = some false := of_decide_eq_true (T.x 21)
theorem xm_BagError (T : Top K mg) : PySem.W.exmOne K (.ref (He.ga K "BagError")) (.ref (He.ga K "BagError")) = some true := of_decide_eq_true (T.x 26)
theorem xm_UnlikeClocks (T : Top K mg) : PySem.W.exmOne K (.ref (He.ga K "UnlikeClocks")) (.ref (He.ga K "UnlikeClocks")) = some true := of_decide_eq_true (T.x 27)
theorem xm_IsNothing (T : Top K mg) : PySem.W.exmOne K (.ref (He.ga K "IsNothing")) (.ref (He.ga K "IsNothing")) = some true := of_decide_eq_true (T.x 28)
theorem xm_NoAlphabet (T : Top K mg) : PySem.W.exmOne K (.ref (He.ga K "NoAlphabet")) (.ref (He.ga K "NoAlphabet")) = some true := of_decide_eq_true (T.x 29)
theorem xm_NoLetters (T : Top K mg) : PySem.W.exmOne K (.ref (He.ga K "NoLetters")) (.ref (He.ga K "NoLetters")) = some true := of_decide_eq_true (T.x 30)
theorem w_INVERSES (T : Top K mg) : wdB K (He.ga K "INVERSES") [(2, [0, 1]), (3, [0, 1, 2]), (5, [0, 1, 3, 2, 4]), (7, [0, 1, 4, 5, 2, 3, 6])] = true := T.x 22
theorem hq_heapify (T : Top K mg) : mg "heapify" = some (.builtin "_heapq.heapify") := by
  obtain ⟨h, X, G⟩ := T.h
  exact PySem.W.mg_of X G (of_decide_eq_true (T.x 23))
theorem hq_heappop (T : Top K mg) : mg "heappop" = some (.builtin "_heapq.heappop") := by
  obtain ⟨h, X, G⟩ := T.h
  exact PySem.W.mg_of X G (of_decide_eq_true (T.x 24))
theorem hq_heappush (T : Top K mg) : mg "heappush" = some (.builtin "_heapq.heappush") := by
  obtain ⟨h, X, G⟩ := T.h
  exact PySem.W.mg_of X G (of_decide_eq_true (T.x 25))
end
end Fp

set_option Elab.async false
set_option linter.all false
set_option maxRecDepth 100000
set_option maxHeartbeats 2000000
namespace Fp
open PySem PySem.Spec PyProof.Rows L2
/-! ### words -/
def xyz (w : Str) : Prop := ∀ c ∈ w.cps.toList, c = 120 ∨ c = 121 ∨ c = 122
theorem tw_self {g : Nat → Bool} : ∀ {l : List Nat}, (∀ c ∈ l, g c = true) → l.takeWhile g = l
  | [], _ => rfl
  | c :: r, h => by
    rw [List.takeWhile_cons, if_pos (h c List.mem_cons_self), tw_self fun d hd => h d (List.mem_cons_of_mem _ hd)]
theorem strip_xyz {w : Str} (h : xyz w) : PySem.Txt.stripChars w "xyz" = (Str.ofString "") := by
  have hg : ∀ c ∈ w.cps.toList, (("xyz" : Str).cps.contains c) = true := fun c hc => by
    rcases h c hc with e | e | e <;> subst e <;> decide +kernel
  have ht : w.cps.toList.takeWhile ("xyz" : Str).cps.contains = w.cps.toList := tw_self hg
  have hlo : stripLo ("xyz" : Str).cps.contains true w = w.cps.toList.length := by
    unfold stripLo
    rw [if_pos rfl, ht]
  have hsz : w.length = w.cps.toList.length := by simp [Str.length]
  unfold PySem.Txt.stripChars PySem.Txt.stripBy
  cases e : stripSame ("xyz" : Str).cps.contains true true w with
  | true =>
    rw [if_pos rfl]
    unfold stripSame at e
    rw [hlo] at e
    simp only [Bool.and_eq_true, beq_iff_eq] at e
    have e0 : w.cps.toList = [] := List.length_eq_zero_iff.mp e.1
    obtain ⟨a⟩ := w
    have : a = #[] := by simpa using e0
    subst this
    rfl
  | false =>
    rw [if_neg Bool.false_ne_true]
    unfold stripped
    rw [hlo]
    have hhi : stripHi ("xyz" : Str).cps.contains true w w.cps.toList.length = w.length := by
      unfold stripHi
      rw [if_pos rfl, List.drop_length]
      simp
    rw [hhi, hsz]
    unfold Builtin.Str.strSub
    simp
    rfl
section
variable {P : Program} {w : World} {K : PySem.W.Frag} {mg : Str → Option Value} {base : Heap}
/-! ### kinds -/
def spInt : Sp := fun vs H Q _ => ∃ i : Int, vs = [.int i] ∧ Q (.bl true) H
theorem sc_is_integer : FnScope ["thing"] ["thing"] (defScope s_is_integer) := ⟨rfl, rfl, rfl, by decide +kernel, rfl, by decide +kernel, by decide +kernel⟩
theorem ok_is_integer (T : Top K mg) : Ok P w K mg base 1 "is_integer" ["thing"] spInt := by
  obtain ⟨fd, F⟩ := fn_is_integer T
  refine ⟨⟨fd, ?_, F.bindsN fun _ _ _ _ _ _ us hl => match us, hl with | [_], _ => rfl⟩, g_is_integer T, F.kp⟩
  refine F.ok sc_is_integer (fun vs H Q E h => ?_) (fun cdv A outer s H vs Q E hr h => ?_)
  · obtain ⟨i, rfl, _⟩ := h
    rfl
  · obtain ⟨i, rfl, q⟩ := h
    refine ⟨_, PSs.nox (pss_one (ps_ret (pe_and (pe_callB call_isi (by rfl) (f_isinstance T) (by decide +kernel) (pa_cons (pv 0) (pa_cons (pe_bltn (v := .ty "int") (by rfl) (f_int T) boot_int rfl) pa_nil)))
      (pe_one (pe_not (pe_callB call_isi (by rfl) (f_isinstance T) (by decide +kernel) (pa_cons (pv 0) (pa_cons (pe_bltn (v := .ty "bool") (by rfl) (f_bool T) (by decide +kernel) rfl) pa_nil)))))))), ?_⟩
    refine ⟨_, rfl, .int i, _, _, _, true, rfl, .ty "int", .base (.int i), kit_ty (by decide +kernel), true, rfl, iteT ?_⟩
    exact ⟨_, rfl, .int i, _, _, _, false, rfl, .ty "bool", .base (.int i), kit_ty (by decide +kernel), false, rfl, q⟩
def spFromTo : Sp := fun vs H Q _ => ∃ i lo hi : Int, vs = [.int i, .int lo, .int hi] ∧ Q (.bl (decide (lo ≤ i) && decide (i ≤ hi))) H
theorem sc_is_from_to : FnScope ["thing", "low", "high"] ["thing", "low", "high"] (defScope s_is_from_to) := ⟨rfl, rfl, rfl, by decide +kernel, rfl, by decide +kernel, by decide +kernel⟩
theorem ok_is_from_to (T : Top K mg) : Ok P w K mg base 2 "is_from_to" ["thing", "low", "high"] spFromTo := by
  obtain ⟨fd, F⟩ := fn_is_from_to T
  refine ⟨⟨fd, ?_, F.bindsN fun _ _ _ _ _ _ us hl => match us, hl with | [_, _, _], _ => rfl⟩, g_is_from_to T, F.kp⟩
  refine F.ok sc_is_from_to (fun vs H Q E h => ?_) (fun cdv A outer s H vs Q E hr h => ?_)
  · obtain ⟨i, lo, hi, rfl, _⟩ := h
    rfl
  · obtain ⟨i, lo, hi, rfl, q⟩ := h
    refine ⟨_, PSs.nox (pss_one (ps_ret (pe_and (pc (ok_is_integer T) hr (pa_cons (pv 0) pa_nil)) (pe_one (pe_chain op_le op_le (pv 1) (pv 0) (pv 2)))))), ?_⟩
    refine ⟨_, rfl, i, rfl, true, rfl, iteT ?_⟩
    refine ⟨_, rfl, _, rfl, _, _, rfl, rfl, _, rfl, ?_⟩
    by_cases h1 : lo ≤ i
    · rw [decide_eq_true h1] at q ⊢
      exact iteT ⟨_, rfl, _, _, rfl, rfl, q⟩
    · rw [decide_eq_false h1] at q ⊢
      exact iteF q
def isCk (c : Int) : Prop := c = 2 ∨ c = 3 ∨ c = 5 ∨ c = 7
def spClock : Sp := fun vs H Q _ => ∃ c : Int, vs = [.int c] ∧ isCk c ∧ Q (.bl true) H
theorem sc_is_clock : FnScope ["thing"] ["thing"] (defScope s_is_clock) := ⟨rfl, rfl, rfl, by decide +kernel, rfl, by decide +kernel, by decide +kernel⟩
theorem ok_is_clock (T : Top K mg) : Ok P w K mg base 2 "is_clock" ["thing"] spClock := by
  obtain ⟨fd, F⟩ := fn_is_clock T
  refine ⟨⟨fd, ?_, F.bindsN fun _ _ _ _ _ _ us hl => match us, hl with | [_], _ => rfl⟩, g_is_clock T, F.kp⟩
  refine F.ok sc_is_clock (fun vs H Q E h => ?_) (fun cdv A outer s H vs Q E hr h => ?_)
  · obtain ⟨i, rfl, _⟩ := h
    rfl
  · obtain ⟨c, rfl, hc, q⟩ := h
    refine ⟨_, PSs.nox (pss_one (ps_ret (pe_and (pc (ok_is_integer T) hr (pa_cons (pv 0) pa_nil)) (pe_one (pe_cmpR op_in_seq (pv 0) (pe_glob (v := .ref (He.ga K "CLOCKS")) rfl (g_CLOCKS T) rfl) (by rfl)))))), ?_⟩
    refine ⟨_, rfl, c, rfl, true, rfl, iteT ?_⟩
    refine ⟨_, rfl, _, _, rfl, .inr (x_CLOCKS T _), rfl, rfl, ?_⟩
    have e : (if false = true then !inV (V.int c) [.int 2, .int 3, .int 5, .int 7] else inV (V.int c) [.int 2, .int 3, .int 5, .int 7]) = true := by
      rcases hc with rfl | rfl | rfl | rfl <;> decide
    rw [e]
    exact q
def spWord : Sp := fun vs H Q _ => ∃ x : Str, vs = [.str x] ∧ xyz x ∧ x.length ≤ 1000000 ∧ Q (.bl true) H
theorem sc_is_word : FnScope ["thing"] ["thing"] (defScope s_is_word) := ⟨rfl, rfl, rfl, by decide +kernel, rfl, by decide +kernel, by decide +kernel⟩
theorem ok_is_word (T : Top K mg) : Ok P w K mg base 1 "is_word" ["thing"] spWord := by
  obtain ⟨fd, F⟩ := fn_is_word T
  obtain ⟨tk, hL⟩ := t_LETTERS T
  refine ⟨⟨fd, ?_, F.bindsN fun _ _ _ _ _ _ us hl => match us, hl with | [_], _ => rfl⟩, g_is_word T, F.kp⟩
  refine F.ok sc_is_word (fun vs H Q E h => ?_) (fun cdv A outer s H vs Q E hr h => ?_)
  · obtain ⟨i, rfl, _⟩ := h
    rfl
  · obtain ⟨x, rfl, hx, hl, q⟩ := h
    have hs : sizeLine = 16777216 := sizeLine_eq
    refine ⟨_, PSs.nox (pss_one (ps_ret (pe_and (pe_callB call_isi (by rfl) (f_isinstance T) (by decide +kernel) (pa_cons (pv 0) (pa_cons (pe_bltn (v := .ty "str") (by rfl) (f_str T) (by decide +kernel) rfl) pa_nil)))
      (pe_one (pe_cmpR op_eq (pe_m1 PySem.F.slot_str_strip PySem.F.type_str_strip mt_stripChars (pv 0) (pe_glob (v := .str "xyz") rfl hL ⟨_, rfl⟩)) pe_str (nomark _)))))), ?_⟩
    refine ⟨_, rfl, .str x, _, _, _, true, rfl, .ty "str", .base (.str x), kit_ty (by decide +kernel), true, rfl, iteT ?_⟩
    refine ⟨_, rfl, ⟨x, rfl⟩, x, _, rfl, rfl, by omega, rfl, ?_⟩
    rw [strip_xyz hx]
    exact q
def spShort : Sp := fun vs H Q _ => ∃ x : Str, vs = [.str x] ∧ xyz x ∧ x.length ≤ 12 ∧ Q (.bl true) H
theorem sc_is_short_word : FnScope ["thing"] ["thing"] (defScope s_is_short_word) := ⟨rfl, rfl, rfl, by decide +kernel, rfl, by decide +kernel, by decide +kernel⟩
theorem ok_is_short_word (T : Top K mg) : Ok P w K mg base 2 "is_short_word" ["thing"] spShort := by
  obtain ⟨fd, F⟩ := fn_is_short_word T
  obtain ⟨tk, hL⟩ := i_MOST_LETTERS T
  refine ⟨⟨fd, ?_, F.bindsN fun _ _ _ _ _ _ us hl => match us, hl with | [_], _ => rfl⟩, g_is_short_word T, F.kp⟩
  refine F.ok sc_is_short_word (fun vs H Q E h => ?_) (fun cdv A outer s H vs Q E hr h => ?_)
  · obtain ⟨i, rfl, _⟩ := h
    rfl
  · obtain ⟨x, rfl, hx, hl, q⟩ := h
    have hs : sizeLine = 16777216 := sizeLine_eq
    refine ⟨_, PSs.nox (pss_one (ps_ret (pe_and (pc (ok_is_word T) hr (pa_cons (pv 0) pa_nil)) (pe_one (pe_cmpR op_le (pe_callB call_len_str (by rfl) (f_len T) PySem.boot_len (pa_cons (pv 0) pa_nil)) (pe_glob (v := .int 12) rfl hL ⟨_, rfl⟩) (nomark _)))))), ?_⟩
    refine ⟨_, rfl, x, rfl, hx, by omega, true, rfl, iteT ?_⟩
    refine ⟨_, rfl, x, rfl, by omega, _, _, rfl, rfl, ?_⟩
    show Q (.bl (decide ((x.length : Int) ≤ 12))) H
    rw [decide_eq_true (show ((x.length : Int) ≤ 12) by omega)]
    exact q
end
end Fp

set_option Elab.async false
set_option linter.all false
set_option maxRecDepth 100000
set_option maxHeartbeats 2000000
namespace Fp
open PySem PySem.Spec PyProof.Rows L2
/-- a table that Bag lets: by the clock c, words of at most m letters, at most k of them -/
structure VT (c : Int) (m k : Nat) (l : Tb) : Prop where
  nd : Nd l
  nu : ∀ p ∈ l, 1 ≤ p.2 ∧ p.2 < c
  wd : ∀ p ∈ l, xyz p.1 ∧ p.1.length ≤ m
  ln : l.length ≤ k
theorem VT.mono {c : Int} {m k m' k' : Nat} {l : Tb} (h : VT c m k l) (hm : m ≤ m') (hk : k ≤ k') : VT c m' k' l :=
  ⟨h.nd, h.nu, fun p hp => ⟨(h.wd p hp).1, Nat.le_trans (h.wd p hp).2 hm⟩, Nat.le_trans h.ln hk⟩
theorem find_of {l : Tb} (h : Nd l) {i : Nat} {p : Str × Int} (e : l[i]? = some p) : (l.find? fun q => decide (q.1 = p.1)) = some p := by
  induction l generalizing i with
  | nil => simp at e
  | cons q r ih =>
    have h' : (q.1 :: r.map (·.1)).Nodup := h
    obtain ⟨h1, h2⟩ := List.nodup_cons.mp h'
    cases i with
    | zero =>
      have : q = p := by simpa using e
      subst this
      rw [List.find?_cons_of_pos (by simp)]
    | succ i =>
      have e' : r[i]? = some p := by simpa using e
      have hm : p ∈ r := List.mem_of_getElem? e'
      have hne : q.1 ≠ p.1 := fun z => h1 (z ▸ List.mem_map.mpr ⟨p, hm, rfl⟩)
      rw [List.find?_cons_of_neg (by simpa using hne)]
      exact ih h2 e'
theorem num_of {l : Tb} (h : Nd l) {i : Nat} {p : Str × Int} (e : l[i]? = some p) : num l p.1 = p.2 := by
  unfold num
  rw [find_of h e]
  rfl
theorem has_of {l : Tb} {i : Nat} {p : Str × Int} (e : l[i]? = some p) : has l p.1 = true := has_iff.mpr (List.mem_map.mpr ⟨p, List.mem_of_getElem? e, rfl⟩)
theorem kv_at {l : Tb} {i : Nat} {k : Key} {v : V} (e : (kv l)[i]? = some (k, v)) : ∃ p, l[i]? = some p ∧ k = Sum.inr p.1 ∧ v = .int p.2 := by
  unfold kv at e
  rw [List.getElem?_map] at e
  cases q : l[i]? with
  | none => rw [q] at e; cases e
  | some p =>
    rw [q] at e
    have e2 := Option.some.inj e
    injection e2 with e3 e4
    exact ⟨p, rfl, e3.symm, e4.symm⟩
section
variable {P : Program} {w : World} {K : PySem.W.Frag} {mg : Str → Option Value} {base : Heap}
def spAreWords : Sp := fun vs H Q _ => ∃ (c : Int) (d : Addr) (l : Tb), vs = [.int c, .ref d] ∧ H d = some (.dK (kv l)) ∧ VT c 12 300 l ∧ ∀ H', Same H H' → Q (.bl true) H'
abbrev nAreWords : List Str := ["clock", "thing", "word"]
theorem sc_are_words : FnScope nAreWords ["clock", "thing"] (defScope s_are_words) := ⟨rfl, rfl, rfl, by decide +kernel, rfl, by decide +kernel, by decide +kernel⟩
theorem ok_are_words (T : Top K mg) : Ok P w K mg base 4 "are_words" ["clock", "thing"] spAreWords := by
  obtain ⟨fd, F⟩ := fn_are_words T
  obtain ⟨tk, hL⟩ := i_MOST_WORDS T
  refine ⟨⟨fd, ?_, F.bindsN fun _ _ _ _ _ _ us hl => match us, hl with | [_, _], _ => rfl⟩, g_are_words T, F.kp⟩
  refine F.ok sc_are_words (fun vs H Q E h => ?_) (fun cdv A outer s H vs Q E hr h => ?_)
  · obtain ⟨c, d, l, rfl, _⟩ := h
    rfl
  · obtain ⟨c, d, l, rfl, hd, hv, q⟩ := h
    have hu := hu_of hr
    have nd := sc_are_words.nd
    have hr2 : Room 2 _ := hr.mono (by decide)
    have hs : sizeLine = 16777216 := sizeLine_eq
    have hln := hv.ln
    refine ⟨_, PSs.nox (pss_cons (ps_if (PW.pt (pw_or (pt_not (pt_val (pe_callB call_isi (by rfl) (f_isinstance T) (by decide +kernel) (pa_cons (pv 1) (pa_cons (pe_bltn (v := .ty "dict") (by rfl) (f_dict T) (by decide +kernel) rfl) pa_nil)))))
        (pw_or1 (pt_cmpR op_gt (pe_callB call_lenD (by rfl) (f_len T) PySem.boot_len (pa_cons (pv 1) pa_nil)) (pe_glob (v := .int 300) rfl hL ⟨_, rfl⟩) (nomark _))))) (pss_one (ps_ret pe_bl)) pss_nil)
      (pss_one (ps_ret (pe_callB (cr_all rfl) (by rfl) (f_all T) (by decide +kernel) (pa_cons (pe_lock (pe_lc (own := [("word", 2)]) (g := gName 2) (tt := tYes) rfl nd (pi_keys (pv 1)) (blkOk_by (N := nAreWords) (sc := defScope s_are_words) (by decide +kernel))
        (fun _ _ _ _ _ => pg_name (i := 2) nd rfl (Or.inl rfl)) (fun _ _ _ _ _ => pts_nil)
        (fun _ _ _ _ _ => pe_and (pc (ok_is_short_word T) hr2 (pa_cons (pv 2) pa_nil)) (pe_one (pc (ok_is_from_to T) hr2 (pa_cons (pe_dget hu (pv 1) (pv 2) (fun _ _ => rfl)) (pa_cons pe_int (pa_cons (pe_op op_sub (pv 0) pe_int) pa_nil)))))))) pa_nil))))), ?_⟩
    refine ⟨_, rfl, .ref d, _, _, _, true, rfl, .ty "dict", .base (.dK hd), kit_ty (by decide +kernel), true, rfl, iteF ?_⟩
    refine ⟨_, rfl, d, _, rfl, hd, _, _, rfl, rfl, _, rfl, ?_⟩
    rw [show decide ((300 : Int) < ((kv l).length : Int)) = false by
      rw [kv_len]
      exact decide_eq_false (by omega)]
    refine iteF ?_
    refine ⟨d, _, hd, trivial, fun od => ?_⟩
    refine ⟨_, rfl, d, od, rfl, .inl ⟨kv l, upd_same, fun D hD => ?_⟩⟩
    have nD : D ≠ d := fun e => by
      rw [e, upd_same] at hD
      cases hD
    refine lc_it walk_keys (fun i H' => H' D = some (.lst ((List.replicate i true).map V.bl)) ∧ But d H H' ∧ H' d = some (.frz od (.dK (kv l)))) ⟨upd_same, ?_, ?_⟩ (fun i H' _ hP => hP.2.2) ?_ ?_
    · intro b o e n
      have nb : b ≠ D := by
        rintro rfl
        rw [upd_ne n, e] at hD
        cases hD
      rw [upd_ne nb, upd_ne n]
      exact e
    · rw [upd_ne nD.symm]
      exact upd_same
    · rintro i x H1 H2 hi ⟨p1, p2, p3⟩ ⟨rfl, k, v, e, rfl⟩
      obtain ⟨p, ep, rfl, rfl⟩ := kv_at e
      have hp : p ∈ l := List.mem_of_getElem? ep
      rw [kv_len] at hi
      refine ⟨rfl, ?_⟩
      refine ⟨_, rfl, p.1, rfl, (hv.wd p hp).1, (hv.wd p hp).2, true, rfl, iteT ?_⟩
      refine ⟨_, rfl, _, rfl, d, .int p.2, rfl, .inl ⟨kv l, Sum.inr p.1, .inr ⟨od, p3⟩, rfl, ?_⟩, ?_⟩
      · rw [valV_yes (has_of ep), num_of hv.nd ep]
      · refine ⟨_, rfl, _, _, rfl, rfl, p.2, 1, c - 1, rfl, ?_⟩
        have hn := hv.nu p hp
        rw [decide_eq_true (show (1 : Int) ≤ p.2 from hn.1), decide_eq_true (show p.2 ≤ c - 1 by omega)]
        refine ⟨_, p1, ?_, ?_, ?_, ?_⟩
        · rw [List.length_map, List.length_replicate]
          omega
        · rw [upd_same, List.replicate_succ', List.map_append]
          rfl
        · intro b o e n
          have nb : b ≠ D := by
            rintro rfl
            rw [upd_ne n, e] at hD
            cases hD
          rw [upd_ne nb]
          exact p2 b o e n
        · rw [upd_ne nD.symm]
          exact p3
    · rintro H' ⟨p1, p2, p3⟩
      refine ⟨p3, D, List.replicate (kv l).length true, rfl, .inl (.inl ?_), ?_⟩
      · rw [upd_ne nD]
        exact p1
      · have e1 : (List.replicate (kv l).length true).all id = true := by
          rw [List.all_eq_true]
          intro b hb
          exact (List.mem_replicate.mp hb).2
        rw [e1]
        refine q _ fun b o e => ?_
        by_cases n : b = d
        · rw [n, upd_same, ← hd, ← n, e]
        · rw [upd_ne n]
          exact p2 b o e n
end
end Fp

set_option Elab.async false
set_option linter.all false
set_option maxRecDepth 100000
set_option maxHeartbeats 2000000
namespace L2
open PySem PySem.Spec PyProof.Rows
section
variable {X : Cx}
def rEqP (K : PySem.W.Frag) : R2 := fun x y H Q => ∃ d e, Dp K H x d ∧ Dp K H y e ∧ d.plain = true ∧ e.plain = true ∧ d.depth ≤ 64 ∧ Q (.bl (PyData.eqv d e)) H
theorem op_eqP (hu : X.A.units + 64 < cLine) : OpR X (compareOp .Eq) (rEqP X.K) := by
  intro pins s σ H x y v u Q I rx ry h
  obtain ⟨d, e, hd, he, sd, se, hdp, q⟩ := h
  obtain ⟨as, r1⟩ := Dp.reads I d x v hd rx
  obtain ⟨bs, r2⟩ := Dp.reads I e y u he ry
  exact SeqAt.eq_plain r1 r2 sd se (by omega) ⟨.bl _, H, I, rfl, q⟩
end
end L2
namespace Fp
open PySem PySem.Spec PyProof.Rows L2
/-! ### the tuple of pairs -/
def WordsAt (H : Hp) (t : Addr) (L : Tb) : Prop := ∃ (ps : List Addr) (o : Obj), H t = some (.frz o (.tup (ps.map V.ref))) ∧ PlainTup o ∧ Paired (fun p (q : Str × Int) => H p = some (.tup [.str q.1, .int q.2])) ps L
theorem WordsAt.but {a : Addr} {H H' : Hp} {t : Addr} {L : Tb} (h : WordsAt H t L) (k : But a H H') (ht : t ≠ a) (ha : ∀ xs, H a ≠ some (.tup xs)) : WordsAt H' t L := by
  obtain ⟨ps, o, h1, h2, h3⟩ := h
  exact ⟨ps, o, k _ _ h1 ht, h2, Paired.mapP h3 fun p q e => k _ _ e fun z => ha _ (z ▸ e)⟩
theorem WordsAt.same {H H' : Hp} {t : Addr} {L : Tb} (h : WordsAt H t L) (k : Same H H') : WordsAt H' t L := by
  obtain ⟨ps, o, h1, h2, h3⟩ := h
  exact ⟨ps, o, k _ _ h1, h2, Paired.mapP h3 fun p q e => k _ _ e⟩
/-- a table in the order of words -/
def ordW (l : Tb) : List Str := (l.map (·.1)).mergeSort leR
def canon (l : Tb) : Tb := (ordW l).map fun x => (x, num l x)
theorem ordW_len (l : Tb) : (ordW l).length = l.length := by
  unfold ordW
  rw [List.length_mergeSort, List.length_map]
theorem ordW_mem {l : Tb} {x : Str} : x ∈ ordW l ↔ x ∈ l.map (·.1) := by
  unfold ordW
  exact (List.mergeSort_perm _ _).mem_iff
/-- what a Bag is -/
def flds (c : Int) (t : Addr) : List (Str × V) := putF "words" (.ref t) (putF "clock" (.int c) [])
theorem kwc : ¬ (("clock" : Str) = "words") := by decide +kernel
theorem flds_eq (c : Int) (t : Addr) : flds c t = ([("clock", V.int c), ("words", V.ref t)] : List (Str × V)) := by
  show (if ("clock" : Str) = "words" then [(("words" : Str), V.ref t)] else (("clock" : Str), V.int c) :: putF "words" (.ref t) []) = _
  rw [if_neg kwc]
  all_goals rfl
theorem flds_clock (c : Int) (t : Addr) : (flds c t).lookup ("clock" : Str) = some (.int c) := by
  unfold flds
  rw [lookup_putF, if_neg kwc, lookup_putF, if_pos rfl]
theorem flds_words (c : Int) (t : Addr) : (flds c t).lookup ("words" : Str) = some (.ref t) := by
  unfold flds
  rw [lookup_putF, if_pos rfl]
def BagAt (K : PySem.W.Frag) (H : Hp) (b : Addr) (c : Int) (L : Tb) : Prop := ∃ dx t, H b = some (.ins (He.ga K "Bag") dx (flds c t)) ∧ WordsAt H t L
theorem BagAt.same {K : PySem.W.Frag} {H H' : Hp} {b : Addr} {c : Int} {L : Tb} (h : BagAt K H b c L) (k : Same H H') : BagAt K H' b c L := by
  obtain ⟨dx, t, h1, h2⟩ := h
  exact ⟨dx, t, k _ _ h1, h2.same k⟩
theorem BagAt.but {K : PySem.W.Frag} {a : Addr} {H H' : Hp} {b : Addr} {c : Int} {L : Tb} (h : BagAt K H b c L) (k : But a H H') (ha : ∃ xs, H a = some (.lst xs)) : BagAt K H' b c L := by
  obtain ⟨dx, t, h1, h2⟩ := h
  obtain ⟨xs, hx⟩ := ha
  obtain ⟨ps, o, e1, e2⟩ := id h2
  exact ⟨dx, t, k _ _ h1 (ne_of h1 hx (by intro z; cases z)), h2.but k (ne_of e1 hx (by intro z; cases z)) fun ys => by rw [hx]; intro z; cases z⟩
def dW (L : Tb) : PyData := .tuple (L.map fun p => .tuple [.str p.1, .int p.2])
theorem dp_words {K : PySem.W.Frag} {H : Hp} {t : Addr} {L : Tb} (h : WordsAt H t L) : Dp K H (.ref t) (dW L) := by
  obtain ⟨ps, o, h1, _, h3⟩ := h
  refine .tup (.inl (.inr ⟨o, h1⟩)) ?_
  clear h1
  induction h3 with
  | nil => exact .nil
  | cons e _ ih => exact .cons (.tup (.inl (.inl e)) (.cons (.str _) (.cons (.int _) .nil))) ih
theorem dW_plain (L : Tb) : (dW L).plain = true := by
  show PyData.plainAll (L.map fun p => .tuple [.str p.1, .int p.2]) = true
  induction L with
  | nil => rfl
  | cons p r ih =>
    rw [List.map_cons]
    simp only [PyData.plainAll, PyData.plain, Bool.and_self, Bool.true_and]
    exact ih
theorem dW_depth (L : Tb) : (dW L).depth ≤ 64 := by
  have h : PyData.depthAll (L.map fun p => PyData.tuple [.str p.1, .int p.2]) ≤ 3 := by
    induction L with
    | nil => simp [PyData.depthAll]
    | cons p r ih =>
      rw [List.map_cons]
      simp only [PyData.depthAll, PyData.depth]
      have : max 0 (max 0 0) = 0 := rfl
      omega
  show (PyData.tuple _).depth ≤ 64
  simp only [PyData.depth]
  omega
theorem dW_eqv : ∀ L M : Tb, PyData.eqv (dW L) (dW M) = decide (L = M) := by
  intro L M
  show PyData.eqvAll (L.map fun p => PyData.tuple [.str p.1, .int p.2]) (M.map fun p => PyData.tuple [.str p.1, .int p.2]) = decide (L = M)
  induction L generalizing M with
  | nil =>
    cases M with
    | nil => rfl
    | cons q s => simp [PyData.eqvAll]
  | cons p r ih =>
    cases M with
    | nil => simp [PyData.eqvAll]
    | cons q s =>
      rw [List.map_cons, List.map_cons]
      simp only [PyData.eqvAll, PyData.eqv, ih s]
      obtain ⟨x, n⟩ := p
      obtain ⟨y, m⟩ := q
      by_cases h1 : x = y <;> by_cases h2 : n = m <;> by_cases h3 : r = s <;> simp [h1, h2, h3]
section
variable {P : Program} {w : World} {K : PySem.W.Frag} {mg : Str → Option Value} {base : Heap}
def spPairs : Sp := fun vs H Q _ => ∃ (d : Addr) (l : Tb), vs = [.ref d] ∧ H d = some (.dK (kv l)) ∧ Nd l ∧ (∀ p ∈ l, p.1.length ≤ 1000000) ∧ l.length ≤ 1000000 ∧ ∀ H' t, Same H H' → H t = none → WordsAt H' t (canon l) → Q (.ref t) H'
abbrev nPairs : List Str := ["table", "word"]
theorem sc_pairs_of : FnScope nPairs ["table"] (defScope s_pairs_of) := ⟨rfl, rfl, rfl, by decide +kernel, rfl, by decide +kernel, by decide +kernel⟩
theorem ok_pairs_of (T : Top K mg) : Ok P w K mg base 2 "pairs_of" ["table"] spPairs := by
  obtain ⟨fd, F⟩ := fn_pairs_of T
  obtain ⟨fdR, FR⟩ := fn_rank_of T
  refine ⟨⟨fd, ?_, F.bindsN fun _ _ _ _ _ _ us hl => match us, hl with | [_], _ => rfl⟩, g_pairs_of T, F.kp⟩
  refine F.ok sc_pairs_of (fun vs H Q E h => ?_) (fun cdv A outer s H vs Q E hr h => ?_)
  · obtain ⟨d, l, rfl, _⟩ := h
    rfl
  · obtain ⟨d, l, rfl, hd, hnd, hwl, hll, q⟩ := h
    have hu := hu_of hr
    have nd := sc_pairs_of.nd
    have hs : sizeLine = 16777216 := sizeLine_eq
    refine ⟨_, PSs.nox (pss_one (ps_ret (pe_callTy call_tupleF (by rfl) (f_tuple T) (by decide +kernel) (pa_cons (pe_lc (own := [("word", 1)]) (g := gName 1) (tt := tYes) rfl nd
      (pi_list (pe_callBK (cr_sortRk rfl FR (f_len T) hr) (by rfl) (f_sorted T) (by decide +kernel) (pa_cons (pv 0) pa_nil) (pk_cons (pe_glob (v := .ref (He.ga K "rank_of")) rfl (g_rank_of T) rfl) pk_nil)))
      (blkOk_by (N := nPairs) (sc := defScope s_pairs_of) (by decide +kernel)) (fun _ _ _ _ _ => pg_name (i := 1) nd rfl (Or.inl rfl)) (fun _ _ _ _ _ => pts_nil)
      (fun _ _ _ _ _ => pe_tup (pa_cons (pv 1) (pa_cons (pe_dget hu (pv 0) (pv 1) (fun _ _ => rfl)) pa_nil)))) pa_nil)))), ?_⟩
    refine ⟨_, rfl, d, kv l, l.map (·.1), rfl, rfl, .inl hd, kv_keys l, ?_, fun S hS => ?_⟩
    · intro x hx
      obtain ⟨p, hp, rfl⟩ := List.mem_map.mp hx
      have := hwl p hp
      omega
    · refine ⟨S, rfl, ⟨_, .inl (.inl upd_same)⟩, fun D hD => ?_⟩
      have nDS : D ≠ S := fun e => by
        rw [e, upd_same] at hD
        cases hD
      have hD0 : H D = none := by
        rw [upd_ne nDS] at hD
        exact hD
      have nSd : d ≠ S := ne_of_none hd hS
      have nDd : d ≠ D := ne_of_none hd hD0
      refine lc_it (walk_list (xs := (ordW l).map V.str)) (fun i H' => ∃ ps : List Addr, H' D = some (.lst (ps.map V.ref)) ∧ ps.length = i ∧ Paired (fun p (q : Str × Int) => H' p = some (.tup [.str q.1, .int q.2])) ps ((canon l).take i) ∧ Same H H' ∧ H' S = some (.lst ((ordW l).map V.str)))
        ⟨[], upd_same, rfl, .nil, ?_, ?_⟩ (fun i H' _ hP => .inl (.inl hP.choose_spec.2.2.2.2)) ?_ ?_
      · intro b o e
        rw [upd_ne (ne_of_none e hD0), upd_ne (ne_of_none e hS)]
        exact e
      · rw [upd_ne nDS.symm]
        exact upd_same
      · rintro i x H1 H2 hi ⟨ps, p1, p2, p3, p4, p5⟩ ⟨rfl, e⟩
        rw [List.length_map, ordW_len] at hi
        rw [List.getElem?_map] at e
        cases ew : (ordW l)[i]? with
        | none => rw [ew] at e; cases e
        | some x0 =>
          rw [ew] at e
          have e2 : V.str x0 = x := Option.some.inj e
          subst e2
          have hx0 : x0 ∈ l.map (·.1) := ordW_mem.mp (List.mem_of_getElem? ew)
          refine ⟨rfl, ?_⟩
          refine ⟨_, rfl, _, rfl, _, rfl, d, .int (num l x0), rfl, .inl ⟨kv l, Sum.inr x0, .inl (p4 _ _ hd), rfl, (valV_yes (has_iff.mpr hx0)).symm⟩, ?_⟩
          refine ⟨by show 2 ≤ sizeLine; omega, fun p hp => ?_⟩
          have npD : D ≠ p := ne_of_none p1 hp
          have npS : S ≠ p := ne_of_none p5 hp
          refine ⟨ps.map V.ref, ?_, ?_, ps ++ [p], ?_, ?_, ?_, ?_, ?_⟩
          · rw [upd_ne npD]
            exact p1
          · rw [List.length_map]
            omega
          · rw [upd_same, List.map_append]
            rfl
          · rw [List.length_append, p2]
            rfl
          · have ec : (canon l).take (i + 1) = (canon l).take i ++ [(x0, num l x0)] := by
              rw [List.take_add_one]
              unfold canon
              rw [List.getElem?_map, ew]
              rfl
            rw [ec]
            refine Paired.snoc (Paired.mapP p3 fun a b z => ?_) ?_
            · have na : a ≠ D := ne_of z p1 (by intro y; cases y)
              rw [upd_ne na, upd_ne (ne_of_none z hp)]
              exact z
            · rw [upd_ne npD.symm]
              exact upd_same
          · intro b o z
            have nb : b ≠ D := ne_of_none z hD0
            rw [upd_ne nb, upd_ne (ne_of_none (p4 b o z) hp)]
            exact p4 b o z
          · rw [upd_ne nDS.symm, upd_ne npS]
            exact p5
      · rintro H' ⟨ps, p1, p2, p3, p4, p5⟩
        have en : ((ordW l).map V.str).length = (canon l).length := by
          unfold canon
          rw [List.length_map, List.length_map]
        rw [en, List.take_length] at p3
        refine ⟨D, ps.map V.ref, rfl, .inl (.inl p1), fun t o ht hpt => ?_⟩
        have ht0 : H t = none := by
          cases z : H t with
          | none => rfl
          | some u =>
            rw [p4 t u z] at ht
            cases ht
        refine q _ t (p4.trans (same_upd ht)) ht0 ⟨ps, o, upd_same, hpt, Paired.mapP p3 fun a b z => ?_⟩
        rw [upd_ne (ne_of_none z ht)]
        exact z
end
end Fp

set_option Elab.async false
set_option linter.all false
set_option maxRecDepth 100000
set_option maxHeartbeats 2000000
namespace Fp
open PySem PySem.Spec PyProof.Rows L2
section
variable {P : Program} {w : World} {K : PySem.W.Frag} {mg : Str → Option Value} {base : Heap}
def spInit (K : PySem.W.Frag) : Sp := fun vs H Q _ => ∃ (b d dx : Addr) (c : Int) (l : Tb), vs = [.ref b, .int c, .ref d] ∧ H b = some (.ins (He.ga K "Bag") dx []) ∧ isCk c ∧ H d = some (.dK (kv l)) ∧ VT c 12 300 l ∧
  ∀ H', But b H H' → BagAt K H' b c (canon l) → Q .non H'
abbrev nInit : List Str := ["self", "clock", "words"]
theorem sc_init : FnScope nInit nInit (defScope s_Bag__init__) := ⟨rfl, rfl, rfl, by decide +kernel, rfl, by decide +kernel, by decide +kernel⟩
theorem ok_init (T : Top K mg) : ∃ fd, FnOk P w K mg base CX0 5 (He.ma K (He.ga K "Bag") "__init__") fd nInit (spInit K) ∧ Binds K fd nInit [] := by
  obtain ⟨fd, F⟩ := fn_Bag__init__ T
  refine ⟨fd, ?_, F.bindsN fun _ _ _ _ _ _ us hl => match us, hl with | [_, _, _], _ => rfl⟩
  refine F.ok sc_init (fun vs H Q E h => ?_) (fun cdv A outer s H vs Q E hr h => ?_)
  · obtain ⟨b, d, dx, c, l, rfl, _⟩ := h
    rfl
  · obtain ⟨b, d, dx, c, l, rfl, hb, hc, hd, hv, q⟩ := h
    have hr2 : Room 2 _ := hr.mono (by decide)
    refine ⟨_, PSs.nox (pss_cons (ps_if (pt_not (pt_val (pc (ok_is_clock T) hr2 (pa_cons (pv 1) pa_nil)))) (pss_one ps_never) pss_nil)
      (pss_cons (ps_if (pt_not (pt_val (pc (ok_are_words T) hr (pa_cons (pv 1) (pa_cons (pv 2) pa_nil))))) (pss_one ps_never) pss_nil)
      (pss_cons (ps_fld (pv 0) (pv 1) rfl)
      (pss_one (ps_fld (pv 0) (pc (ok_pairs_of T) hr2 (pa_cons (pv 2) pa_nil)) rfl))))), ?_⟩
    refine ⟨_, rfl, c, rfl, hc, true, rfl, iteF ?_⟩
    refine ⟨_, rfl, _, rfl, c, d, l, rfl, hd, hv, fun H1 s1 => ⟨true, rfl, iteF ?_⟩⟩
    have nbd : b ≠ d := ne_of hb hd (by intro z; cases z)
    refine ⟨_, rfl, _, rfl, b, _, dx, [], rfl, s1 _ _ hb, cls_Bag T, na_Bag_clock T, by show 0 < 1000; decide, ?_⟩
    refine ⟨_, rfl, d, l, rfl, ?_, hv.nd, fun p hp => Nat.le_trans (hv.wd p hp).2 (by decide), Nat.le_trans hv.ln (by decide), fun H2 t s2 ht hw => ?_⟩
    · rw [upd_ne nbd.symm]
      exact s1 _ _ hd
    refine ⟨_, rfl, b, _, dx, _, rfl, s2 _ _ upd_same, cls_Bag T, na_Bag_words T, by show 1 < 1000; decide, ?_⟩
    have nt : t ≠ b := fun e => by
      rw [e, upd_same] at ht
      cases ht
    refine q _ (fun y o e n => ?_) ⟨dx, t, upd_same, ?_⟩
    · rw [upd_ne n]
      refine s2 _ _ ?_
      rw [upd_ne n]
      exact s1 _ _ e
    · exact hw.but (a := b) but_upd nt fun xs z => by
        rw [s2 _ _ upd_same] at z
        cases z
/-- Bag(c, d) -/
theorem pbag {X : Cx} {p pos : Pos} {e : Expr} {es : List Expr} {t : TA} (T : Top X.K X.mg) (hr : Room 6 X.A) (ha : PA X (e :: es) t) (hg : Gl X "Bag" := by rfl)
    (he : starEach (e :: es) X.env = (false, eval e X.env) :: starEach es X.env := by rfl) (hpl : (backTo pos (starEach es X.env)).any (·.1) = false := by rfl) : PE X (.Call (.Name "Bag" p) (e :: es) [] pos) (tMake (He.ga X.K "Bag") (spInit X.K) [] E0 t) := by
  obtain ⟨fd, F, b⟩ := ok_init (P := X.prog) (w := X.w) (base := X.base) T
  exact pe_make (mk_Bag T) F hr hg (g_Bag T) b .nil pass0 ha (by decide) he hpl
theorem bag_made {K : PySem.W.Frag} {H : Hp} {d : Addr} {c : Int} {l : Tb} {Q : VK} (hc : isCk c) (hd : H d = some (.dK (kv l))) (hv : VT c 12 300 l) (h : ∀ H' b, Same H H' → H b = none → BagAt K H' b c (canon l) → Q (.ref b) H') :
    ∀ x dx, H x = none → H dx = none → dx ≠ x → spInit K (.ref x :: ([.int c, .ref d] ++ [])) (upd (upd H dx (.own x)) x (.ins (He.ga K "Bag") dx [])) (fun v H2 => v = .non ∧ Q (.ref x) H2) E0 := fun x dx hx hdx ne => by
  refine ⟨x, d, dx, c, l, rfl, upd_same, hc, ?_, hv, fun H' k hb => ⟨rfl, h H' x (fun b o e => ?_) hx hb⟩⟩
  · rw [upd_ne (ne_of_none hd hx), upd_ne (ne_of_none hd hdx)]
    exact hd
  · refine k b o ?_ (ne_of_none e hx)
    rw [upd_ne (ne_of_none e hx), upd_ne (ne_of_none e hdx)]
    exact e
/-- what == answers -/
def spEqB (K : PySem.W.Frag) : Sp := fun vs H Q _ => ∃ (a : Addr) (y : V) (c : Int) (L : Tb), vs = [.ref a, y] ∧ BagAt K H a c L ∧
  ((∃ b c' M, y = .ref b ∧ BagAt K H b c' M ∧ Q (.bl (decide (c = c' ∧ L = M))) H) ∨ (∃ t, TyX K H y t ∧ PySem.W.kitOne K t (.ref (He.ga K "Bag")) = some false ∧ Q (.bl false) H))
abbrev nEq : List Str := ["self", "other"]
theorem sc_eq : FnScope nEq nEq (defScope s_Bag__eq__) := ⟨rfl, rfl, rfl, by decide +kernel, rfl, by decide +kernel, by decide +kernel⟩
theorem ok_eq (T : Top K mg) : ∃ fd, FnOk P w K mg base CX0 1 (He.ma K (He.ga K "Bag") "__eq__") fd nEq (spEqB K) ∧ Binds K fd nEq [] := by
  obtain ⟨fd, F⟩ := fn_Bag__eq__ T
  refine ⟨fd, ?_, F.bindsN fun _ _ _ _ _ _ us hl => match us, hl with | [_, _], _ => rfl⟩
  refine F.ok sc_eq (fun vs H Q E h => ?_) (fun cdv A outer s H vs Q E hr h => ?_)
  · obtain ⟨a, y, c, L, rfl, _⟩ := h
    rfl
  · obtain ⟨a, y, c, L, rfl, ⟨dx, t, ha, hw⟩, h⟩ := h
    refine ⟨_, PSs.nox (pss_one (ps_ret (pe_and (pe_callB call_isi (by rfl) (f_isinstance T) (by decide +kernel) (pa_cons (pv 1) (pa_cons (pe_glob (v := .ref (He.ga K "Bag")) rfl (g_Bag T) rfl) pa_nil)))
      (pe_and (pe_cmpR op_eq (pe_fld (pv 0) rfl) (pe_fld (pv 1) rfl) (nomark _)) (pe_one (pe_cmpR (op_eqP hr.units) (pe_fld (pv 0) rfl) (pe_fld (pv 1) rfl) (nomark _))))))), ?_⟩
    rcases h with ⟨b, c', M, rfl, ⟨dy, t', hb, hw'⟩, q⟩ | ⟨ty, hty, hk, q⟩
    · refine ⟨_, rfl, _, _, _, _, true, rfl, .own _, .base (.ins hb (cls_Bag T) (x_class T) (x_get T) (x_takes T) (x_mro T)), x_is T, true, rfl, iteT ?_⟩
      refine ⟨_, rfl, a, _, dx, _, _, rfl, ha, cls_Bag T, na_Bag_clock T, flds_clock _ _, _, rfl, b, _, dy, _, _, rfl, hb, cls_Bag T, na_Bag_clock T, flds_clock _ _, rfl, _, rfl, ?_⟩
      by_cases e : c = c'
      · rw [decide_eq_true (show V.int c = V.int c' by rw [e])]
        refine iteT ?_
        refine ⟨_, rfl, a, _, dx, _, _, rfl, ha, cls_Bag T, na_Bag_words T, flds_words _ _, _, rfl, b, _, dy, _, _, rfl, hb, cls_Bag T, na_Bag_words T, flds_words _ _, dW L, dW M, dp_words hw, dp_words hw', dW_plain L, dW_plain M, dW_depth L, ?_⟩
        rw [dW_eqv]
        have e2 : decide (c = c' ∧ L = M) = decide (L = M) := by simp [e]
        rw [e2] at q
        exact q
      · rw [decide_eq_false (show ¬ V.int c = V.int c' from fun z => e (by injection z))]
        refine iteF ?_
        rw [decide_eq_false (show ¬ (c = c' ∧ L = M) from fun z => e z.1)] at q
        exact q
    · exact ⟨_, rfl, y, _, ty, _, false, rfl, .own _, hty, hk, false, rfl, iteF q⟩
end
end Fp

set_option Elab.async false
set_option linter.all false
set_option maxRecDepth 100000
set_option maxHeartbeats 4000000
namespace Fp
open PySem PySem.Spec PyProof.Rows L2
/-! ### the hand: what is drawn from -/
def HandAt (ca : Addr) (H : Hp) (h : Addr) : Prop := ∃ (cs : List Int) (a l sd tn : Int), H h = some (.lst [.ref ca, .int a, .int l, .int sd, .int tn]) ∧ H ca = some (.lst (cs.map V.int)) ∧ cs.length ≤ 63 ∧ (∀ c ∈ cs, 0 ≤ c) ∧ 0 ≤ a ∧ 0 ≤ l
theorem HandAt.ne {H : Hp} {h ca : Addr} {cs : List Int} {a l sd tn : Int} (h1 : H h = some (.lst [.ref ca, .int a, .int l, .int sd, .int tn])) (h2 : H ca = some (.lst (cs.map V.int))) : ca ≠ h := by
  refine ne_of h2 h1 fun z => ?_
  injection z with z
  cases cs with
  | nil => cases z
  | cons c r =>
    rw [List.map_cons] at z
    injection z with z1
    cases z1
theorem HandAt.lst {ca : Addr} {H : Hp} {h : Addr} (x : HandAt ca H h) : ∃ xs, H h = some (.lst xs) := by
  obtain ⟨cs, a, l, sd, tn, h1, _⟩ := x
  exact ⟨_, h1⟩
theorem HandAt.but {ca : Addr} {H H' : Hp} {h d : Addr} (x : HandAt ca H h) (k : But d H H') (hd : ∀ xs, H d ≠ some (.lst xs)) : HandAt ca H' h := by
  obtain ⟨cs, a, l, sd, tn, h1, h2, r⟩ := x
  exact ⟨cs, a, l, sd, tn, k _ _ h1 (fun z => hd _ (z ▸ h1)), k _ _ h2 (fun z => hd _ (z ▸ h2)), r⟩
theorem HandAt.same {ca : Addr} {H H' : Hp} {h : Addr} (x : HandAt ca H h) (k : Same H H') : HandAt ca H' h := by
  obtain ⟨cs, a, l, sd, tn, h1, h2, r⟩ := x
  exact ⟨cs, a, l, sd, tn, k _ _ h1, k _ _ h2, r⟩
theorem HandAt.off {ca : Addr} {H H' : Hp} {h d : Addr} (x : HandAt ca H h) (k : But d H H') (h1 : h ≠ d) (h2 : ca ≠ d) : HandAt ca H' h := by
  obtain ⟨cs, a, l, sd, tn, g1, g2, r⟩ := x
  exact ⟨cs, a, l, sd, tn, k _ _ g1 h1, k _ _ g2 h2, r⟩
theorem HandAt.cells {ca : Addr} {H : Hp} {h : Addr} (x : HandAt ca H h) : ∃ xs, H ca = some (.lst xs) := by
  obtain ⟨cs, a, l, sd, tn, h1, h2, _⟩ := x
  exact ⟨_, h2⟩
theorem cut63 (ns : List Int) : cutV (ns.map V.int) none (some 63) = (ns.take 63).map V.int := by
  unfold cutV
  rw [show HT.sIx (ns.map V.int).length (ns.map V.int).length (some 63) = min 63 (ns.map V.int).length from HT.sIx_nat _ _ 63, HT.sIx_none, List.drop_zero, Nat.sub_zero, List.length_map, List.map_take]
  by_cases h : ns.length ≤ 63
  · rw [Nat.min_eq_right h, List.take_of_length_le (by rw [List.length_map]; exact Nat.le_refl _), List.take_of_length_le (by rw [List.length_map]; exact h)]
  · rw [Nat.min_eq_left (by omega)]
section
variable {P : Program} {w : World} {K : PySem.W.Frag} {mg : Str → Option Value} {base : Heap}
def spHand (K : PySem.W.Frag) : Sp := fun vs H Q _ => ∃ (a : Addr) (ns : List Int), vs = [.ref a] ∧ SqL K H a (ns.map V.int) ∧ ∀ H' h ca, Same H H' → H h = none → HandAt ca H' h → Q (.ref h) H'
abbrev nHand : List Str := ["_law_script", "_law_cells", "_law_cell"]
def spDraw : Sp := fun vs H Q _ => ∃ (h ca : Addr) (n : Int), vs = [.ref h, .int n] ∧ 0 < n ∧ n < 1073741824 ∧ HandAt ca H h ∧ ∀ (r : Int) (H' : Hp), 0 ≤ r → r < n → HandAt ca H' h → But h H H' → Q (.int r) H'
abbrev nDraw : List Str := ["_law_hand_here", "_law_many", "_law_cell", "_law_digit", "_law_number"]
end
end Fp

set_option Elab.async false
set_option linter.all false
set_option maxRecDepth 100000
set_option maxHeartbeats 4000000
namespace Fp
open PySem PySem.Spec PyProof.Rows L2
/-! ### the law's own reckoning with tables -/
def putM (c : Int) (l : Tb) (x : Str) (n : Int) : Tb := if (num l x + n) % c = 0 then dropT l x else putT l x ((num l x + n) % c)
def plusM (c : Int) (l1 l2 : Tb) (f : Int) : Tb := l2.foldl (fun acc p => putM c acc p.1 (f * p.2)) l1
def prodM (c : Int) (l1 l2 : Tb) : Tb := l1.foldl (fun acc p => l2.foldl (fun acc q => putM c acc (p.1 ++ q.1) (p.2 * q.2)) acc) []
theorem num_eq (l : Tb) (x : Str) : (valV (kv l) (Sum.inr x : Key)).getD (.int 0) = .int (num l x) := by
  cases e : has l x with
  | true => rw [valV_yes e] <;> rfl
  | false =>
    obtain ⟨h1, h2⟩ := valV_no e
    rw [h1, h2] <;> rfl
theorem dropT_no {l : Tb} {x : Str} (h : has l x = false) : dropT l x = l := by
  unfold dropT
  rw [List.filter_eq_self]
  intro p hp
  simp only [decide_eq_true_eq]
  intro e
  have : has l x = true := has_iff.mpr (List.mem_map.mpr ⟨p, hp, e⟩)
  rw [h] at this
  cases this
theorem len_putM (c : Int) (l : Tb) (x : Str) (n : Int) : (putM c l x n).length ≤ l.length + 1 := by
  unfold putM
  split
  · exact Nat.le_succ_of_le (List.length_filter_le _ _)
  · exact len_put _ _ _
theorem vt_putM {c : Int} {m k : Nat} {l : Tb} (hc : 0 < c) (hv : VT c m k l) {x : Str} (hx : xyz x) (hl : x.length ≤ m) (n : Int) : VT c m (k + 1) (putM c l x n) := by
  have h1 := Int.emod_nonneg (num l x + n) (show c ≠ 0 by omega)
  have h2 := Int.emod_lt_of_pos (num l x + n) hc
  refine ⟨?_, fun p hp => ?_, fun p hp => ?_, Nat.le_trans (len_putM c l x n) (Nat.succ_le_succ hv.ln)⟩
  · unfold putM
    split
    · exact nd_drop hv.nd x
    · exact nd_put hv.nd x _
  · unfold putM at hp
    split at hp
    · exact hv.nu p (List.mem_filter.mp hp).1
    · rename_i h0
      rcases mem_put hp with rfl | hp
      · exact ⟨by show 1 ≤ (num l x + n) % c; omega, h2⟩
      · exact hv.nu p hp
  · unfold putM at hp
    split at hp
    · exact hv.wd p (List.mem_filter.mp hp).1
    · rcases mem_put hp with rfl | hp
      · exact ⟨hx, hl⟩
      · exact hv.wd p hp
theorem vt_plusM {c : Int} {m k1 k2 : Nat} {l1 l2 : Tb} (hc : 0 < c) (h1 : VT c m k1 l1) (h2 : VT c m k2 l2) (f : Int) : VT c m (k1 + k2) (plusM c l1 l2 f) := by
  have key : ∀ (r : Tb) (acc : Tb) (k : Nat), (∀ p ∈ r, xyz p.1 ∧ p.1.length ≤ m) → VT c m k acc → VT c m (k + r.length) (r.foldl (fun acc p => putM c acc p.1 (f * p.2)) acc) := by
    intro r
    induction r with
    | nil => intro acc k _ h; exact h
    | cons p r ih =>
      intro acc k hw h
      have hp := hw p List.mem_cons_self
      have := ih _ (k + 1) (fun q hq => hw q (List.mem_cons_of_mem _ hq)) (vt_putM hc h hp.1 hp.2 (f * p.2))
      rw [List.length_cons, List.foldl_cons]
      exact this.mono (Nat.le_refl _) (by omega)
  exact (key l2 l1 k1 h2.wd h1).mono (Nat.le_refl _) (Nat.add_le_add_left h2.ln _)
theorem xyz_app {x y : Str} (hx : xyz x) (hy : xyz y) : xyz (x ++ y) := by
  intro c hc
  have e : (x ++ y).cps.toList = x.cps.toList ++ y.cps.toList := by
    show (x.cps ++ y.cps).toList = _
    simp
  rw [e] at hc
  rcases List.mem_append.mp hc with hc | hc
  · exact hx c hc
  · exact hy c hc
theorem len_app (x y : Str) : (x ++ y).length = x.length + y.length := by
  show (x.cps ++ y.cps).size = _
  simp [Str.length]
theorem vt_inner {c : Int} {m1 m2 : Nat} (hc : 0 < c) {p : Str × Int} (hp : xyz p.1 ∧ p.1.length ≤ m1) : ∀ (r : Tb) (acc : Tb) (k : Nat), (∀ q ∈ r, xyz q.1 ∧ q.1.length ≤ m2) → VT c (m1 + m2) k acc →
    VT c (m1 + m2) (k + r.length) (r.foldl (fun acc q => putM c acc (p.1 ++ q.1) (p.2 * q.2)) acc) := by
  intro r
  induction r with
  | nil => intro acc k _ h; exact h
  | cons q r ih =>
    intro acc k hw h
    have hq := hw q List.mem_cons_self
    have := ih _ (k + 1) (fun q hq => hw q (List.mem_cons_of_mem _ hq)) (vt_putM hc h (xyz_app hp.1 hq.1) (by rw [len_app]; exact Nat.add_le_add hp.2 hq.2) (p.2 * q.2))
    rw [List.length_cons, List.foldl_cons]
    exact this.mono (Nat.le_refl _) (by omega)
theorem vt_outer {c : Int} {m1 m2 : Nat} (hc : 0 < c) {l2 : Tb} (h2 : ∀ q ∈ l2, xyz q.1 ∧ q.1.length ≤ m2) : ∀ (r : Tb) (acc : Tb) (k : Nat), (∀ q ∈ r, xyz q.1 ∧ q.1.length ≤ m1) → VT c (m1 + m2) k acc →
    VT c (m1 + m2) (k + r.length * l2.length) (r.foldl (fun acc p => l2.foldl (fun acc q => putM c acc (p.1 ++ q.1) (p.2 * q.2)) acc) acc) := by
  intro r
  induction r with
  | nil => intro acc k _ h; simpa using h
  | cons q r ih =>
    intro acc k hw h
    have := ih _ (k + l2.length) (fun q hq => hw q (List.mem_cons_of_mem _ hq)) (vt_inner hc (hw q List.mem_cons_self) l2 acc k h2 h)
    rw [List.length_cons, List.foldl_cons]
    exact this.mono (Nat.le_refl _) (by rw [Nat.add_mul]; omega)
theorem vt_nil (c : Int) (m : Nat) : VT c m 0 [] := ⟨List.nodup_nil, fun p hp => (by cases hp), fun p hp => (by cases hp), Nat.le_refl _⟩
theorem vt_prodM {c : Int} {m1 m2 k1 k2 : Nat} {l1 l2 : Tb} (hc : 0 < c) (h1 : VT c m1 k1 l1) (h2 : VT c m2 k2 l2) : VT c (m1 + m2) (k1 * k2) (prodM c l1 l2) :=
  (vt_outer hc h2.wd l1 [] 0 h1.wd (vt_nil c _)).mono (Nat.le_refl _) (by rw [Nat.zero_add]; exact Nat.mul_le_mul h1.ln h2.ln)
theorem VT.of {c : Int} {m k m' k' : Nat} {l : Tb} (h : VT c m k l) (hm : ∀ p ∈ l, p.1.length ≤ m') (hk : l.length ≤ k') : VT c m' k' l := ⟨h.nd, h.nu, fun p hp => ⟨(h.wd p hp).1, hm p hp⟩, hk⟩
section
variable {P : Program} {w : World} {K : PySem.W.Frag} {mg : Str → Option Value} {base : Heap}
def spPut : Sp := fun vs H Q _ => ∃ (c : Int) (d : Addr) (x : Str) (n : Int) (l : Tb), vs = [.int c, .ref d, .str x, .int n] ∧ 0 < c ∧ H d = some (.dK (kv l)) ∧ l.length ≤ 1000000 ∧
  ∀ H', But d H H' → H' d = some (.dK (kv (putM c l x n))) → Q .non H'
abbrev nPut : List Str := ["_law_clock_here", "_law_bag", "_law_word_here", "_law_number", "_law_total"]
def spPlus : Sp := fun vs H Q _ => ∃ (c : Int) (d1 d2 : Addr) (f : Int) (l1 l2 : Tb), vs = [.int c, .ref d1, .ref d2, .int f] ∧ 0 < c ∧ c ≤ 7 ∧ H d1 = some (.dK (kv l1)) ∧ H d2 = some (.dK (kv l2)) ∧ Nd l2 ∧ (∀ p ∈ l2, 1 ≤ p.2 ∧ p.2 < c) ∧ l1.length ≤ 900000 ∧ l2.length ≤ 100000 ∧
  ∀ H' d, Same H H' → H d = none → H' d = some (.dK (kv (plusM c l1 l2 f))) → Q (.ref d) H'
abbrev nPlus : List Str := ["_law_clock_here", "_law_one", "_law_other", "_law_factor", "_law_found", "_law_word_here"]
theorem len_plusM (c f : Int) : ∀ (l2 l1 : Tb), (plusM c l1 l2 f).length ≤ l1.length + l2.length
  | [], l1 => Nat.le_refl _
  | p :: r, l1 => by
    have h1 := len_plusM c f r (putM c l1 p.1 (f * p.2))
    have h2 := len_putM c l1 p.1 (f * p.2)
    have e : plusM c l1 (p :: r) f = plusM c (putM c l1 p.1 (f * p.2)) r f := rfl
    rw [e, List.length_cons]
    omega
theorem plusM_take (c f : Int) (l1 l2 : Tb) {i : Nat} {p : Str × Int} (e : l2[i]? = some p) : plusM c l1 (l2.take (i + 1)) f = putM c (plusM c l1 (l2.take i) f) p.1 (f * p.2) := by
  unfold plusM
  rw [List.take_add_one, e, List.foldl_append]
  rfl
end
end Fp

set_option Elab.async false
set_option linter.all false
set_option maxRecDepth 100000
set_option maxHeartbeats 4000000
namespace Fp
open PySem PySem.Spec PyProof.Rows L2
theorem vt_len {c : Int} {m k : Nat} {l : Tb} (h : VT c m k l) : l.length ≤ k := h.ln
theorem inner_take (c : Int) (acc l2 : Tb) (p : Str × Int) {j : Nat} {q : Str × Int} (e : l2[j]? = some q) :
    (l2.take (j + 1)).foldl (fun acc q => putM c acc (p.1 ++ q.1) (p.2 * q.2)) acc = putM c ((l2.take j).foldl (fun acc q => putM c acc (p.1 ++ q.1) (p.2 * q.2)) acc) (p.1 ++ q.1) (p.2 * q.2) := by
  rw [List.take_add_one, e, List.foldl_append]
  rfl
theorem prodM_take (c : Int) (l1 l2 : Tb) {i : Nat} {p : Str × Int} (e : l1[i]? = some p) : prodM c (l1.take (i + 1)) l2 = l2.foldl (fun acc q => putM c acc (p.1 ++ q.1) (p.2 * q.2)) (prodM c (l1.take i) l2) := by
  unfold prodM
  rw [List.take_add_one, e, List.foldl_append]
  rfl
theorem len_inner (c : Int) (p : Str × Int) : ∀ (r acc : Tb), (r.foldl (fun acc q => putM c acc (p.1 ++ q.1) (p.2 * q.2)) acc).length ≤ acc.length + r.length
  | [], acc => Nat.le_refl _
  | q :: r, acc => by
    have h1 := len_inner c p r (putM c acc (p.1 ++ q.1) (p.2 * q.2))
    have h2 := len_putM c acc (p.1 ++ q.1) (p.2 * q.2)
    rw [List.foldl_cons, List.length_cons]
    omega
theorem len_prodM (c : Int) (l2 : Tb) : ∀ (r acc : Tb), (r.foldl (fun acc p => l2.foldl (fun acc q => putM c acc (p.1 ++ q.1) (p.2 * q.2)) acc) acc).length ≤ acc.length + r.length * l2.length
  | [], acc => by simp
  | p :: r, acc => by
    have h1 := len_prodM c l2 r (l2.foldl (fun acc q => putM c acc (p.1 ++ q.1) (p.2 * q.2)) acc)
    have h2 := len_inner c p l2 acc
    rw [List.foldl_cons, List.length_cons, Nat.add_mul]
    omega
section
variable {P : Program} {w : World} {K : PySem.W.Frag} {mg : Str → Option Value} {base : Heap}
def spProd : Sp := fun vs H Q _ => ∃ (c : Int) (d1 d2 : Addr) (m1 m2 : Nat) (l1 l2 : Tb), vs = [.int c, .ref d1, .ref d2] ∧ 0 < c ∧ c ≤ 7 ∧ d1 ≠ d2 ∧ H d1 = some (.dK (kv l1)) ∧ H d2 = some (.dK (kv l2)) ∧ VT c m1 1000 l1 ∧ VT c m2 1000 l2 ∧ m1 ≤ 1000 ∧ m2 ≤ 1000 ∧
  ∀ H' d, Same H H' → H d = none → H' d = some (.dK (kv (prodM c l1 l2))) → Q (.ref d) H'
abbrev nProd : List Str := ["_law_clock_here", "_law_one", "_law_other", "_law_found", "_law_front", "_law_back"]
end
end Fp

set_option Elab.async false
set_option linter.all false
set_option maxRecDepth 100000
set_option maxHeartbeats 4000000
namespace Fp
open PySem PySem.Spec PyProof.Rows L2
theorem leIS_rk {a b : IS} (ha : a.2.1 = -(a.2.2.length : Int)) (hb : b.2.1 = -(b.2.2.length : Int)) : leIS a b = leR a.2.2 b.2.2 := by
  have e1 : enIS a = rk a.2.2 := by
    unfold enIS rk
    rw [ha]
  have e2 : enIS b = rk b.2.2 := by
    unfold enIS rk
    rw [hb]
  unfold leIS leR
  rw [PySem.W.dataLe_eq, PySem.W.dataLe_eq]
  simp only [e1, e2]
theorem sort_words {ps : List IS} (h : ∀ p ∈ ps, p.2.1 = -(p.2.2.length : Int)) : (ps.mergeSort leIS).map (·.2.2) = (ps.map (·.2.2)).mergeSort leR :=
  PySem.W.sort_maps (·.2.2) fun a ha b hb => leIS_rk (h a ha) (h b hb)
section
variable {P : Program} {w : World} {K : PySem.W.Frag} {mg : Str → Option Value} {base : Heap}
def spOrder : Sp := fun vs H Q _ => ∃ (d : Addr) (l : Tb), vs = [.ref d] ∧ H d = some (.dK (kv l)) ∧ (∀ p ∈ l, p.1.length ≤ 1000000) ∧ l.length ≤ 1000000 ∧ ∀ H' D, Same H H' → H D = none → H' D = some (.lst ((ordW l).map V.str)) → Q (.ref D) H'
abbrev nOrder : List Str := ["_law_bag", "_law_pair", "_law_word_here"]
def spCk : Sp := fun vs H Q _ => ∃ h ca : Addr, vs = [.ref h] ∧ HandAt ca H h ∧ ∀ H' c, HandAt ca H' h → But h H H' → isCk c → Q (.int c) H'
end
end Fp

set_option Elab.async false
set_option linter.all false
set_option maxRecDepth 100000
set_option maxHeartbeats 4000000
namespace Fp
open PySem PySem.Spec PyProof.Rows L2 TL
/-! ### words drawn -/
theorem join_signs : ∀ ys : List Str, (∀ y ∈ ys, ∃ c, y = ⟨#[c]⟩ ∧ (c = 120 ∨ c = 121 ∨ c = 122)) → xyz (PySem.Txt.join "" ys) ∧ (PySem.Txt.join "" ys).length = ys.length := by
  intro ys
  have h0 : ∀ zs : List Str, (∀ y ∈ zs, ∃ c, y = ⟨#[c]⟩ ∧ (c = 120 ∨ c = 121 ∨ c = 122)) → (∀ c ∈ joinL [] (zs.map tl), c = 120 ∨ c = 121 ∨ c = 122) ∧ (joinL [] (zs.map tl)).length = zs.length := by
    intro zs
    induction zs with
    | nil => intro _; exact ⟨fun c hc => (by cases hc), rfl⟩
    | cons y r ih =>
      intro h
      obtain ⟨c, rfl, hc⟩ := h y List.mem_cons_self
      obtain ⟨i1, i2⟩ := ih fun z hz => h z (List.mem_cons_of_mem _ hz)
      cases r with
      | nil =>
        refine ⟨fun d hd => ?_, rfl⟩
        have : d = c := by simpa [joinL, tl] using hd
        rw [this]
        exact hc
      | cons z r =>
        have e : joinL [] ((⟨#[c]⟩ :: z :: r : List Str).map tl) = c :: joinL [] ((z :: r).map tl) := rfl
        rw [e]
        refine ⟨fun d hd => ?_, by rw [List.length_cons, i2]; rfl⟩
        rcases List.mem_cons.mp hd with rfl | hd
        · exact hc
        · exact i1 d hd
  intro h
  obtain ⟨h1, h2⟩ := h0 ys h
  have e : tl (PySem.Txt.join "" ys) = joinL [] (ys.map tl) := by
    rw [join_eq, tl_join]
    rfl
  refine ⟨fun c hc => h1 c ?_, ?_⟩
  · rw [← e]
    exact hc
  · rw [len_tl, e, h2]
theorem vt_put {c : Int} {m k : Nat} {l : Tb} (hv : VT c m k l) {x : Str} (hx : xyz x) (hl : x.length ≤ m) {n : Int} (h1 : 1 ≤ n) (h2 : n < c) : VT c m (k + 1) (putT l x n) := by
  refine ⟨nd_put hv.nd x n, fun p hp => ?_, fun p hp => ?_, Nat.le_trans (len_put l x n) (Nat.succ_le_succ hv.ln)⟩
  · rcases mem_put hp with rfl | hp
    · exact ⟨h1, h2⟩
    · exact hv.nu p hp
  · rcases mem_put hp with rfl | hp
    · exact ⟨hx, hl⟩
    · exact hv.wd p hp
section
variable {P : Program} {w : World} {K : PySem.W.Frag} {mg : Str → Option Value} {base : Heap}
def spWrd : Sp := fun vs H Q _ => ∃ (h ca : Addr) (z : Str) (m : Nat), vs = [.ref h, .str z, .int m] ∧ HandAt ca H h ∧ xyz z ∧ 1 ≤ z.length ∧ z.length ≤ 1000 ∧ m ≤ 1000 ∧ ∀ H' r, HandAt ca H' h → But h H H' → xyz r → r.length ≤ m → Q (.str r) H'
abbrev nWrd : List Str := ["_law_hand_here", "_law_letters", "_law_most", "_law_turn"]
end
end Fp

set_option Elab.async false
set_option linter.all false
set_option maxRecDepth 100000
set_option maxHeartbeats 4000000
namespace Fp
open PySem PySem.Spec PyProof.Rows L2
instance (w : Str) : Decidable (xyz w) := by unfold xyz; infer_instance
theorem merge_kv' : ∀ (l a : Tb), Nd l → (∀ p ∈ l, has a p.1 = false) → mergeK (kv a) (kv l) = kv (a ++ l)
  | [], a, _, _ => by
    rw [List.append_nil]
    rfl
  | p :: r, a, h, hd => by
    have h' : (p.1 :: r.map (·.1)).Nodup := h
    obtain ⟨h1, h2⟩ := List.nodup_cons.mp h'
    have e : mergeK (kv a) (kv (p :: r)) = mergeK (putK (kv a) (Sum.inr p.1 : Key) (.int p.2)) (kv r) := rfl
    have e2 : putT a p.1 p.2 = a ++ [p] := by
      unfold putT
      rw [hd p List.mem_cons_self, if_neg Bool.false_ne_true]
    rw [e, putK_kv, e2, merge_kv' r (a ++ [p]) h2 fun q hq => ?_]
    · rw [List.append_assoc]
      rfl
    · unfold has
      rw [List.any_append]
      have h3 := hd q (List.mem_cons_of_mem _ hq)
      unfold has at h3
      rw [h3]
      have : p.1 ≠ q.1 := fun z => h1 (z ▸ List.mem_map.mpr ⟨q, hq, rfl⟩)
      simp [this]
theorem merge_kv {l : Tb} (h : Nd l) : mergeK [] (kv l) = kv l := merge_kv' l [] h fun _ _ => rfl
theorem vt_small {c : Int} {l : Tb} (hk : Nd l) (hw : ∀ x ∈ l.map (·.1), xyz x ∧ x.length ≤ 2) (hn : ∀ p ∈ l, 1 ≤ p.2 ∧ p.2 < c) (hl : l.length ≤ 3) : VT c 2 3 l :=
  ⟨hk, hn, fun p hp => hw _ (List.mem_map.mpr ⟨p, hp, rfl⟩), hl⟩
theorem vt1 {c n : Int} {a : Str} (ha : xyz a ∧ a.length ≤ 2) (h1 : 1 ≤ n) (h2 : n < c) : VT c 2 3 [(a, n)] := by
  refine ⟨by show [a].Nodup; simp, fun p hp => ?_, fun p hp => ?_, by show 1 ≤ 3; decide⟩
  · have : p = (a, n) := by simpa using hp
    subst this
    exact ⟨h1, h2⟩
  · have : p = (a, n) := by simpa using hp
    subst this
    exact ha
theorem vt2 {c n m : Int} {a b : Str} (hne : a ≠ b) (ha : xyz a ∧ a.length ≤ 2) (hb : xyz b ∧ b.length ≤ 2) (h1 : 1 ≤ n ∧ n < c) (h2 : 1 ≤ m ∧ m < c) : VT c 2 3 [(a, n), (b, m)] := by
  refine ⟨by show [a, b].Nodup; simp [hne], fun p hp => ?_, fun p hp => ?_, by show 2 ≤ 3; decide⟩
  · have hp' : p = (a, n) ∨ p = (b, m) := by simpa using hp
    rcases hp' with rfl | rfl
    · exact h1
    · exact h2
  · have hp' : p = (a, n) ∨ p = (b, m) := by simpa using hp
    rcases hp' with rfl | rfl
    · exact ha
    · exact hb
theorem vt3 {c n m k : Int} {a b d : Str} (hn : ([a, b, d] : List Str).Nodup) (ha : xyz a ∧ a.length ≤ 2) (hb : xyz b ∧ b.length ≤ 2) (hd : xyz d ∧ d.length ≤ 2) (h1 : 1 ≤ n ∧ n < c) (h2 : 1 ≤ m ∧ m < c) (h3 : 1 ≤ k ∧ k < c) : VT c 2 3 [(a, n), (b, m), (d, k)] := by
  refine ⟨hn, fun p hp => ?_, fun p hp => ?_, by show 3 ≤ 3; decide⟩
  · have hp' : p = (a, n) ∨ p = (b, m) ∨ p = (d, k) := by simpa using hp
    rcases hp' with rfl | rfl | rfl
    · exact h1
    · exact h2
    · exact h3
  · have hp' : p = (a, n) ∨ p = (b, m) ∨ p = (d, k) := by simpa using hp
    rcases hp' with rfl | rfl | rfl
    · exact ha
    · exact hb
    · exact hd
section
variable {P : Program} {w : World} {K : PySem.W.Frag} {mg : Str → Option Value} {base : Heap}
def spLot : Sp := fun vs H Q _ => ∃ (h ca : Addr) (c : Int) (z : Str) (m k : Nat), vs = [.ref h, .int c, .str z, .int m, .int k] ∧ HandAt ca H h ∧ 2 ≤ c ∧ c ≤ 7 ∧ xyz z ∧ 1 ≤ z.length ∧ z.length ≤ 1000 ∧ m ≤ 1000 ∧ k ≤ 1000 ∧
  ∀ H' d l, HandAt ca H' h → But h H H' → H d = none → H' d = some (.dK (kv l)) → VT c m k l → Q (.ref d) H'
abbrev nLot : List Str := ["_law_hand_here", "_law_clock_here", "_law_letters", "_law_most", "_law_many", "_law_found", "_law_turn"]
def spSmall : Sp := fun vs H Q _ => ∃ (h ca : Addr) (c : Int), vs = [.ref h, .int c] ∧ HandAt ca H h ∧ 2 ≤ c ∧ c ≤ 7 ∧ ∀ H' d l, HandAt ca H' h → But h H H' → H d = none → H' d = some (.dK (kv l)) → VT c 2 3 l → l ≠ [] → Q (.ref d) H'
/-- what is known of each of the small ones -/
def Good (c : Int) (H0 H : Hp) (d : Addr) : Prop := ∃ l, H d = some (.dK (kv l)) ∧ VT c 2 3 l ∧ H0 d = none ∧ l ≠ []
theorem Good.same {c : Int} {H0 H H' : Hp} {d : Addr} (g : Good c H0 H d) (s : Same H H') : Good c H0 H' d := by
  obtain ⟨l, h1, h2, h3, h4⟩ := g
  exact ⟨l, s _ _ h1, h2, h3, h4⟩
/-- one more display -/
theorem one_more {c : Int} {H0 H : Hp} {ds : List Addr} {p : Addr} {l : Tb} (s0 : Same H0 H) (hp : H p = none) (g : ∀ d ∈ ds, Good c H0 H d) (hv : VT c 2 3 l) (hne : l ≠ [] := by exact List.cons_ne_nil _ _) :
    Same H0 (upd H p (.dK (kv l))) ∧ ∀ d ∈ ds ++ [p], Good c H0 (upd H p (.dK (kv l))) d := by
  refine ⟨s0.trans (same_upd hp), fun d hd => ?_⟩
  rcases List.mem_append.mp hd with hd | hd
  · exact (g d hd).same (same_upd hp)
  · have : d = p := by simpa using hd
    subst this
    exact ⟨l, upd_same, hv, s0.free hp, hne⟩
theorem one_list {c : Int} {H0 H : Hp} {ds : List Addr} {p : Addr} {xs : List V} (s0 : Same H0 H) (hp : H p = none) (g : ∀ d ∈ ds, Good c H0 H d) :
    Same H0 (upd H p (.lst xs)) ∧ ∀ d ∈ ds, Good c H0 (upd H p (.lst xs)) d := ⟨s0.trans (same_upd hp), fun d hd => (g d hd).same (same_upd hp)⟩
abbrev nSmall : List Str := ["_law_hand_here", "_law_clock_here", "_law_number", "_law_some_here"]
end
end Fp

set_option Elab.async false
set_option linter.all false
set_option maxRecDepth 100000
set_option maxHeartbeats 4000000
namespace Fp
open PySem PySem.Spec PyProof.Rows L2
section
variable {P : Program} {w : World} {K : PySem.W.Frag} {mg : Str → Option Value} {base : Heap}
def spWoven : Sp := fun vs H Q _ => ∃ (h ca : Addr) (c k : Int), vs = [.ref h, .int c, .int k] ∧ HandAt ca H h ∧ 2 ≤ c ∧ c ≤ 7 ∧ 1 ≤ k ∧ k ≤ 1000 ∧ ∀ H' d l, HandAt ca H' h → But h H H' → H d = none → H' d = some (.dK (kv l)) → VT c 7 120 l → Q (.ref d) H'
abbrev nWoven : List Str := ["_law_hand_here", "_law_clock_here", "_law_most", "_law_found", "_law_turn", "_law_one", "_law_other", "_law_longer", "_law_word_here"]
/-- a new thing stands apart from what stood -/
theorem But.ne {a : Addr} {H H' : Hp} (k : But a H H') {p q : Addr} {o : HO} (hp : H p = some o) (np : p ≠ a) (hq : H' q = none) : p ≠ q := ne_of_none (k _ _ hp np) hq
theorem HandAt.neD {ca : Addr} {H : Hp} {h d : Addr} {kvs : List (Key × V)} (x : HandAt ca H h) (hd : H d = some (.dK kvs)) : d ≠ h := by
  obtain ⟨xs, hx⟩ := x.lst
  exact ne_of hd hx (by intro z; cases z)
end
end Fp

set_option Elab.async false
set_option linter.all false
set_option maxRecDepth 100000
set_option maxHeartbeats 4000000
namespace Fp
open PySem PySem.Spec PyProof.Rows L2
/-! ### the order of words: total, no two alike -/
theorem leR_total : PySem.W.TotalLe leR := PySem.W.sortLe_total (listOrd itemOrd) false fun b => PySem.W.keyToks (rk b)
theorem rk_inj {a b : Str} (h : PySem.W.keyToks (rk a) = PySem.W.keyToks (rk b)) : a = b := by
  unfold rk at h
  simp only [PySem.W.keyToks, PySem.W.keyToksAll] at h
  have : a.cps.toList = b.cps.toList := by simp at h; rw [h.2]
  exact PySem.W.str_of_cps this
theorem leR_anti {a b : Str} (h1 : leR a b = true) (h2 : leR b a = true) : a = b := by
  have e1 : PySem.W.dataLt (rk b) (rk a) = false := by
    have : (!PySem.W.dataLt (rk b) (rk a)) = true := h1
    simpa using this
  have e2 : PySem.W.dataLt (rk a) (rk b) = false := by
    have : (!PySem.W.dataLt (rk a) (rk b)) = true := h2
    simpa using this
  exact rk_inj ((listOrd itemOrd).total _ _ e2 e1)
theorem ord_perm {l m : List Str} (h : l.Perm m) : l.mergeSort leR = m.mergeSort leR :=
  List.Perm.eq_of_pairwise (le := fun a b => leR a b = true) (fun a b _ _ h1 h2 => leR_anti h1 h2) (PySem.W.sort_pairwise leR_total l) (PySem.W.sort_pairwise leR_total m)
    (((List.mergeSort_perm l leR).trans h).trans (List.mergeSort_perm m leR).symm)
/-! ### tables in order -/
theorem num_find {l : Tb} (h : Nd l) {p : Str × Int} (hp : p ∈ l) : num l p.1 = p.2 := by
  obtain ⟨i, hi, e⟩ := List.mem_iff_getElem.mp hp
  exact num_of h (i := i) (by rw [List.getElem?_eq_getElem hi, e])
theorem num_not {l : Tb} {x : Str} (h : x ∉ l.map (·.1)) : num l x = 0 := by
  refine (valV_no ?_).2
  cases e : has l x with
  | false => rfl
  | true => exact absurd (has_iff.mp e) h
theorem canon_keys (l : Tb) : (canon l).map (·.1) = ordW l := by
  unfold canon
  rw [List.map_map]
  exact List.map_id' _
theorem canon_nd {l : Tb} (h : Nd l) : Nd (canon l) := by
  unfold Nd
  rw [canon_keys]
  exact (List.mergeSort_perm _ _).nodup_iff.mpr h
theorem canon_mem {l : Tb} {p : Str × Int} (h : p ∈ canon l) : p.1 ∈ l.map (·.1) ∧ p.2 = num l p.1 := by
  unfold canon at h
  obtain ⟨x, hx, rfl⟩ := List.mem_map.mp h
  exact ⟨ordW_mem.mp hx, rfl⟩
theorem canon_num {l : Tb} (h : Nd l) (x : Str) : num (canon l) x = num l x := by
  by_cases hx : x ∈ l.map (·.1)
  · have hm : (x, num l x) ∈ canon l := by
      unfold canon
      exact List.mem_map.mpr ⟨x, ordW_mem.mpr hx, rfl⟩
    exact num_find (canon_nd h) hm
  · rw [num_not hx, num_not]
    rw [canon_keys]
    exact fun z => hx (ordW_mem.mp z)
/-- the same words with the same numbers: the same in order -/
theorem canon_eq {l m : Tb} (hl : Nd l) (hm : Nd m) (hk : ∀ x, x ∈ l.map (·.1) ↔ x ∈ m.map (·.1)) (hn : ∀ x, num l x = num m x) : canon l = canon m := by
  have e : ordW l = ordW m := ord_perm ((List.perm_ext_iff_of_nodup hl hm).mpr hk)
  unfold canon
  rw [e]
  exact List.map_congr_left fun x _ => by rw [hn x]
theorem canon_canon {l : Tb} (h : Nd l) : canon (canon l) = canon l :=
  canon_eq (canon_nd h) h (fun x => by rw [canon_keys]; exact ordW_mem) (canon_num h)
theorem vt_canon {c : Int} {m k : Nat} {l : Tb} (h : VT c m k l) : VT c m k (canon l) := by
  have key : ∀ p ∈ canon l, p ∈ l := fun p hp => by
    obtain ⟨h1, h2⟩ := canon_mem hp
    obtain ⟨q, hq, e⟩ := List.mem_map.mp h1
    have := num_find h.nd hq
    have : p = q := by
      obtain ⟨a, b⟩ := p
      obtain ⟨a', b'⟩ := q
      simp only at e h2 this
      subst e
      rw [h2, this]
    rw [this]
    exact hq
  refine ⟨canon_nd h.nd, fun p hp => h.nu p (key p hp), fun p hp => h.wd p (key p hp), ?_⟩
  have : (canon l).length = l.length := by
    unfold canon
    rw [List.length_map, ordW_len]
  rw [this]
  exact h.ln
/-- a number changed: not the same -/
theorem canon_ne {l m : Tb} (hl : Nd l) (hm : Nd m) {x : Str} (h : num l x ≠ num m x) : canon l ≠ canon m := fun e => h (by rw [← canon_num hl, ← canon_num hm, e])
theorem num_put {l : Tb} (x : Str) (n : Int) : num (putT l x n) x = n := by
  unfold putT
  cases e : has l x with
  | true =>
    rw [if_pos rfl]
    unfold num
    have : ∀ r : Tb, has r x = true → ((r.map fun p => if p.1 = x then (p.1, n) else p).find? fun p => decide (p.1 = x)).map (·.2) = some n := by
      intro r
      induction r with
      | nil => intro h; cases h
      | cons p r ih =>
        intro h
        by_cases hp : p.1 = x
        · rw [List.map_cons, if_pos hp, List.find?_cons_of_pos (by simpa using hp)]
          rfl
        · rw [List.map_cons, if_neg hp, List.find?_cons_of_neg (by simpa using hp)]
          refine ih ?_
          unfold has at h ⊢
          rw [List.any_cons] at h
          simpa [hp] using h
    rw [this l e]
    rfl
  | false =>
    rw [if_neg Bool.false_ne_true]
    unfold num
    rw [List.find?_append]
    have : l.find? (fun p => decide (p.1 = x)) = none := by
      rw [has_find] at e
      cases z : l.find? fun p => decide (p.1 = x) with
      | none => rfl
      | some p => rw [z] at e; cases e
    rw [this]
    simp
theorem num_drop {l : Tb} (x : Str) : num (dropT l x) x = 0 := by
  refine num_not fun h => ?_
  obtain ⟨p, hp, e⟩ := List.mem_map.mp h
  have := (List.mem_filter.mp hp).2
  simp [e] at this
theorem num_putM (c : Int) (l : Tb) (x : Str) (n : Int) : num (putM c l x n) x = (num l x + n) % c := by
  unfold putM
  split
  · rename_i h
    rw [num_drop, h]
  · exact num_put x _
theorem num_range {c : Int} {m k : Nat} {l : Tb} (hc : 0 < c) (h : VT c m k l) (x : Str) : 0 ≤ num l x ∧ num l x < c := by
  by_cases hx : x ∈ l.map (·.1)
  · obtain ⟨p, hp, rfl⟩ := List.mem_map.mp hx
    rw [num_find h.nd hp]
    have := h.nu p hp
    omega
  · rw [num_not hx]
    omega
/-- words put in backward -/
theorem puts_new : ∀ (xs : List Str) (f : Str → Int) (a : Tb), (a.map (·.1) ++ xs).Nodup → xs.foldl (fun a x => putT a x (f x)) a = a ++ xs.map fun x => (x, f x)
  | [], f, a, _ => by simp
  | x :: r, f, a, h => by
    have h1 : x ∉ a.map (·.1) := fun z => by
      have := (List.nodup_append.mp h).2.2 x z x List.mem_cons_self
      exact this rfl
    have e : putT a x (f x) = a ++ [(x, f x)] := by
      unfold putT
      have : has a x = false := by
        cases z : has a x with
        | false => rfl
        | true => exact absurd (has_iff.mp z) h1
      rw [this, if_neg Bool.false_ne_true]
    rw [List.foldl_cons, e, puts_new r f _ (by rw [List.map_append, List.append_assoc]; exact h), List.map_cons, List.append_assoc]
    rfl
def backT (l : Tb) : Tb := (ordW l).reverse.map fun x => (x, num l x)
theorem backT_keys (l : Tb) : (backT l).map (·.1) = (ordW l).reverse := by
  unfold backT
  rw [List.map_map]
  exact List.map_id' _
theorem ordW_nd {l : Tb} (h : Nd l) : (ordW l).Nodup := (List.mergeSort_perm _ _).nodup_iff.mpr h
theorem backT_nd {l : Tb} (h : Nd l) : Nd (backT l) := by
  unfold Nd
  rw [backT_keys]
  exact (List.reverse_perm _).nodup_iff.mpr (ordW_nd h)
theorem backT_num {l : Tb} (h : Nd l) (x : Str) : num (backT l) x = num l x := by
  by_cases hx : x ∈ l.map (·.1)
  · have hm : (x, num l x) ∈ backT l := by
      unfold backT
      exact List.mem_map.mpr ⟨x, List.mem_reverse.mpr (ordW_mem.mpr hx), rfl⟩
    exact num_find (backT_nd h) hm
  · rw [num_not hx, num_not]
    rw [backT_keys]
    exact fun z => hx (ordW_mem.mp (List.mem_reverse.mp z))
theorem backT_canon {l : Tb} (h : Nd l) : canon (backT l) = canon l :=
  canon_eq (backT_nd h) h (fun x => by rw [backT_keys, List.mem_reverse]; exact ordW_mem) (backT_num h)
theorem vt_back {c : Int} {m k : Nat} {l : Tb} (h : VT c m k l) : VT c m k (backT l) := by
  have key : ∀ p ∈ backT l, p ∈ l := fun p hp => by
    unfold backT at hp
    obtain ⟨x, hx, rfl⟩ := List.mem_map.mp hp
    obtain ⟨q, hq, e⟩ := List.mem_map.mp (ordW_mem.mp (List.mem_reverse.mp hx))
    have := num_find h.nd hq
    obtain ⟨a, b⟩ := q
    simp only at e this
    subst e
    rw [this]
    exact hq
  refine ⟨backT_nd h.nd, fun p hp => h.nu p (key p hp), fun p hp => h.wd p (key p hp), ?_⟩
  unfold backT
  rw [List.length_map, List.length_reverse, ordW_len]
  exact h.ln
section
variable {P : Program} {w : World} {K : PySem.W.Frag} {mg : Str → Option Value} {base : Heap}
def spSome : Sp := fun vs H Q _ => ∃ (h ca : Addr) (c : Int), vs = [.ref h, .int c] ∧ HandAt ca H h ∧ 2 ≤ c ∧ c ≤ 7 ∧ ∀ H' d l, HandAt ca H' h → But h H H' → H d = none → H' d = some (.dK (kv l)) → VT c 7 120 l → Q (.ref d) H'
abbrev nSome : List Str := ["_law_hand_here", "_law_clock_here", "_law_kind"]
end
end Fp

set_option Elab.async false
set_option linter.all false
set_option maxRecDepth 100000
set_option maxHeartbeats 4000000
namespace Fp
open PySem PySem.Spec PyProof.Rows L2
/-! ### sums of numbers by words -/
def tot (es : Tb) (x : Str) : Int := (es.map fun p => if p.1 = x then p.2 else 0).sum
theorem tot_nil (x : Str) : tot [] x = 0 := rfl
theorem tot_cons (p : Str × Int) (r : Tb) (x : Str) : tot (p :: r) x = (if p.1 = x then p.2 else 0) + tot r x := by
  unfold tot
  rw [List.map_cons, List.sum_cons]
theorem tot_app (a b : Tb) (x : Str) : tot (a ++ b) x = tot a x + tot b x := by
  induction a with
  | nil => rw [List.nil_append, tot_nil, Int.zero_add]
  | cons p r ih => rw [List.cons_append, tot_cons, tot_cons, ih, Int.add_assoc]
theorem tot_not {l : Tb} {x : Str} (h : x ∉ l.map (·.1)) : tot l x = 0 := by
  induction l with
  | nil => rfl
  | cons p r ih =>
    rw [tot_cons, if_neg (fun z : p.1 = x => h (by rw [← z]; exact List.mem_cons_self)), ih (fun z => h (List.mem_cons_of_mem _ z)), Int.zero_add]
theorem num_cons (p : Str × Int) (r : Tb) (x : Str) : num (p :: r) x = if p.1 = x then p.2 else num r x := by
  unfold num
  by_cases h : p.1 = x
  · rw [List.find?_cons_of_pos (by simpa using h), if_pos h]
    rfl
  · rw [List.find?_cons_of_neg (by simpa using h), if_neg h]
theorem tot_num {l : Tb} (h : Nd l) (x : Str) : tot l x = num l x := by
  induction l with
  | nil => rfl
  | cons p r ih =>
    have h' : (p.1 :: r.map (·.1)).Nodup := h
    obtain ⟨h1, h2⟩ := List.nodup_cons.mp h'
    rw [tot_cons, num_cons]
    by_cases e : p.1 = x
    · rw [if_pos e, if_pos e, tot_not (e ▸ h1), Int.add_zero]
    · rw [if_neg e, if_neg e, Int.zero_add, ih h2]
theorem num_put_ne {l : Tb} {x y : Str} (n : Int) (h : x ≠ y) : num (putT l x n) y = num l y := by
  unfold putT
  cases has l x with
  | true =>
    rw [if_pos rfl]
    induction l with
    | nil => rfl
    | cons p r ih =>
      rw [List.map_cons, num_cons, num_cons, ih]
      by_cases e : p.1 = x
      · rw [if_pos e]
        show (if p.1 = y then n else num r y) = _
        rw [if_neg (fun z => h (e ▸ z)), if_neg (fun z => h (e ▸ z))]
      · rw [if_neg e]
  | false =>
    rw [if_neg Bool.false_ne_true]
    induction l with
    | nil =>
      rw [List.nil_append, num_cons, if_neg h]
    | cons p r ih => rw [List.cons_append, num_cons, num_cons, ih]
theorem num_drop_ne {l : Tb} {x y : Str} (h : x ≠ y) : num (dropT l x) y = num l y := by
  unfold dropT
  induction l with
  | nil => rfl
  | cons p r ih =>
    by_cases e : p.1 = x
    · rw [List.filter_cons_of_neg (by simpa using e), ih, num_cons, if_neg (fun z => h (e ▸ z))]
    · rw [List.filter_cons_of_pos (by simpa using e), num_cons, num_cons, ih]
theorem num_putM_ne (c : Int) {l : Tb} {x y : Str} (n : Int) (h : x ≠ y) : num (putM c l x n) y = num l y := by
  unfold putM
  split
  · exact num_drop_ne h
  · exact num_put_ne _ h
/-- the law's putting, entry by entry -/
theorem num_foldM {c : Int} : ∀ (es : Tb) (a : Tb) (x : Str), num (es.foldl (fun a p => putM c a p.1 p.2) a) x % c = (num a x + tot es x) % c
  | [], a, x => by rw [tot_nil, Int.add_zero]; rfl
  | p :: r, a, x => by
    rw [List.foldl_cons, num_foldM r, tot_cons]
    by_cases e : p.1 = x
    · subst e
      rw [num_putM, if_pos rfl, Int.emod_add_emod, Int.add_assoc]
    · rw [num_putM_ne _ _ e, if_neg e, Int.zero_add]
/-- laying to, entry by entry -/
def addT (es a : Tb) : Tb := es.foldl (fun a p => putT a p.1 (num a p.1 + p.2)) a
theorem num_addT : ∀ (es a : Tb) (x : Str), num (addT es a) x = num a x + tot es x
  | [], a, x => by rw [tot_nil, Int.add_zero]; rfl
  | p :: r, a, x => by
    have e0 : addT (p :: r) a = addT r (putT a p.1 (num a p.1 + p.2)) := rfl
    rw [e0, num_addT r, tot_cons]
    by_cases e : p.1 = x
    · subst e
      rw [num_put, if_pos rfl, Int.add_assoc]
    · rw [num_put_ne _ e, if_neg e, Int.zero_add]
theorem nd_addT : ∀ (es a : Tb), Nd a → Nd (addT es a)
  | [], a, h => h
  | p :: r, a, h => nd_addT r _ (nd_put h _ _)
theorem len_addT : ∀ (es a : Tb), (addT es a).length ≤ a.length + es.length
  | [], a => Nat.le_refl _
  | p :: r, a => by
    have h1 := len_addT r (putT a p.1 (num a p.1 + p.2))
    have h2 := len_put a p.1 (num a p.1 + p.2)
    have e0 : addT (p :: r) a = addT r (putT a p.1 (num a p.1 + p.2)) := rfl
    rw [e0, List.length_cons]
    omega
theorem key_put {l : Tb} {x : Str} {n : Int} {q : Str × Int} (h : q ∈ putT l x n) : q.1 = x ∨ ∃ p ∈ l, p.1 = q.1 := by
  rcases mem_put h with rfl | h
  · exact .inl rfl
  · exact .inr ⟨q, h, rfl⟩
theorem key_addT : ∀ (es a : Tb) (q : Str × Int), q ∈ addT es a → (∃ p ∈ a, p.1 = q.1) ∨ ∃ p ∈ es, p.1 = q.1
  | [], a, q, h => .inl ⟨q, h, rfl⟩
  | p :: r, a, q, h => by
    rcases key_addT r _ q h with ⟨p', h1, h2⟩ | ⟨p', h1, h2⟩
    · rcases key_put h1 with e | ⟨p2, h3, h4⟩
      · exact .inr ⟨p, List.mem_cons_self, e ▸ h2⟩
      · exact .inl ⟨p2, h3, h4.trans h2⟩
    · exact .inr ⟨p', List.mem_cons_of_mem _ h1, h2⟩
/-- tidied -/
def tidyM (c : Int) (l : Tb) : Tb := (l.filter fun p => decide (p.2 % c ≠ 0)).map fun p => (p.1, p.2 % c)
theorem tidy_keys {c : Int} {l : Tb} {q : Str × Int} (h : q ∈ tidyM c l) : ∃ p ∈ l, q = (p.1, p.2 % c) ∧ p.2 % c ≠ 0 := by
  unfold tidyM at h
  obtain ⟨p, hp, rfl⟩ := List.mem_map.mp h
  obtain ⟨h1, h2⟩ := List.mem_filter.mp hp
  exact ⟨p, h1, rfl, of_decide_eq_true h2⟩
theorem tidy_nd {c : Int} {l : Tb} (h : Nd l) : Nd (tidyM c l) := by
  unfold Nd tidyM
  rw [List.map_map]
  have : ((fun p : Str × Int => p.1) ∘ fun p : Str × Int => (p.1, p.2 % c)) = fun p => p.1 := rfl
  rw [this]
  exact (List.Sublist.map _ List.filter_sublist).nodup h
theorem tidy_len {c : Int} {l : Tb} : (tidyM c l).length ≤ l.length := by
  unfold tidyM
  rw [List.length_map]
  exact List.length_filter_le _ _
theorem tidy_rg {c : Int} {l : Tb} (hc : 0 < c) : ∀ q ∈ tidyM c l, 1 ≤ q.2 ∧ q.2 < c := fun q hq => by
  obtain ⟨p, _, rfl, h⟩ := tidy_keys hq
  have h1 := Int.emod_nonneg p.2 (show c ≠ 0 by omega)
  have h2 := Int.emod_lt_of_pos p.2 hc
  show 1 ≤ p.2 % c ∧ p.2 % c < c
  omega
theorem num_tidy {c : Int} {l : Tb} (h : Nd l) (x : Str) : num (tidyM c l) x = num l x % c := by
  unfold tidyM
  induction l with
  | nil => rfl
  | cons p r ih =>
    have h' : (p.1 :: r.map (·.1)).Nodup := h
    obtain ⟨h1, h2⟩ := List.nodup_cons.mp h'
    have ih := ih h2
    rw [num_cons]
    by_cases e : p.2 % c = 0
    · rw [List.filter_cons_of_neg (by simpa using e), ih]
      by_cases e2 : p.1 = x
      · rw [if_pos e2, e, num_not (e2 ▸ h1)]
        rfl
      · rw [if_neg e2]
    · rw [List.filter_cons_of_pos (by simpa using e), List.map_cons, num_cons]
      by_cases e2 : p.1 = x
      · rw [if_pos e2, if_pos e2]
      · rw [if_neg e2, if_neg e2, ih]
theorem vt_tidy {c : Int} {m : Nat} {l : Tb} (hc : 0 < c) (h : Nd l) (hw : ∀ p ∈ l, xyz p.1 ∧ p.1.length ≤ m) : VT c m l.length (tidyM c l) :=
  ⟨tidy_nd h, tidy_rg hc, fun q hq => by
    obtain ⟨p, hp, rfl, _⟩ := tidy_keys hq
    exact hw p hp, tidy_len⟩
/-! ### two tables with the same numbers are the same in order -/
theorem rg_key {l : Tb} (h : Nd l) (hr : ∀ p ∈ l, 1 ≤ p.2) (x : Str) : x ∈ l.map (·.1) ↔ num l x ≠ 0 := by
  constructor
  · intro hx
    obtain ⟨p, hp, rfl⟩ := List.mem_map.mp hx
    rw [num_find h hp]
    have := hr p hp
    omega
  · intro hn
    by_cases hx : x ∈ l.map (·.1)
    · exact hx
    · exact absurd (num_not hx) hn
theorem canon_ext {l m : Tb} (hl : Nd l) (hm : Nd m) (rl : ∀ p ∈ l, 1 ≤ p.2) (rm : ∀ p ∈ m, 1 ≤ p.2) (h : ∀ x, num l x = num m x) : canon l = canon m :=
  canon_eq hl hm (fun x => by rw [rg_key hl rl, rg_key hm rm, h x]) h
theorem num_mod {c : Int} {m k : Nat} {l : Tb} (hc : 0 < c) (h : VT c m k l) (x : Str) : num l x % c = num l x :=
  Int.emod_eq_of_lt (num_range hc h x).1 (num_range hc h x).2
/-- tables by a clock -/
theorem vt_ext {c : Int} {m k m' k' : Nat} {l l' : Tb} (h : VT c m k l) (h' : VT c m' k' l') (e : ∀ x, num l x = num l' x) : canon l = canon l' :=
  canon_ext h.nd h'.nd (fun p hp => (h.nu p hp).1) (fun p hp => (h'.nu p hp).1) e
/-! ### what the law's sums and products have -/
def scl (f : Int) (l : Tb) : Tb := l.map fun p => (p.1, f * p.2)
theorem tot_scl (f : Int) (l : Tb) (x : Str) : tot (scl f l) x = f * tot l x := by
  induction l with
  | nil => rw [tot_nil, Int.mul_zero]; rfl
  | cons p r ih =>
    have e : scl f (p :: r) = (p.1, f * p.2) :: scl f r := rfl
    rw [e, tot_cons, tot_cons, ih, Int.mul_add]
    by_cases h : p.1 = x
    · rw [if_pos h, if_pos h]
    · rw [if_neg h, if_neg h, Int.mul_zero]
theorem num_plusM {c f : Int} {m k m' k' : Nat} {l1 l2 : Tb} (hc : 0 < c) (h1 : VT c m k l1) (h2 : VT c m k' l2) (x : Str) : num (plusM c l1 l2 f) x = (num l1 x + f * num l2 x) % c := by
  have v := vt_plusM hc h1 h2 f
  rw [← num_mod hc v x]
  have e : plusM c l1 l2 f = (scl f l2).foldl (fun a p => putM c a p.1 p.2) l1 := by
    unfold plusM scl
    rw [List.foldl_map]
  rw [e, num_foldM, tot_scl, tot_num h2.nd]
/-- each word of one with each of the other behind it -/
def prs (l m : Tb) : Tb := l.flatMap fun p => m.map fun q => (p.1 ++ q.1, p.2 * q.2)
theorem prs_cons (p : Str × Int) (l m : Tb) : prs (p :: l) m = (m.map fun q => (p.1 ++ q.1, p.2 * q.2)) ++ prs l m := List.flatMap_cons
theorem prodM_tab (c : Int) (l m : Tb) : prodM c l m = (prs l m).foldl (fun a p => putM c a p.1 p.2) [] := by
  have key : ∀ (l : Tb) (a : Tb), l.foldl (fun acc p => m.foldl (fun acc q => putM c acc (p.1 ++ q.1) (p.2 * q.2)) acc) a = (prs l m).foldl (fun a p => putM c a p.1 p.2) a := by
    intro l
    induction l with
    | nil => intro a; rfl
    | cons p r ih =>
      intro a
      rw [List.foldl_cons, ih, prs_cons, List.foldl_append, List.foldl_map]
  exact key l []
theorem num_prodM {c : Int} {m1 k1 m2 k2 : Nat} {l1 l2 : Tb} (hc : 0 < c) (h1 : VT c m1 k1 l1) (h2 : VT c m2 k2 l2) (x : Str) : num (prodM c l1 l2) x = tot (prs l1 l2) x % c := by
  rw [← num_mod hc (vt_prodM hc h1 h2) x, prodM_tab, num_foldM]
  have : num [] x = 0 := rfl
  rw [this, Int.zero_add]
def multT (l m : Tb) : Tb := addT (prs l m) []
/-! ### products by their totals -/
theorem str_cancel {u v w : Str} (h : u ++ v = u ++ w) : v = w := by
  have e : (u ++ v).cps.toList = (u ++ w).cps.toList := by rw [h]
  have e1 : ∀ a b : Str, (a ++ b).cps.toList = a.cps.toList ++ b.cps.toList := fun a b => by
    show (a.cps ++ b.cps).toList = _
    exact Array.toList_append
  rw [e1, e1] at e
  exact PySem.W.str_of_cps (List.append_cancel_left e)
theorem str_cancel_r {u v w : Str} (h : v ++ u = w ++ u) : v = w := by
  have e : (v ++ u).cps.toList = (w ++ u).cps.toList := by rw [h]
  have e1 : ∀ a b : Str, (a ++ b).cps.toList = a.cps.toList ++ b.cps.toList := fun a b => by
    show (a.cps ++ b.cps).toList = _
    exact Array.toList_append
  rw [e1, e1] at e
  exact PySem.W.str_of_cps (List.append_cancel_right e)
theorem str_assoc (u v w : Str) : (u ++ v) ++ w = u ++ (v ++ w) := by
  apply PySem.W.str_of_cps
  have e1 : ∀ a b : Str, (a ++ b).cps.toList = a.cps.toList ++ b.cps.toList := fun a b => by
    show (a.cps ++ b.cps).toList = _
    exact Array.toList_append
  rw [e1, e1, e1, e1, List.append_assoc]
/-- a word put ahead of each -/
def fwd (p : Str × Int) (m : Tb) : Tb := m.map fun q => (p.1 ++ q.1, p.2 * q.2)
theorem tot_fwd (p : Str × Int) (m : Tb) (x : Str) : (∃ v, p.1 ++ v = x ∧ tot (fwd p m) x = p.2 * tot m v) ∨ ((∀ v, p.1 ++ v ≠ x) ∧ tot (fwd p m) x = 0) := by
  by_cases h : ∃ v, p.1 ++ v = x
  · obtain ⟨v, hv⟩ := h
    refine .inl ⟨v, hv, ?_⟩
    induction m with
    | nil => rw [tot_nil, Int.mul_zero]; rfl
    | cons q r ih =>
      have e : fwd p (q :: r) = (p.1 ++ q.1, p.2 * q.2) :: fwd p r := rfl
      rw [e, tot_cons, tot_cons, ih, Int.mul_add]
      by_cases z : q.1 = v
      · rw [if_pos z, if_pos (by rw [z]; exact hv)]
      · rw [if_neg z, if_neg (fun y => z (str_cancel (y.trans hv.symm))), Int.mul_zero]
  · have h' : ∀ v, p.1 ++ v ≠ x := fun v hv => h ⟨v, hv⟩
    refine .inr ⟨h', ?_⟩
    induction m with
    | nil => rfl
    | cons q r ih =>
      have e : fwd p (q :: r) = (p.1 ++ q.1, p.2 * q.2) :: fwd p r := rfl
      rw [e, tot_cons, if_neg (h' q.1), ih, Int.zero_add]
def bwd (q : Str × Int) (l : Tb) : Tb := l.map fun p => (p.1 ++ q.1, p.2 * q.2)
theorem tot_bwd (q : Str × Int) (l : Tb) (x : Str) : (∃ v, v ++ q.1 = x ∧ tot (bwd q l) x = tot l v * q.2) ∨ ((∀ v, v ++ q.1 ≠ x) ∧ tot (bwd q l) x = 0) := by
  by_cases h : ∃ v, v ++ q.1 = x
  · obtain ⟨v, hv⟩ := h
    refine .inl ⟨v, hv, ?_⟩
    induction l with
    | nil => rw [tot_nil, Int.zero_mul]; rfl
    | cons p r ih =>
      have e : bwd q (p :: r) = (p.1 ++ q.1, p.2 * q.2) :: bwd q r := rfl
      rw [e, tot_cons, tot_cons, ih, Int.add_mul]
      by_cases z : p.1 = v
      · rw [if_pos z, if_pos (by rw [z]; exact hv)]
      · rw [if_neg z, if_neg (fun y => z (str_cancel_r (y.trans hv.symm))), Int.zero_mul]
  · have h' : ∀ v, v ++ q.1 ≠ x := fun v hv => h ⟨v, hv⟩
    refine .inr ⟨h', ?_⟩
    induction l with
    | nil => rfl
    | cons p r ih =>
      have e : bwd q (p :: r) = (p.1 ++ q.1, p.2 * q.2) :: bwd q r := rfl
      rw [e, tot_cons, if_neg (h' p.1), ih, Int.zero_add]
theorem tot_prs_cons (p : Str × Int) (l m : Tb) (x : Str) : tot (prs (p :: l) m) x = tot (fwd p m) x + tot (prs l m) x := by
  rw [prs_cons, tot_app]
  rfl
theorem prs_nil_r (l : Tb) : prs l [] = [] := by
  induction l with
  | nil => rfl
  | cons p r ih => rw [prs_cons, ih]; rfl
theorem tot_prs_cons_r (q : Str × Int) (l m : Tb) (x : Str) : tot (prs l (q :: m)) x = tot (bwd q l) x + tot (prs l m) x := by
  induction l with
  | nil => rfl
  | cons p r ih =>
    rw [tot_prs_cons, tot_prs_cons, ih]
    have e1 : fwd p (q :: m) = (p.1 ++ q.1, p.2 * q.2) :: fwd p m := rfl
    have e2 : bwd q (p :: r) = (p.1 ++ q.1, p.2 * q.2) :: bwd q r := rfl
    rw [e1, e2, tot_cons, tot_cons]
    omega
/-- alike by a clock -/
def Lk (c : Int) (l m : Tb) : Prop := ∀ x, tot l x % c = tot m x % c
theorem Lk.refl (c : Int) (l : Tb) : Lk c l l := fun _ => rfl
theorem Lk.symm {c : Int} {l m : Tb} (h : Lk c l m) : Lk c m l := fun x => (h x).symm
theorem Lk.trans {c : Int} {l m n : Tb} (h : Lk c l m) (g : Lk c m n) : Lk c l n := fun x => (h x).trans (g x)
theorem Lk.app {c : Int} {l l' m m' : Tb} (h : Lk c l l') (g : Lk c m m') : Lk c (l ++ m) (l' ++ m') := fun x => by
  rw [tot_app, tot_app, Int.add_emod, h x, g x, ← Int.add_emod]
theorem Lk.scl {c : Int} (f : Int) {l l' : Tb} (h : Lk c l l') : Lk c (scl f l) (Fp.scl f l') := fun x => by
  rw [tot_scl, tot_scl, Int.mul_emod, h x, ← Int.mul_emod]
theorem Lk.prs_r {c : Int} (l : Tb) {m m' : Tb} (h : Lk c m m') : Lk c (prs l m) (prs l m') := fun x => by
  induction l with
  | nil => rfl
  | cons p r ih =>
    rw [tot_prs_cons, tot_prs_cons, Int.add_emod, ih]
    have : tot (fwd p m) x % c = tot (fwd p m') x % c := by
      rcases tot_fwd p m x with ⟨v, hv, e⟩ | ⟨hn, e⟩
      · rcases tot_fwd p m' x with ⟨v', hv', e'⟩ | ⟨hn, e'⟩
        · have : v = v' := str_cancel (hv.trans hv'.symm)
          rw [e, e', this, Int.mul_emod, h v', ← Int.mul_emod]
        · exact absurd hv (hn v)
      · rcases tot_fwd p m' x with ⟨v', hv', e'⟩ | ⟨_, e'⟩
        · exact absurd hv' (hn v')
        · rw [e, e']
    rw [this, ← Int.add_emod]
theorem Lk.prs_l {c : Int} {l l' : Tb} (m : Tb) (h : Lk c l l') : Lk c (prs l m) (prs l' m) := fun x => by
  induction m with
  | nil => rw [prs_nil_r, prs_nil_r]
  | cons q r ih =>
    rw [tot_prs_cons_r, tot_prs_cons_r, Int.add_emod, ih]
    have : tot (bwd q l) x % c = tot (bwd q l') x % c := by
      rcases tot_bwd q l x with ⟨v, hv, e⟩ | ⟨hn, e⟩
      · rcases tot_bwd q l' x with ⟨v', hv', e'⟩ | ⟨hn, e'⟩
        · have : v = v' := str_cancel_r (hv.trans hv'.symm)
          rw [e, e', this, Int.mul_emod, h v', ← Int.mul_emod]
        · exact absurd hv (hn v)
      · rcases tot_bwd q l' x with ⟨v', hv', e'⟩ | ⟨_, e'⟩
        · exact absurd hv' (hn v')
        · rw [e, e']
    rw [this, ← Int.add_emod]
theorem Lk.prs {c : Int} {l l' m m' : Tb} (h : Lk c l l') (g : Lk c m m') : Lk c (prs l m) (Fp.prs l' m') := (Lk.prs_l m h).trans (Lk.prs_r l' g)
theorem prs_assoc (l m n : Tb) : prs (prs l m) n = prs l (prs m n) := by
  unfold prs
  rw [List.flatMap_assoc]
  congr 1
  funext p
  rw [List.flatMap_map, List.map_flatMap]
  congr 1
  funext q
  rw [List.map_map]
  congr 1
  funext r
  simp only [Function.comp]
  rw [str_assoc, Int.mul_assoc]
theorem prs_app_r (l m n : Tb) (x : Str) : tot (prs l (m ++ n)) x = tot (prs l m ++ prs l n) x := by
  induction l with
  | nil => rfl
  | cons p r ih =>
    rw [tot_app] at ih ⊢
    rw [tot_prs_cons, tot_prs_cons, tot_prs_cons, ih]
    have e : fwd p (m ++ n) = fwd p m ++ fwd p n := by unfold fwd; rw [List.map_append]
    rw [e, tot_app]
    omega
theorem str_nil_l (x : Str) : ("" : Str) ++ x = x := PySem.W.str_of_cps (by show ((#[] : Array Nat) ++ x.cps).toList = _; simp)
theorem str_nil_r (x : Str) : x ++ ("" : Str) = x := PySem.W.str_of_cps (by show (x.cps ++ (#[] : Array Nat)).toList = _; simp)
theorem prs_one_l (m : Tb) : prs [("", 1)] m = m := by
  rw [prs_cons]
  have : prs [] m = [] := rfl
  rw [this, List.append_nil]
  have e : (fun q : Str × Int => (((("" : Str), (1 : Int)).1 ++ q.1, (("" : Str), (1 : Int)).2 * q.2) : Str × Int)) = id := by
    funext q
    show ((("" : Str) ++ q.1, 1 * q.2) : Str × Int) = q
    rw [str_nil_l, Int.one_mul]
  rw [e, List.map_id]
theorem prs_one_r (l : Tb) : prs l [("", 1)] = l := by
  induction l with
  | nil => rfl
  | cons p r ih =>
    rw [prs_cons, ih]
    show ((p.1 ++ ("" : Str), p.2 * 1) : Str × Int) :: r = _
    rw [str_nil_r, Int.mul_one]
end Fp

set_option Elab.async false
set_option linter.all false
set_option maxRecDepth 100000
set_option maxHeartbeats 4000000
namespace L2
open PySem PySem.Spec PyProof.Rows
/-- a dict comprehension over what is walked: Pv by the turn and the heap, the new dict at D in it -/
theorem dc_it {J : It} {n : Nat} {G : Hp → Prop} {Y : Nat → Hp → V → Hp → Prop} (wk : Walk J n G Y) {g : TG} {tt : TT} {tk tv : TE} {vs : List Nat} {σ : St} {H1 : Hp} {D : Addr} {Qd : Hp → Prop} (Pv : Nat → Hp → Prop) (z0 : Pv 0 (upd H1 D (.dK [])))
    (zG : ∀ i H, i ≤ n → Pv i H → G H)
    (zs : ∀ i x H H', i < n → Pv i H → Y i H x H' → g x (wipe σ vs) H' fun σ2 H2 => wipe σ2 vs = wipe σ vs ∧ tt σ2 H2 fun b H3 =>
      if b = true then tk σ2 H3 fun y H4 => tv σ2 H4 fun z H5 => ∃ kvs k, y = kV k ∧ H5 D = some (.dK kvs) ∧ kvs.length < sizeLine ∧ Pv (i + 1) (upd H5 D (.dK (putK kvs k z))) else Pv (i + 1) H3)
    (zd : ∀ H, Pv n H → Qd H) :
    ∃ W : Nat → Nat → Hp → Prop, (∃ m, W 0 m (upd H1 D (.dK []))) ∧ ∀ i m H, W i m H →
      (J.stop i H ∧ Qd H) ∨ (J.go i H ∧ ∃ Nx : Hp → Prop, (∀ H', Nx H' → ∃ m', m' < m ∧ W (i + 1) m' H') ∧ ∀ x H', J.yld i H x H' → g x (wipe σ vs) H' fun σ2 H2 => wipe σ2 vs = wipe σ vs ∧ tt σ2 H2 fun b H3 =>
        if b = true then tk σ2 H3 fun y H4 => tv σ2 H4 fun z H5 => ∃ kvs k, y = kV k ∧ H5 D = some (.dK kvs) ∧ kvs.length < sizeLine ∧ Nx (upd H5 D (.dK (putK kvs k z))) else Nx H3) := by
  refine ⟨fun i m H => (m = n - i ∧ i ≤ n) ∧ Pv i H, ⟨n, ⟨by simp, Nat.zero_le _⟩, z0⟩, ?_⟩
  rintro i m H ⟨⟨rfl, hi⟩, p⟩
  have q := zG i H hi p
  by_cases hlt : i < n
  · exact .inr ⟨wk.goes i H hlt q, Pv (i + 1), fun H' p' => ⟨n - (i + 1), by omega, ⟨rfl, hlt⟩, p'⟩, fun x H' y => zs i x H H' hlt p (wk.yields i H x H' hlt q y)⟩
  · obtain rfl : i = n := by omega
    exact .inl ⟨wk.stops H q, zd H p⟩
/-- X(), X an own class without __init__ -/
theorem pmk_own0 {X : Cx} {C : Addr} {bmB : List Value} {B newId initId : String} {x : Str} {p pos : Pos} (F : ExcBaseFacts B newId initId bmB) (q : PySem.W.excIn X.K C bmB newId = true) (gC : X.mg x = some (.ref C))
    (kC : PySem.W.keepIn X.K (.ref C) = true) (r : Raises X (.ref C)) (hg : Gl X x) (hdb : (x == ("__debug__" : Str)) = false := by decide) : PMk X (.Call (.Name x p) [] [] pos) (fun _ H Q => Q (.ref C) none H) := by
  intro pins s σ H Q I h
  refine wpAny_Call_Name_kw (ld_glob I hg gC ?_ hdb)
  refine PySem.W.callWith_K0 (K := X.K) I.kIn kC ?_
  show wpAny _ _ (call (.ref C) []) _ _ _
  obtain ⟨bm, N, nm, qn, bs, hdct, sn, sub, ab, col, dd, k0, k1, k2, k3, k5, mN, hC, hN, hni, T⟩ := exc_obj I.kIn q
  refine wpAny_call_exc_subT F T hC hN hni (fun h' e hm => ?_) (Nat.zero_le _)
  exact mk_of I hm r h (I.hok.gone hm.new)
abbrev tTru (K : PySem.W.Frag) (te : TE) : TT := fun σ H Q => te σ H fun x H' => ∃ k, TruV K x H' k ∧ Q k H'
abbrev tMod (a b : TE) : TE := tOp (rI (fun _ j => 0 < j) fun i j => .int (i % j)) a b
abbrev gPair (K : PySem.W.Frag) (i j : Nat) : TG := gTup K 2 (gCons (gName i) (gCons (gName j) gNil))
end L2
namespace Fp
open PySem PySem.Spec PyProof.Rows L2
theorem tidy_take (c : Int) {l : Tb} {i : Nat} {p : Str × Int} (e : l[i]? = some p) : tidyM c (l.take (i + 1)) = if p.2 % c ≠ 0 then tidyM c (l.take i) ++ [(p.1, p.2 % c)] else tidyM c (l.take i) := by
  unfold tidyM
  rw [List.take_add_one, e]
  simp only [Option.toList_some, List.filter_append, List.map_append]
  by_cases h : p.2 % c = 0
  · rw [if_neg (fun z => z h)]
    have : [p].filter (fun p => decide (p.2 % c ≠ 0)) = [] := List.filter_cons_of_neg (by simpa using h)
    rw [this]
    simp
  · rw [if_pos h]
    have : [p].filter (fun p => decide (p.2 % c ≠ 0)) = [p] := List.filter_cons_of_pos (by simpa using h)
    rw [this]
    rfl
theorem tidy_no (c : Int) {l : Tb} (h : Nd l) {i : Nat} {p : Str × Int} (e : l[i]? = some p) : has (tidyM c (l.take i)) p.1 = false := by
  cases z : has (tidyM c (l.take i)) p.1 with
  | false => rfl
  | true =>
    exfalso
    obtain ⟨q, hq, e2⟩ := List.mem_map.mp (has_iff.mp z)
    obtain ⟨p', hp', e3, _⟩ := tidy_keys hq
    rw [e3] at e2
    have h1 : Nd (l.take (i + 1)) := by
      unfold Nd
      rw [List.map_take]
      exact (List.take_sublist _ _).nodup h
    unfold Nd at h1
    rw [List.take_add_one, e, List.map_append] at h1
    have h2 := (List.nodup_append.mp h1).2.2
    exact h2 p'.1 (List.mem_map.mpr ⟨p', hp', rfl⟩) p.1 (by simp) e2
theorem kv_item {l : Tb} {i : Nat} {k v : V} (h1 : ((kv l)[i]?.map fun kv => kV kv.1) = some k) (h2 : ((kv l)[i]?.map Prod.snd) = some v) : ∃ p, l[i]? = some p ∧ k = .str p.1 ∧ v = .int p.2 := by
  unfold kv at h1 h2
  rw [List.getElem?_map] at h1 h2
  cases q : l[i]? with
  | none => rw [q] at h1; cases h1
  | some p =>
    rw [q] at h1 h2
    exact ⟨p, rfl, (Option.some.inj h1).symm, (Option.some.inj h2).symm⟩
section
variable {P : Program} {w : World} {K : PySem.W.Frag} {mg : Str → Option Value} {base : Heap}
def spTidied : Sp := fun vs H Q _ => ∃ (d : Addr) (c : Int) (l : Tb), vs = [.ref d, .int c] ∧ 0 < c ∧ H d = some (.dK (kv l)) ∧ Nd l ∧ l.length ≤ 1000000 ∧ ∀ H' D, Same H H' → H D = none → H' D = some (.dK (kv (tidyM c l))) → Q (.ref D) H'
abbrev nTidied : List Str := ["table", "clock", "word", "number"]
theorem sc_tidied : FnScope nTidied ["table", "clock"] (defScope s_tidied) := ⟨rfl, rfl, rfl, by decide +kernel, rfl, by decide +kernel, by decide +kernel⟩
theorem ok_tidied (T : Top K mg) : Ok P w K mg base 1 "tidied" ["table", "clock"] spTidied := by
  obtain ⟨fd, F⟩ := fn_tidied T
  refine ⟨⟨fd, ?_, F.bindsN fun _ _ _ _ _ _ us hl => match us, hl with | [_, _], _ => rfl⟩, g_tidied T, F.kp⟩
  refine F.ok sc_tidied (fun vs H Q E h => ?_) (fun cdv A outer s H vs Q E hr h => ?_)
  · obtain ⟨d, c, l, rfl, _⟩ := h
    rfl
  · obtain ⟨d, c, l, rfl, hc, hd, hnd, hll, q⟩ := h
    have nd := sc_tidied.nd
    have hu := hu_of hr
    have hs : sizeLine = 16777216 := sizeLine_eq
    refine ⟨_, PSs.nox (pss_one (ps_ret (pe_lock (pe_dc (own := [("word", 2), ("number", 3)]) (g := gPair K 2 3) (tt := tTru K (tMod (tVar 3) (tVar 1))) (tk := tVar 2) (tv := tMod (tVar 3) (tVar 1)) rfl nd (pi_items (pv 0)) (blkOk_by (N := nTidied) (sc := defScope s_tidied) (by decide +kernel))
      (fun _ _ _ _ _ => pg_tup rfl (pgs_cons (pg_name (i := 2) nd rfl (Or.inl rfl)) (pgs_cons (pg_name (i := 3) nd rfl (Or.inl rfl)) pgs_nil)))
      (fun _ _ _ _ _ => pts_one (pt_truth (pe_op op_mod (pv 3) (pv 1)) (fun _ => rfl))) (fun _ _ _ _ _ => pv 2) (fun _ _ _ _ _ => pe_op op_mod (pv 3) (pv 1)))))), ?_⟩
    refine ⟨d, _, hd, trivial, fun od => ?_⟩
    refine ⟨_, rfl, d, od, kv l, rfl, upd_same, fun D hD => ?_⟩
    have nD : D ≠ d := fun e => by
      rw [e, upd_same] at hD
      cases hD
    have hD0 : H D = none := by
      rw [upd_ne nD] at hD
      exact hD
    refine dc_it walk_items (fun i H' => H' D = some (.dK (kv (tidyM c (l.take i)))) ∧ But d H H' ∧ H' d = some (.frz od (.dK (kv l)))) ⟨upd_same, ?_, ?_⟩ (fun i H' _ hP => hP.2.2) ?_ ?_
    · intro b o e n
      rw [upd_ne (ne_of_none e hD0), upd_ne n]
      exact e
    · rw [upd_ne nD.symm]
      exact upd_same
    · rintro i x H1 H2 hi ⟨p1, p2, p3⟩ ⟨t, k, v, rfl, ht, rfl, e1, e2⟩
      obtain ⟨p, ep, rfl, rfl⟩ := kv_item e1 e2
      have nt : D ≠ t := ne_of_none p1 ht
      have ndt : d ≠ t := ne_of_none p3 ht
      refine ⟨t, _, rfl, .inl (.inl upd_same), rfl, ?_⟩
      refine ⟨_, _, rfl, _, _, rfl, rfl, rfl, ?_⟩
      refine ⟨_, rfl, _, rfl, _, _, rfl, rfl, hc, _, rfl, ?_⟩
      have et := tidy_take c ep
      have el : (tidyM c (l.take i)).length ≤ i := Nat.le_trans tidy_len (by rw [List.length_take]; omega)
      rw [kv_len] at hi
      refine ite2 (fun hz => ?_) (fun hz => ?_)
      · have hz' : p.2 % c ≠ 0 := by simpa using hz
        rw [if_pos hz'] at et
        refine ⟨_, rfl, _, rfl, _, rfl, _, _, rfl, rfl, hc, _, Sum.inr p.1, rfl, by rw [upd_ne nt]; exact p1, by rw [kv_len]; omega, ?_, ?_, ?_⟩
        · rw [upd_same, putK_kv, et]
          unfold putT
          rw [tidy_no c hnd ep, if_neg Bool.false_ne_true]
        · intro b o e n
          rw [upd_ne (ne_of_none e hD0), upd_ne (ne_of_none (p2 b o e n) ht)]
          exact p2 b o e n
        · rw [upd_ne nD.symm, upd_ne ndt]
          exact p3
      · have hz' : ¬ p.2 % c ≠ 0 := by simpa using hz
        rw [if_neg hz'] at et
        refine ⟨?_, ?_, ?_⟩
        · rw [upd_ne nt, et]
          exact p1
        · intro b o e n
          rw [upd_ne (ne_of_none (p2 b o e n) ht)]
          exact p2 b o e n
        · rw [upd_ne ndt]
          exact p3
    · rintro H' ⟨p1, p2, p3⟩
      rw [kv_len, List.take_length] at p1
      refine ⟨p3, q _ D (fun b o e => ?_) hD0 (by rw [upd_ne nD]; exact p1)⟩
      by_cases n : b = d
      · rw [n, upd_same, ← hd, ← n, e]
      · rw [upd_ne n]
        exact p2 b o e n
end
end Fp

set_option Elab.async false
set_option linter.all false
set_option maxRecDepth 100000
set_option maxHeartbeats 4000000
namespace Fp
open PySem PySem.Spec PyProof.Rows L2
theorem addT_app (a b x : Tb) : addT (a ++ b) x = addT b (addT a x) := by
  unfold addT
  rw [List.foldl_append]
theorem addT_take {es : Tb} {i : Nat} {p : Str × Int} (e : es[i]? = some p) (a : Tb) : addT (es.take (i + 1)) a = putT (addT (es.take i) a) p.1 (num (addT (es.take i) a) p.1 + p.2) := by
  rw [List.take_add_one, e, addT_app]
  rfl
theorem scl_get {f : Int} {l : Tb} {i : Nat} {p : Str × Int} (e : l[i]? = some p) : (scl f l)[i]? = some (p.1, f * p.2) := by
  unfold scl
  rw [List.getElem?_map, e]
  rfl
theorem scl_len (f : Int) (l : Tb) : (scl f l).length = l.length := List.length_map _
theorem fwd_get {q : Str × Int} {l : Tb} {i : Nat} {p : Str × Int} (e : l[i]? = some p) : (fwd q l)[i]? = some (q.1 ++ p.1, q.2 * p.2) := by
  unfold fwd
  rw [List.getElem?_map, e]
  rfl
theorem fwd_len (q : Str × Int) (l : Tb) : (fwd q l).length = l.length := List.length_map _
theorem prs_take {l m : Tb} {i : Nat} {p : Str × Int} (e : l[i]? = some p) : prs (l.take (i + 1)) m = prs (l.take i) m ++ fwd p m := by
  rw [List.take_add_one, e]
  unfold prs
  rw [List.flatMap_append]
  simp only [Option.toList_some, List.flatMap_cons, List.flatMap_nil, List.append_nil]
  rfl
theorem prs_len (l m : Tb) : (prs l m).length = l.length * m.length := by
  induction l with
  | nil => rw [show prs [] m = [] from rfl]; simp
  | cons p r ih => rw [prs_cons, List.length_append, ih, List.length_map, List.length_cons, Nat.add_mul]; omega
section
variable {P : Program} {w : World} {K : PySem.W.Frag} {mg : Str → Option Value} {base : Heap}
def spAdded : Sp := fun vs H Q _ => ∃ (d1 d2 : Addr) (f c : Int) (l1 l2 : Tb), vs = [.ref d1, .ref d2, .int f, .int c] ∧ 0 < c ∧ c ≤ 7 ∧ H d1 = some (.dK (kv l1)) ∧ H d2 = some (.dK (kv l2)) ∧ Nd l1 ∧ (∀ p ∈ l2, 1 ≤ p.2 ∧ p.2 < c) ∧ l1.length ≤ 400000 ∧ l2.length ≤ 400000 ∧
  ∀ H' D, Same H H' → H D = none → H' D = some (.dK (kv (tidyM c (addT (scl f l2) l1)))) → Q (.ref D) H'
abbrev nAdded : List Str := ["one", "other", "factor", "clock", "found", "word", "number"]
theorem sc_added : FnScope nAdded ["one", "other", "factor", "clock"] (defScope s_added) := ⟨rfl, rfl, rfl, by decide +kernel, rfl, by decide +kernel, by decide +kernel⟩
theorem ok_added (T : Top K mg) : Ok P w K mg base 2 "added" ["one", "other", "factor", "clock"] spAdded := by
  obtain ⟨fd, F⟩ := fn_added T
  refine ⟨⟨fd, ?_, F.bindsN fun _ _ _ _ _ _ us hl => match us, hl with | [_, _, _, _], _ => rfl⟩, g_added T, F.kp⟩
  refine F.ok sc_added (fun vs H Q E h => ?_) (fun cdv A outer s H vs Q E hr h => ?_)
  · obtain ⟨d1, d2, f, c, l1, l2, rfl, _⟩ := h
    rfl
  · obtain ⟨d1, d2, f, c, l1, l2, rfl, hc, hc7, h1, h2, hnd, hnu, hl1, hl2, q⟩ := h
    have nd := sc_added.nd
    have hu := hu_of hr
    have hs : sizeLine = 16777216 := sizeLine_eq
    refine ⟨_, PSs.nox (pss_cons (ps_set (i := 4) nd rfl (Or.inl rfl) (pe_callTy call_dictD (by rfl) (f_dict T) (by decide +kernel) (pa_cons (pv 0) pa_nil)))
      (pss_cons (ps_lock (ps_for PassesOwn.never rfl (pi_items (pv 1)) (pg_tup rfl (pgs_cons (pg_name (i := 5) nd rfl (Or.inl rfl)) (pgs_cons (pg_name (i := 6) nd rfl (Or.inl rfl)) pgs_nil)))
        (pss_one (ps_dput hu (pv 4) (pv 5) (pe_op op_add (pe_dget2 hu (pv 4) (pv 5) pe_int ⟨rfl, rfl, rfl, rfl⟩) (pe_op op_mul (pv 2) (pv 6))) rfl))))
      (pss_one (ps_ret (pc (ok_tidied T) hr (pa_cons (pv 4) (pa_cons (pv 3) pa_nil))))))), ?_⟩
    refine ⟨_, rfl, d1, kv l1, rfl, .inl h1, fun F0 hF => ?_⟩
    have n2F : d2 ≠ F0 := ne_of_none h2 hF
    refine ⟨d2, .dK (kv l2), by rw [upd_ne n2F]; exact h2, trivial, fun od => ?_⟩
    refine ⟨_, rfl, d2, od, kv l2, rfl, upd_same, ?_⟩
    refine for_it walk_items (fun i σ H' => (∃ v u, σ = [some (.ref d1), some (.ref d2), some (.int f), some (.int c), some (.ref F0), v, u]) ∧ H' F0 = some (.dK (kv (addT ((scl f l2).take i) l1))) ∧ But d2 H H' ∧ H' d2 = some (.frz od (.dK (kv l2))))
      ⟨⟨none, none, rfl⟩, ?_, ?_, upd_same⟩ (fun i σ H' _ hP => hP.2.2.2) ?_ ?_
    · rw [upd_ne n2F.symm, upd_same]
      rfl
    · intro b o e n
      rw [upd_ne n, upd_ne (ne_of_none e hF)]
      exact e
    · rintro i x σ H1 H2 hi ⟨⟨v, u, rfl⟩, p1, p2, p3⟩ ⟨t, k, v', rfl, ht, rfl, e1, e2⟩
      obtain ⟨p, ep, rfl, rfl⟩ := kv_item e1 e2
      have hn := hnu p (List.mem_of_getElem? ep)
      have nFt : F0 ≠ t := ne_of_none p1 ht
      have ndt : d2 ≠ t := ne_of_none p3 ht
      have p1' : (upd H1 t (.tup [.str p.1, .int p.2])) F0 = some (.dK (kv (addT ((scl f l2).take i) l1))) := by
        rw [upd_ne nFt]
        exact p1
      refine ⟨t, _, rfl, .inl (.inl upd_same), rfl, ?_⟩
      refine ⟨_, _, rfl, _, _, rfl, rfl, ?_⟩
      refine ⟨_, rfl, F0, rfl, .inl ⟨_, .inl p1'⟩, _, rfl, _, DGet.k (k := Sum.inr p.1) p1', ?_⟩
      rw [num_eq]
      refine ⟨_, rfl, _, rfl, _, _, rfl, rfl, .inr ⟨by omega, by omega⟩, _, _, rfl, rfl, ?_⟩
      refine ⟨_, rfl, _, rfl, F0, _, rfl, DPut.k (k := Sum.inr p.1) p1' ?_, ?_⟩
      · have := len_addT ((scl f l2).take i) l1
        rw [List.length_take, scl_len] at this
        rw [kv_len]
        omega
      · refine ⟨⟨_, _, rfl⟩, ?_, ?_, ?_⟩
        · rw [upd_same, putK_kv, addT_take (scl_get ep)]
        · intro b o z n
          rw [upd_ne (ne_of_none z hF), upd_ne (ne_of_none (p2 b o z n) ht)]
          exact p2 b o z n
        · rw [upd_ne n2F, upd_ne ndt]
          exact p3
    · rintro σ H' ⟨⟨v, u, rfl⟩, p1, p2, p3⟩
      rw [kv_len, List.take_of_length_le (by rw [scl_len]; exact Nat.le_refl _)] at p1
      refine ⟨p3, ?_⟩
      have base' : Same H (upd H' d2 (.dK (kv l2))) := fun b o e => by
        by_cases n : b = d2
        · rw [n, upd_same, ← h2, ← n, e]
        · rw [upd_ne n]
          exact p2 b o e n
      refine ⟨_, rfl, _, rfl, F0, c, _, rfl, hc, by rw [upd_ne n2F.symm]; exact p1, nd_addT _ _ hnd, ?_, fun H2 D s2 nD eD => q H2 D (base'.trans s2) (base'.free nD) eD⟩
      have := len_addT (scl f l2) l1
      rw [scl_len] at this
      omega
def spMult : Sp := fun vs H Q _ => ∃ (d1 d2 : Addr) (c : Int) (m1 k1 m2 k2 : Nat) (l1 l2 : Tb), vs = [.ref d1, .ref d2, .int c] ∧ 0 < c ∧ c ≤ 7 ∧ d1 ≠ d2 ∧ H d1 = some (.dK (kv l1)) ∧ H d2 = some (.dK (kv l2)) ∧ VT c m1 k1 l1 ∧ VT c m2 k2 l2 ∧ m1 ≤ 1000 ∧ m2 ≤ 1000 ∧ k1 * k2 ≤ 900000 ∧
  ∀ H' D, Same H H' → H D = none → H' D = some (.dK (kv (tidyM c (multT l1 l2)))) → Q (.ref D) H'
abbrev nMult : List Str := ["one", "other", "clock", "found", "front", "number", "back", "amount"]
end
end Fp

set_option Elab.async false
set_option linter.all false
set_option maxRecDepth 100000
set_option maxHeartbeats 4000000
namespace L2
open PySem PySem.Spec PyProof.Rows
/-- a walk over a list or a tuple, told by the heap -/
def iSeqV (K : PySem.W.Frag) (tl : TE) : TI := fun σ H R => tl σ H fun x H1 => ∃ a, x = .ref a ∧ (((∃ xs, SqL K H1 a xs) ∧ R (Itl K a) H1) ∨ ((∃ xs, SqT K H1 a xs) ∧ R (Itt K a) H1))
theorem pi_seqV {X : Cx} {tg : Expr} {l : Expr} {tl : TE} (he : PE X l tl) : PI X tg l (iSeqV X.K tl) := by
  constructor
  intro pins s σ H R I h
  refine thn (he.run pins s σ H _ I h) fun v t ⟨x, G, J, rr, a, e, hh⟩ => ?_
  subst e
  cases rr
  have fp : ∀ b ∈ [t.heap.objs.size], FpOk X pins G b := fun b hb => by
    rw [List.mem_singleton.mp hb]
    exact J.fpOk (Nat.le_refl _) (J.hok.fresh (Nat.le_refl _))
  have go : ∀ o, Inv X pins σ G { t with heap := t.heap.push o } := fun o => J.kept (t' := t.toks) fun b u z => Heap.get?_push_of_some _ z
  rcases hh with ⟨⟨xs, hq⟩, q⟩ | ⟨⟨xs, hq⟩, q⟩
  · obtain ⟨its, _, pl, _⟩ := J.list hq
    exact wpAny_pyIter_list pl.isList ⟨t.heap.objs.size, [t.heap.objs.size], _, _, G, rfl, go _, turn_list a _, ⟨_, Heap.get?_push_size _ rfl, rfl, rfl⟩, fp, q⟩
  · obtain ⟨its, _, pl, _⟩ := J.tuple hq
    exact wpAny_pyIter_tuple (show t.heap.IsTuple a its.toArray from pl) ⟨t.heap.objs.size, [t.heap.objs.size], _, _, G, rfl, go _, turn_tuple a _, ⟨_, Heap.get?_push_size _ rfl, rfl, rfl⟩, fp, q⟩
end L2
namespace Fp
open PySem PySem.Spec PyProof.Rows L2
/-! ### defs that may raise -/
structure OkX (P : Program) (w : World) (K : PySem.W.Frag) (mg : Str → Option Value) (base : Heap) (k : Nat) (x : Str) (ps : List Str) (sp : Sp) : Prop where
  ex : ∃ fd, FnOk P w K mg base (L2.CX P w) k (He.ga K x) fd ps sp ∧ Binds K fd ps []
  g : mg x = some (.ref (He.ga K x))
  kp : PySem.W.keepIn K (.ref (He.ga K x)) = true
/-- called where it doesn't raise -/
theorem pcL {X : Cx} {x : Str} {p pos : Pos} {e : Expr} {es : List Expr} {t : TA} {k : Nat} {ps : List Str} {sp : Sp} (G : OkX X.prog X.w X.K X.mg X.base k x ps sp) (hr : Room k X.A) (ha : PA X (e :: es) t) (hg : Gl X x := by rfl) (hdb : (x == ("__debug__" : Str)) = false := by decide)
    (he : starEach (e :: es) X.env = (false, eval e X.env) :: starEach es X.env := by rfl) (hpl : (backTo pos (starEach es X.env)).any (·.1) = false := by rfl) : PE X (.Call (.Name x p) (e :: es) [] pos) (tCall sp [] E0 t) := by
  obtain ⟨fd, F, b⟩ := G.ex
  exact pe_call F hr hg G.g G.kp b .nil passL ha hdb he hpl
/-- called where it may -/
theorem pcX {X : Cx} {W : WX} (tk : Takes X W) {x : Str} {p pos : Pos} {e : Expr} {es : List Expr} {t : TA} {k : Nat} {ps : List Str} {sp : Sp} (G : OkX X.prog X.w X.K X.mg X.base k x ps sp) (hr : Room k X.A) (ha : PA X (e :: es) t) (hg : Gl X x := by rfl) (hdb : (x == ("__debug__" : Str)) = false := by decide)
    (he : starEach (e :: es) X.env = (false, eval e X.env) :: starEach es X.env := by rfl) (hpl : (backTo pos (starEach es X.env)).any (·.1) = false := by rfl) : PE X (.Call (.Name x p) (e :: es) [] pos) (tCallS sp (fun σ => WE W σ) t) := by
  obtain ⟨fd, F, b⟩ := G.ex
  exact pe_callS F hr hg G.g G.kp b (fun σ => passAt tk σ) ha hdb he hpl
/-! ### bags: what callers know -/
theorem ck_range {c : Int} (h : isCk c) : 2 ≤ c ∧ c ≤ 7 := by
  rcases h with rfl | rfl | rfl | rfl <;> constructor <;> decide
theorem Lk.of_num {c : Int} {l m : Tb} (hl : Nd l) (hm : Nd m) (h : ∀ x, num l x = num m x) : Lk c l m := fun x => by rw [tot_num hl, tot_num hm, h x]
theorem lk_canon {c : Int} {l : Tb} (h : Nd l) : Lk c (canon l) l := Lk.of_num (canon_nd h) h (canon_num h)
theorem lk_tidy {c : Int} {l : Tb} (h : Nd l) : Lk c (tidyM c l) l := fun x => by rw [tot_num (tidy_nd h), tot_num h, num_tidy h, Int.emod_emod_of_dvd _ (Int.dvd_refl c)]
theorem lk_addT {c : Int} {es a : Tb} (h : Nd a) : Lk c (addT es a) (a ++ es) := fun x => by rw [tot_num (nd_addT _ _ h), num_addT, tot_app, tot_num h]
theorem lk_same {c : Int} {m k m' k' : Nat} {l l' : Tb} (hc : 0 < c) (h : VT c m k l) (h' : VT c m' k' l') (e : Lk c l l') : canon l = canon l' :=
  vt_ext h h' fun x => by
    have := e x
    rw [tot_num h.nd, tot_num h'.nd, num_mod hc h, num_mod hc h'] at this
    exact this
theorem lk_diff {c : Int} {m k m' k' : Nat} {l l' : Tb} (hc : 0 < c) (h : VT c m k l) (h' : VT c m' k' l') (e : canon l = canon l') : Lk c l l' := (lk_canon h.nd).symm.trans (e ▸ lk_canon h'.nd)
theorem lk_plus {c f : Int} {m k m' k' : Nat} {l1 l2 : Tb} (hc : 0 < c) (h1 : VT c m k l1) (h2 : VT c m k' l2) : Lk c (plusM c l1 l2 f) (l1 ++ scl f l2) := fun x => by
  rw [tot_num (vt_plusM hc h1 h2 f).nd, num_plusM (m' := 0) hc h1 h2, tot_app, tot_scl, tot_num h1.nd, tot_num h2.nd, Int.emod_emod_of_dvd _ (Int.dvd_refl c)]
theorem lk_prod {c : Int} {m1 k1 m2 k2 : Nat} {l1 l2 : Tb} (hc : 0 < c) (h1 : VT c m1 k1 l1) (h2 : VT c m2 k2 l2) : Lk c (prodM c l1 l2) (prs l1 l2) := fun x => by
  rw [tot_num (vt_prodM hc h1 h2).nd, num_prodM hc h1 h2, Int.emod_emod_of_dvd _ (Int.dvd_refl c)]
/-- a Bag of a table -/
def Bg (K : PySem.W.Frag) (H : Hp) (b : Addr) (c : Int) (m k : Nat) (l : Tb) : Prop := BagAt K H b c (canon l) ∧ VT c m k l
theorem Bg.same {K : PySem.W.Frag} {H H' : Hp} {b : Addr} {c : Int} {m k : Nat} {l : Tb} (h : Bg K H b c m k l) (s : Same H H') : Bg K H' b c m k l := ⟨h.1.same s, h.2⟩
theorem Bg.mono {K : PySem.W.Frag} {H : Hp} {b : Addr} {c : Int} {m k m' k' : Nat} {l : Tb} (h : Bg K H b c m k l) (h1 : m ≤ m') (h2 : k ≤ k') : Bg K H b c m' k' l := ⟨h.1, h.2.mono h1 h2⟩
theorem putF_flds (c : Int) (t t' : Addr) : putF "words" (.ref t') (flds c t) = flds c t' := by
  rw [flds_eq, flds_eq]
  show (if ("clock" : Str) = "words" then (("words" : Str), V.ref t') :: [("words", V.ref t)] else (("clock" : Str), V.int c) :: putF "words" (.ref t') [("words", V.ref t)]) = _
  rw [if_neg kwc]
  show (("clock" : Str), V.int c) :: (if ("words" : Str) = "words" then [(("words" : Str), V.ref t')] else _) = _
  rw [if_pos rfl]
section
variable {P : Program} {w : World} {K : PySem.W.Frag} {mg : Str → Option Value} {base : Heap}
def spTable (K : PySem.W.Frag) : Sp := fun vs H Q _ => ∃ (a : Addr) (c : Int) (L : Tb), vs = [.ref a] ∧ BagAt K H a c L ∧ Nd L ∧ ∀ D, H D = none → Q (.ref D) (upd H D (.dK (kv L)))
theorem pairs_kv {K : PySem.W.Frag} {H : Hp} {ps : List Addr} {L : Tb} (h : Paired (fun p (q : Str × Int) => H p = some (.tup [.str q.1, .int q.2])) ps L) : Paired (fun p (x : Key × V) => SqT K H p [kV x.1, x.2]) ps (kv L) := by
  induction h with
  | nil => exact .nil
  | cons e _ ih => exact .cons (.inl (.inl e)) ih
abbrev nTable : List Str := ["bag"]
theorem sc_table_of : FnScope nTable nTable (defScope s_table_of) := ⟨rfl, rfl, rfl, by decide +kernel, rfl, by decide +kernel, by decide +kernel⟩
theorem ok_table_of (T : Top K mg) : Ok P w K mg base 1 "table_of" nTable (spTable K) := by
  obtain ⟨fd, F⟩ := fn_table_of T
  refine ⟨⟨fd, ?_, F.bindsN fun _ _ _ _ _ _ us hl => match us, hl with | [_], _ => rfl⟩, g_table_of T, F.kp⟩
  refine F.ok sc_table_of (fun vs H Q E h => ?_) (fun cdv A outer s H vs Q E hr h => ?_)
  · obtain ⟨a, c, L, rfl, _⟩ := h
    rfl
  · obtain ⟨a, c, L, rfl, ⟨dx, t, ea, ps, o, hps, hpt, hpr⟩, hnd, q⟩ := h
    refine ⟨_, PSs.nox (pss_one (ps_ret (pe_callTy (call_dictPT rfl) (by rfl) (f_dict T) (by decide +kernel) (pa_cons (pe_fld (pv 0) rfl) pa_nil)))), ?_⟩
    refine ⟨_, rfl, a, _, dx, _, _, rfl, ea, cls_Bag T, na_Bag_words T, flds_words _ _, ?_⟩
    refine ⟨t, o, ps, kv L, rfl, hps, hpt, pairs_kv hpr, fun D nD => ?_⟩
    rw [merge_kv hnd]
    exact q D nD
def spBagOf (K : PySem.W.Frag) : Sp := fun vs H Q _ => ∃ (c : Int) (d : Addr) (l : Tb), vs = [.int c, .ref d] ∧ isCk c ∧ H d = some (.dK (kv l)) ∧ Nd l ∧ (∀ p ∈ l, p.1.length ≤ 1000000) ∧ l.length ≤ 1000000 ∧
  ∀ H' b, Same H H' → H b = none → BagAt K H' b c (canon (tidyM c l)) → Q (.ref b) H'
abbrev nBagOf : List Str := ["clock", "table", "bag"]
theorem sc_bag_of : FnScope nBagOf ["clock", "table"] (defScope s_bag_of) := ⟨rfl, rfl, rfl, by decide +kernel, rfl, by decide +kernel, by decide +kernel⟩
theorem made_dict {H : Hp} {d x dx : Addr} {o u v : HO} (hd : H d = some o) (hx : H x = none) (hdx : H dx = none) : (upd (upd H dx u) x v) d = some o := by
  rw [upd_ne (ne_of_none hd hx), upd_ne (ne_of_none hd hdx)]
  exact hd
theorem made_same {H H' : Hp} {x dx : Addr} {u v : HO} (k : But x (upd (upd H dx u) x v) H') (hx : H x = none) (hdx : H dx = none) : Same H H' := fun b o e => by
  refine k b o ?_ (ne_of_none e hx)
  rw [upd_ne (ne_of_none e hx), upd_ne (ne_of_none e hdx)]
  exact e
theorem ok_bag_of (T : Top K mg) : Ok P w K mg base 7 "bag_of" ["clock", "table"] (spBagOf K) := by
  obtain ⟨fd, F⟩ := fn_bag_of T
  refine ⟨⟨fd, ?_, F.bindsN fun _ _ _ _ _ _ us hl => match us, hl with | [_, _], _ => rfl⟩, g_bag_of T, F.kp⟩
  refine F.ok sc_bag_of (fun vs H Q E h => ?_) (fun cdv A outer s H vs Q E hr h => ?_)
  · obtain ⟨c, d, l, rfl, _⟩ := h
    rfl
  · obtain ⟨c, d, l, rfl, hc, hd, hnd, hwl, hll, q⟩ := h
    have nd := sc_bag_of.nd
    have hu := hu_of hr
    have hr1 : Room 1 _ := hr.mono (by decide)
    have hr2 : Room 2 _ := hr.mono (by decide)
    obtain ⟨hc2, hc7⟩ := ck_range hc
    refine ⟨_, PSs.nox (pss_cons (ps_set (i := 2) nd rfl (Or.inl rfl) (pbag T hr (pa_cons (pv 0) (pa_cons pe_dnewK pa_nil))))
      (pss_cons (ps_fld (pv 2) (pc (ok_pairs_of T) hr2 (pa_cons (pc (ok_tidied T) hr1 (pa_cons (pv 1) (pa_cons (pv 0) pa_nil))) pa_nil)) rfl)
      (pss_one (ps_ret (pv 2))))), ?_⟩
    refine ⟨_, rfl, fun D hD b dx hb hdx ne => ?_⟩
    refine ⟨b, D, dx, c, [], rfl, upd_same, hc, made_dict upd_same hb hdx, (vt_nil c 12).mono (Nat.le_refl _) (by decide), fun H1 k1 hb1 => ⟨rfl, ?_⟩⟩
    have s1 : Same H H1 := (same_upd hD).trans (made_same k1 hb hdx)
    have hb0 : H b = none := (same_upd hD).free hb
    refine ⟨_, rfl, _, rfl, d, c, l, rfl, by omega, s1 _ _ hd, hnd, hll, fun H2 D2 s2 nD2 eD2 => ?_⟩
    refine ⟨D2, tidyM c l, rfl, eD2, tidy_nd hnd, fun p hp => ?_, Nat.le_trans tidy_len hll, fun H3 t s3 nt wt => ?_⟩
    · obtain ⟨p', h1, rfl, _⟩ := tidy_keys hp
      exact hwl p' h1
    obtain ⟨dx', t0, eb, w0⟩ := (hb1.same s2).same s3
    refine ⟨_, rfl, b, _, dx', _, rfl, eb, cls_Bag T, na_Bag_words T, by rw [flds_eq]; show 2 < 1000; decide, ?_⟩
    refine ⟨_, rfl, q _ b (fun y o e => ?_) hb0 ⟨dx', t, ?_, ?_⟩⟩
    · rw [upd_ne (ne_of_none e hb0)]
      exact s3 _ _ (s2 _ _ (s1 _ _ e))
    · rw [upd_same, putF_flds]
      rfl
    · refine wt.but (a := b) but_upd (fun e => ?_) fun xs z => ?_
      · obtain ⟨ps, o, h1, _⟩ := wt
        rw [e, eb] at h1
        cases h1
      · rw [eb] at z
        cases z
/-! ### unlike clocks -/
def spClocks (K : PySem.W.Frag) : Sp := fun vs H Q E => ∃ (a b : Addr) (c c' : Int) (L M : Tb), vs = [.ref a, .ref b] ∧ BagAt K H a c L ∧ BagAt K H b c' M ∧ (c = c' → Q .non H) ∧ (c ≠ c' → E (.ref (He.ga K "UnlikeClocks")) none H)
abbrev nClocks : List Str := ["one", "other"]
theorem sc_check_clocks : FnScope nClocks nClocks (defScope s_check_clocks) := ⟨rfl, rfl, rfl, by decide +kernel, rfl, by decide +kernel, by decide +kernel⟩
theorem ok_check_clocks (T : Top K mg) : OkX P w K mg base 1 "check_clocks" nClocks (spClocks K) := by
  obtain ⟨fd, F⟩ := fn_check_clocks T
  obtain ⟨x1, x2, x3, x4⟩ := e_UnlikeClocks T
  refine ⟨⟨fd, ?_, F.bindsN fun _ _ _ _ _ _ us hl => match us, hl with | [_, _], _ => rfl⟩, g_check_clocks T, F.kp⟩
  refine F.ok sc_check_clocks (fun vs H Q E h => ?_) (fun cdv A outer s H vs Q E hr h => ?_)
  · obtain ⟨a, b, c, c', L, M, rfl, _⟩ := h
    rfl
  · obtain ⟨a, b, c, c', L, M, rfl, ⟨dx, t, ea, _⟩, ⟨dy, t', eb, _⟩, q1, q2⟩ := h
    refine ⟨_, pss_one (ps_if (pt_cmpR op_ne (pe_fld (pv 0) rfl) (pe_fld (pv 1) rfl) (nomark _)) (pss_one (ps_raise rfl (takes_of rfl rfl rfl rfl) (pmk_own0 PySem.F.excBase_ValueError x1 (g_UnlikeClocks T) x2 (raises_own x3 x4) rfl))) pss_nil), ?_⟩
    refine ⟨_, rfl, a, _, dx, _, _, rfl, ea, cls_Bag T, na_Bag_clock T, flds_clock _ _, _, rfl, b, _, dy, _, _, rfl, eb, cls_Bag T, na_Bag_clock T, flds_clock _ _, rfl, _, rfl, ?_⟩
    refine ite2 (fun hne => ?_) (fun hne => ?_)
    · refine q2 fun z => ?_
      rw [z] at hne
      simp at hne
    · refine q1 ?_
      simpa using hne
end
end Fp

set_option Elab.async false
set_option linter.all false
set_option maxRecDepth 100000
set_option maxHeartbeats 4000000
namespace Fp
open PySem PySem.Spec PyProof.Rows L2
abbrev invs : WTab := [(2, [0, 1]), (3, [0, 1, 2]), (5, [0, 1, 3, 2, 4]), (7, [0, 1, 4, 5, 2, 3, 6])]
theorem inv_get {c : Int} (hc : isCk c) : ∃ ns : List Int, (c, ns) ∈ invs ∧ ∀ r : Nat, (r : Int) < c → ∃ m : Int, ns[r]? = some m ∧ 0 ≤ m ∧ m < c ∧ (r ≠ 0 → ((r : Int) * m) % c = 1 ∧ 1 ≤ m) := by
  rcases hc with rfl | rfl | rfl | rfl
  · refine ⟨[0, 1], by decide, fun r hr => ?_⟩
    have hr : r < 2 := by omega
    match r, hr with
    | 0, _ => exact ⟨0, rfl, by decide, by decide, fun h => absurd rfl h⟩
    | 1, _ => exact ⟨1, rfl, by decide, by decide, fun _ => by decide⟩
  · refine ⟨[0, 1, 2], by decide, fun r hr => ?_⟩
    have hr : r < 3 := by omega
    match r, hr with
    | 0, _ => exact ⟨0, rfl, by decide, by decide, fun h => absurd rfl h⟩
    | 1, _ => exact ⟨1, rfl, by decide, by decide, fun _ => by decide⟩
    | 2, _ => exact ⟨2, rfl, by decide, by decide, fun _ => by decide⟩
  · refine ⟨[0, 1, 3, 2, 4], by decide, fun r hr => ?_⟩
    have hr : r < 5 := by omega
    match r, hr with
    | 0, _ => exact ⟨0, rfl, by decide, by decide, fun h => absurd rfl h⟩
    | 1, _ => exact ⟨1, rfl, by decide, by decide, fun _ => by decide⟩
    | 2, _ => exact ⟨3, rfl, by decide, by decide, fun _ => by decide⟩
    | 3, _ => exact ⟨2, rfl, by decide, by decide, fun _ => by decide⟩
    | 4, _ => exact ⟨4, rfl, by decide, by decide, fun _ => by decide⟩
  · refine ⟨[0, 1, 4, 5, 2, 3, 6], by decide, fun r hr => ?_⟩
    have hr : r < 7 := by omega
    match r, hr with
    | 0, _ => exact ⟨0, rfl, by decide, by decide, fun h => absurd rfl h⟩
    | 1, _ => exact ⟨1, rfl, by decide, by decide, fun _ => by decide⟩
    | 2, _ => exact ⟨4, rfl, by decide, by decide, fun _ => by decide⟩
    | 3, _ => exact ⟨5, rfl, by decide, by decide, fun _ => by decide⟩
    | 4, _ => exact ⟨2, rfl, by decide, by decide, fun _ => by decide⟩
    | 5, _ => exact ⟨3, rfl, by decide, by decide, fun _ => by decide⟩
    | 6, _ => exact ⟨6, rfl, by decide, by decide, fun _ => by decide⟩
section
variable {P : Program} {w : World} {K : PySem.W.Frag} {mg : Str → Option Value} {base : Heap}
/-- the number that gives 1 -/
def spInv : Sp := fun vs H Q _ => ∃ (n c : Int), vs = [.int n, .int c] ∧ isCk c ∧ ∀ m : Int, 0 ≤ m → m < c → (n % c ≠ 0 → (n * m) % c = 1 ∧ 1 ≤ m) → Q (.int m) H
abbrev nInv : List Str := ["number", "clock"]
theorem sc_inverse : FnScope nInv nInv (defScope s_inverse) := ⟨rfl, rfl, rfl, by decide +kernel, rfl, by decide +kernel, by decide +kernel⟩
theorem ok_inverse (T : Top K mg) : Ok P w K mg base 1 "inverse" nInv spInv := by
  obtain ⟨fd, F⟩ := fn_inverse T
  refine ⟨⟨fd, ?_, F.bindsN fun _ _ _ _ _ _ us hl => match us, hl with | [_, _], _ => rfl⟩, g_inverse T, F.kp⟩
  refine F.ok sc_inverse (fun vs H Q E h => ?_) (fun cdv A outer s H vs Q E hr h => ?_)
  · obtain ⟨n, c, rfl, _⟩ := h
    rfl
  · obtain ⟨n, c, rfl, hc, q⟩ := h
    obtain ⟨hc2, hc7⟩ := ck_range hc
    refine ⟨_, PSs.nox (pss_one (ps_ret (pe_ix ix_tup (pe_wd (t := invs) (by decide) (pe_glob (v := .ref (He.ga K "INVERSES")) rfl (g_INVERSES T) rfl) (pv 1) (fun _ _ => rfl)) (pe_op op_mod (pv 0) (pv 1)) (fun _ _ => rfl)))), ?_⟩
    obtain ⟨ns, h1, h2⟩ := inv_get hc
    have m0 := Int.emod_nonneg n (show c ≠ 0 by omega)
    have m1 := Int.emod_lt_of_pos n (show 0 < c by omega)
    obtain ⟨r, er⟩ : ∃ r : Nat, n % c = r := ⟨(n % c).toNat, (Int.toNat_of_nonneg m0).symm⟩
    obtain ⟨m, e1, e2, e3, e4⟩ := h2 r (by omega)
    refine ⟨_, rfl, He.ga K "INVERSES", c, ns, rfl, w_INVERSES T, rfl, h1, fun b hb => ?_⟩
    refine ⟨_, rfl, _, rfl, _, _, rfl, rfl, (by show 0 < c; omega), b, ns.map V.int, r, .int m, rfl, ?_, tupO_sq hb _, atI_nat (by rw [List.getElem?_map, e1]; rfl), q m e2 e3 fun hz => ?_⟩
    · show V.int (n % c) = _
      rw [er]
    · have := e4 (by omega)
      rw [Int.mul_emod, er, Int.emod_eq_of_lt e2 e3]
      exact this
def spScaled : Sp := fun vs H Q _ => ∃ (d : Addr) (f c : Int) (l : Tb), vs = [.ref d, .int f, .int c] ∧ 0 < c ∧ c ≤ 7 ∧ H d = some (.dK (kv l)) ∧ Nd l ∧ (∀ p ∈ l, 1 ≤ p.2 ∧ p.2 < c) ∧ l.length ≤ 1000000 ∧ ∀ H' D, Same H H' → H D = none → H' D = some (.dK (kv (tidyM c (scl f l)))) → Q (.ref D) H'
abbrev nScaled : List Str := ["table", "factor", "clock", "word", "number"]
theorem sc_scaled : FnScope nScaled ["table", "factor", "clock"] (defScope s_scaled) := ⟨rfl, rfl, rfl, by decide +kernel, rfl, by decide +kernel, by decide +kernel⟩
theorem scl_nd {f : Int} {l : Tb} (h : Nd l) : Nd (scl f l) := by
  unfold Nd scl
  rw [List.map_map]
  exact h
theorem scl_take {f : Int} {l : Tb} {i : Nat} {p : Str × Int} (e : l[i]? = some p) : scl f (l.take (i + 1)) = scl f (l.take i) ++ [(p.1, f * p.2)] := by
  rw [List.take_add_one, e]
  unfold scl
  rw [List.map_append]
  rfl
theorem has_take {l : Tb} (h : Nd l) {i : Nat} {p : Str × Int} (e : l[i]? = some p) : has (l.take i) p.1 = false := by
  cases z : has (l.take i) p.1 with
  | false => rfl
  | true =>
    exfalso
    have h1 : Nd (l.take (i + 1)) := by
      unfold Nd
      rw [List.map_take]
      exact (List.take_sublist _ _).nodup h
    unfold Nd at h1
    rw [List.take_add_one, e, List.map_append] at h1
    exact (List.nodup_append.mp h1).2.2 p.1 (has_iff.mp z) p.1 (by simp) rfl
theorem ok_scaled (T : Top K mg) : Ok P w K mg base 2 "scaled" ["table", "factor", "clock"] spScaled := by
  obtain ⟨fd, F⟩ := fn_scaled T
  refine ⟨⟨fd, ?_, F.bindsN fun _ _ _ _ _ _ us hl => match us, hl with | [_, _, _], _ => rfl⟩, g_scaled T, F.kp⟩
  refine F.ok sc_scaled (fun vs H Q E h => ?_) (fun cdv A outer s H vs Q E hr h => ?_)
  · obtain ⟨d, f, c, l, rfl, _⟩ := h
    rfl
  · obtain ⟨d, f, c, l, rfl, hc, hc7, hd, hnd, hnu, hll, q⟩ := h
    have nd := sc_scaled.nd
    have hu := hu_of hr
    have hs : sizeLine = 16777216 := sizeLine_eq
    refine ⟨_, PSs.nox (pss_one (ps_ret (pc (ok_tidied T) hr (pa_cons (pe_lock (pe_dc (own := [("word", 3), ("number", 4)]) (g := gPair K 3 4) (tt := tYes) (tk := tVar 3) (tv := tOp (rI CMul fun i j => .int (i * j)) (tVar 4) (tVar 1)) rfl nd (pi_items (pv 0)) (blkOk_by (N := nScaled) (sc := defScope s_scaled) (by decide +kernel))
      (fun _ _ _ _ _ => pg_tup rfl (pgs_cons (pg_name (i := 3) nd rfl (Or.inl rfl)) (pgs_cons (pg_name (i := 4) nd rfl (Or.inl rfl)) pgs_nil)))
      (fun _ _ _ _ _ => pts_nil) (fun _ _ _ _ _ => pv 3) (fun _ _ _ _ _ => pe_op op_mul (pv 4) (pv 1)))) (pa_cons (pv 2) pa_nil))))), ?_⟩
    refine ⟨d, _, hd, trivial, fun od => ?_⟩
    refine ⟨_, rfl, d, od, kv l, rfl, upd_same, fun D hD => ?_⟩
    have nD : D ≠ d := fun e => by
      rw [e, upd_same] at hD
      cases hD
    have hD0 : H D = none := by
      rw [upd_ne nD] at hD
      exact hD
    refine dc_it walk_items (fun i H' => H' D = some (.dK (kv (scl f (l.take i)))) ∧ But d H H' ∧ H' d = some (.frz od (.dK (kv l)))) ⟨upd_same, ?_, ?_⟩ (fun i H' _ hP => hP.2.2) ?_ ?_
    · intro b o e n
      rw [upd_ne (ne_of_none e hD0), upd_ne n]
      exact e
    · rw [upd_ne nD.symm]
      exact upd_same
    · rintro i x H1 H2 hi ⟨p1, p2, p3⟩ ⟨t, k, v, rfl, ht, rfl, e1, e2⟩
      obtain ⟨p, ep, rfl, rfl⟩ := kv_item e1 e2
      have hn := hnu p (List.mem_of_getElem? ep)
      have nt : D ≠ t := ne_of_none p1 ht
      have ndt : d ≠ t := ne_of_none p3 ht
      rw [kv_len] at hi
      refine ⟨t, _, rfl, .inl (.inl upd_same), rfl, ?_⟩
      refine ⟨_, _, rfl, _, _, rfl, rfl, rfl, ?_⟩
      have hz : has (scl f (l.take i)) p.1 = false := by
        rw [← Bool.not_eq_true, has_iff]
        intro hm
        have : p.1 ∈ (l.take i).map (·.1) := by
          unfold scl at hm
          rw [List.map_map] at hm
          exact hm
        rw [← has_iff, has_take hnd ep] at this
        cases this
      refine ⟨_, rfl, _, rfl, _, rfl, _, _, rfl, rfl, .inl ⟨by omega, by omega⟩, _, Sum.inr p.1, rfl, by rw [upd_ne nt]; exact p1, by rw [kv_len, scl_len, List.length_take]; omega, ?_, ?_, ?_⟩
      · rw [upd_same, putK_kv, scl_take ep, Int.mul_comm p.2 f]
        unfold putT
        rw [hz, if_neg Bool.false_ne_true]
      · intro b o e n
        rw [upd_ne (ne_of_none e hD0), upd_ne (ne_of_none (p2 b o e n) ht)]
        exact p2 b o e n
      · rw [upd_ne nD.symm, upd_ne ndt]
        exact p3
    · rintro H' ⟨p1, p2, p3⟩
      rw [kv_len, List.take_length] at p1
      refine ⟨p3, ?_⟩
      have base' : Same H (upd H' d (.dK (kv l))) := fun b o e => by
        by_cases n : b = d
        · rw [n, upd_same, ← hd, ← n, e]
        · rw [upd_ne n]
          exact p2 b o e n
      exact ⟨_, rfl, D, c, _, rfl, hc, by rw [upd_ne nD]; exact p1, scl_nd hnd, by rw [scl_len]; exact hll, fun H2 D2 s2 n2 e2 => q H2 D2 (base'.trans s2) (base'.free n2) e2⟩
end
end Fp

set_option Elab.async false
set_option linter.all false
set_option maxRecDepth 100000
set_option maxHeartbeats 4000000
namespace Fp
open PySem PySem.Spec PyProof.Rows L2
section
variable {P : Program} {w : World} {K : PySem.W.Frag} {mg : Str → Option Value} {base : Heap}
def spWords : Sp := fun vs H Q _ => ∃ (d : Addr) (l : Tb), vs = [.ref d] ∧ H d = some (.dK (kv l)) ∧ Nd l ∧ (∀ p ∈ l, p.1.length ≤ 1000000) ∧ l.length ≤ 1000000 ∧ ∀ H' t, Same H H' → H t = none → WordsAt H' t (canon l) → Q (.ref t) H'
abbrev nWords : List Str := ["_law_bag", "_law_word_here"]
/-- told just so -/
def spIs (K : PySem.W.Frag) : Sp := fun vs H Q _ => ∃ (b d : Addr) (c : Int) (l : Tb), vs = [.ref b, .int c, .ref d] ∧ BagAt K H b c (canon l) ∧ H d = some (.dK (kv l)) ∧ Nd l ∧ (∀ p ∈ l, p.1.length ≤ 1000000) ∧ l.length ≤ 1000000 ∧ ∀ H', Same H H' → Q (.bl true) H'
abbrev nIs : List Str := ["_law_told", "_law_clock_here", "_law_bag"]
end
end Fp

set_option Elab.async false
set_option linter.all false
set_option maxRecDepth 100000
set_option maxHeartbeats 4000000
namespace Fp
open PySem PySem.Spec PyProof.Rows L2
/-- the pairs at a tuple, told by place -/
theorem WordsAt.get {H : Hp} {t : Addr} {L : Tb} (h : WordsAt H t L) : ∃ (ps : List Addr) (o : Obj), H t = some (.frz o (.tup (ps.map V.ref))) ∧ ps.length = L.length ∧ ∀ (i : Nat) (q : Str × Int), L[i]? = some q → ∃ p, ps[i]? = some p ∧ H p = some (.tup [.str q.1, .int q.2]) := by
  obtain ⟨ps, o, h1, _, h3⟩ := h
  refine ⟨ps, o, h1, ?_, ?_⟩
  · clear h1
    induction h3 with
    | nil => rfl
    | cons _ _ ih => rw [List.length_cons, List.length_cons, ih]
  · clear h1
    induction h3 with
    | nil => intro i q e; simp at e
    | @cons p q0 ps L e _ ih =>
      intro i q eq
      cases i with
      | zero =>
        have : q0 = q := Option.some.inj eq
        exact ⟨p, rfl, this ▸ e⟩
      | succ i => exact ih i q eq
section
variable {P : Program} {w : World} {K : PySem.W.Frag} {mg : Str → Option Value} {base : Heap}
def spSomething (K : PySem.W.Frag) : Sp := fun vs H Q E => ∃ (a : Addr) (c : Int) (L : Tb), vs = [.ref a] ∧ BagAt K H a c L ∧ (L ≠ [] → Q .non H) ∧ (L = [] → E (.ref (He.ga K "IsNothing")) none H)
theorem sc_check_something : FnScope ["bag"] ["bag"] (defScope s_check_something) := ⟨rfl, rfl, rfl, by decide +kernel, rfl, by decide +kernel, by decide +kernel⟩
theorem ok_check_something (T : Top K mg) : OkX P w K mg base 1 "check_something" ["bag"] (spSomething K) := by
  obtain ⟨fd, F⟩ := fn_check_something T
  obtain ⟨x1, x2, x3, x4⟩ := e_IsNothing T
  refine ⟨⟨fd, ?_, F.bindsN fun _ _ _ _ _ _ us hl => match us, hl with | [_], _ => rfl⟩, g_check_something T, F.kp⟩
  refine F.ok sc_check_something (fun vs H Q E h => ?_) (fun cdv A outer s H vs Q E hr h => ?_)
  · obtain ⟨a, c, L, rfl, _⟩ := h
    rfl
  · obtain ⟨a, c, L, rfl, ⟨dx, t, ea, wt⟩, q1, q2⟩ := h
    obtain ⟨ps, o, e1, e2, e3⟩ := WordsAt.get wt
    refine ⟨_, pss_one (ps_if (pt_not (pt_truth (pe_fld (pv 0) rfl) (fun _ => rfl))) (pss_one (ps_raise rfl (takes_of rfl rfl rfl rfl) (pmk_own0 PySem.F.excBase_ValueError x1 (g_IsNothing T) x2 (raises_own x3 x4) rfl))) pss_nil), ?_⟩
    refine ⟨_, rfl, a, _, dx, _, _, rfl, ea, cls_Bag T, na_Bag_words T, flds_words _ _, ?_⟩
    refine ⟨_, .inr (.inl ⟨_, .inl (.inr ⟨o, e1⟩), rfl⟩), ?_⟩
    cases L with
    | nil =>
      have : ps = [] := List.eq_nil_of_length_eq_zero e2
      subst this
      exact ite2 (fun _ => q2 rfl) (fun z => absurd rfl z)
    | cons p r =>
      cases ps with
      | nil => simp at e2
      | cons p1 ps => exact ite2 (fun z => absurd z (by simp)) (fun _ => q1 (by simp))
end
end Fp

set_option Elab.async false
set_option linter.all false
set_option maxRecDepth 100000
set_option maxHeartbeats 2000000
/-! heaps in arrays: what one exchange keeps -/
namespace Fp
section
variable {α : Type} {le : α → α → Prop}
/-- two places exchanged -/
def swapA (X : Array α) (i j : Nat) (x y : α) : Array α := (X.setIfInBounds i y).setIfInBounds j x
theorem swapA_size (X : Array α) (i j : Nat) (x y : α) : (swapA X i j x y).size = X.size := by
  unfold swapA
  rw [Array.size_setIfInBounds, Array.size_setIfInBounds]
theorem swapA_get {X : Array α} {i j : Nat} {x y : α} (hi : i < X.size) (hj : j < X.size) (k : Nat) : (swapA X i j x y)[k]? = if k = j then some x else if k = i then some y else X[k]? := by
  unfold swapA
  rw [Array.getElem?_setIfInBounds]
  by_cases h1 : j = k
  · subst h1
    rw [if_pos rfl, if_pos rfl, if_pos (by rw [Array.size_setIfInBounds]; exact hj)]
  · rw [if_neg h1, if_neg (fun z => h1 z.symm), Array.getElem?_setIfInBounds]
    by_cases h2 : i = k
    · subst h2
      rw [if_pos rfl, if_pos hi, if_pos rfl]
    · rw [if_neg h2, if_neg (fun z => h2 z.symm)]
theorem swapA_perm {X : Array α} {i j : Nat} {x y : α} (hx : X[i]? = some x) (hy : X[j]? = some y) : (swapA X i j x y).toList.Perm X.toList := by
  obtain ⟨hi, ex⟩ := Array.getElem?_eq_some_iff.mp hx
  obtain ⟨hj, ey⟩ := Array.getElem?_eq_some_iff.mp hy
  have e : swapA X i j x y = X.swap i j hi hj := by
    apply Array.ext_getElem?
    intro k
    rw [swapA_get hi hj, Array.getElem?_swap, ex, ey]
    by_cases h1 : k = j
    · subst h1
      simp
    · by_cases h2 : k = i
      · subst h2
        simp [h1, Ne.symm h1]
      · simp [h1, h2, Ne.symm h1, Ne.symm h2]
  rw [e]
  exact Array.perm_iff_toList_perm.mp (Array.swap_perm hi hj)
/-- the edge above a place is in order -/
def Ed (le : α → α → Prop) (X : Array α) (i : Nat) : Prop := ∀ v p, X[i]? = some v → X[(i - 1) / 2]? = some p → le p v
/-- a place below a top -/
inductive Sub (top : Nat) : Nat → Prop
  | top : Sub top top
  | down {p c : Nat} (h : Sub top p) (h1 : 1 ≤ c) (h2 : (c - 1) / 2 = p) : Sub top c
theorem Sub.le_ {top pos : Nat} (h : Sub top pos) : top ≤ pos := by
  induction h with
  | top => exact Nat.le_refl _
  | down _ h1 h2 ih => omega
theorem Sub.up {top pos : Nat} (h : Sub top pos) (hp : top < pos) : Sub top ((pos - 1) / 2) := by
  cases h with
  | top => omega
  | down h h1 h2 => rw [h2]; exact h
theorem Sub.tp {top pos : Nat} (h : Sub top pos) : top ≤ pos ∧ (top = pos ∨ top ≤ (pos - 1) / 2) := by
  have := h.le_
  by_cases e : top = pos
  · exact ⟨this, .inl e⟩
  · exact ⟨this, .inr (h.up (by omega)).le_⟩
/-- all edges but those at one place, from a top on; what stands below the place is behind what stands above it -/
structure Dn (le : α → α → Prop) (X : Array α) (top pos : Nat) : Prop where
  ed : ∀ i, 1 ≤ i → top ≤ (i - 1) / 2 → (i - 1) / 2 ≠ pos → i ≠ pos → Ed le X i
  br : ∀ c, 1 ≤ c → (c - 1) / 2 = pos → top < pos → ∀ v p, X[c]? = some v → X[(pos - 1) / 2]? = some p → le p v
  sb : Sub top pos
/-- all edges but the one above a place -/
structure Up (le : α → α → Prop) (X : Array α) (top pos : Nat) : Prop where
  ed : ∀ i, 1 ≤ i → top ≤ (i - 1) / 2 → i ≠ pos → Ed le X i
  br : ∀ c, 1 ≤ c → (c - 1) / 2 = pos → top < pos → ∀ v p, X[c]? = some v → X[(pos - 1) / 2]? = some p → le p v
  sb : Sub top pos
def Hpd (le : α → α → Prop) (X : Array α) (top : Nat) : Prop := ∀ i, 1 ≤ i → top ≤ (i - 1) / 2 → Ed le X i
theorem Dn.leaf {X : Array α} {top pos : Nat} (h : Dn le X top pos) (hp : X.size / 2 ≤ pos) : Up le X top pos := by
  refine ⟨fun i h1 h2 h3 => ?_, fun c h1 h2 h3 v p e1 e2 => ?_, h.sb⟩
  · by_cases hq : (i - 1) / 2 = pos
    · intro v p e1 e2
      have := (Array.getElem?_eq_some_iff.mp e1).1
      omega
    · exact h.ed i h1 h2 hq h3
  · have := (Array.getElem?_eq_some_iff.mp e1).1
    omega
theorem Up.stop {X : Array α} {top pos : Nat} (h : Up le X top pos) (hp : pos ≤ top ∨ Ed le X pos) : Hpd le X top := fun i h1 h2 => by
  by_cases e : i = pos
  · subst e
    rcases hp with hp | hp
    · have := h.sb.tp
      omega
    · exact hp
  · exact h.ed i h1 h2 e
/-- one place down: the lesser of two, or the only one, comes up -/
theorem Dn.step {X : Array α} {top pos c : Nat} {v x : α} (h : Dn le X top pos) (hc : (c - 1) / 2 = pos) (c1 : 1 ≤ c) (hv : X[pos]? = some v) (hx : X[c]? = some x) (hmin : ∀ d y, 1 ≤ d → (d - 1) / 2 = pos → d ≠ c → X[d]? = some y → le x y) :
    Dn le (swapA X c pos x v) top c := by
  obtain ⟨hcs, _⟩ := Array.getElem?_eq_some_iff.mp hx
  obtain ⟨hps, _⟩ := Array.getElem?_eq_some_iff.mp hv
  have htp := h.sb.tp
  have get := fun k => swapA_get (x := x) (y := v) hcs hps k
  have hne : c ≠ pos := by omega
  refine ⟨fun i h1 h2 h3 h4 u p e1 e2 => ?_, fun d h1 h2 h3 u p e1 e2 => ?_, .down h.sb c1 hc⟩
  · rw [get] at e1 e2
    by_cases hi : i = pos
    · subst hi
      rw [if_pos rfl] at e1
      have hpp : (i - 1) / 2 ≠ i := by omega
      rw [if_neg hpp, if_neg h3] at e2
      cases e1
      exact h.br c c1 hc (by omega) x p hx e2
    · rw [if_neg hi, if_neg h4] at e1
      by_cases hq : (i - 1) / 2 = pos
      · rw [if_pos hq] at e2
        cases e2
        exact hmin i u h1 hq h4 e1
      · rw [if_neg hq, if_neg h3] at e2
        exact h.ed i h1 h2 hq hi u p e1 e2
  · rw [get] at e1 e2
    have hd1 : d ≠ pos := by omega
    have hd2 : d ≠ c := by omega
    rw [if_neg hd1, if_neg hd2] at e1
    rw [hc, if_pos rfl] at e2
    cases e2
    exact h.ed d h1 (by omega) (by omega) hd1 u x e1 (by rw [h2]; exact hx)
/-- one place up -/
theorem Up.step (tot : ∀ a b, le a b ∨ le b a) (tr : ∀ a b c, le a b → le b c → le a c) {X : Array α} {top pos : Nat} {v x : α} (h : Up le X top pos) (ht : top < pos) (hv : X[pos]? = some v) (hx : X[(pos - 1) / 2]? = some x) (hlt : ¬ le x v) :
    Up le (swapA X ((pos - 1) / 2) pos x v) top ((pos - 1) / 2) := by
  obtain ⟨hcs, _⟩ := Array.getElem?_eq_some_iff.mp hx
  obtain ⟨hps, _⟩ := Array.getElem?_eq_some_iff.mp hv
  have htp := h.sb.tp
  have htq := (h.sb.up ht).tp
  have get := fun k => swapA_get (x := x) (y := v) hcs hps k
  have hne : (pos - 1) / 2 ≠ pos := by omega
  have hvx : le v x := (tot v x).resolve_right hlt
  have hE : ∀ i u, 1 ≤ i → (i - 1) / 2 = (pos - 1) / 2 → i ≠ pos → X[i]? = some u → le x u := fun i u h1 h2 h3 e => h.ed i h1 (by omega) h3 u x e (by rw [h2]; exact hx)
  refine ⟨fun i h1 h2 h3 u p e1 e2 => ?_, fun d h1 h2 h3 u p e1 e2 => ?_, h.sb.up ht⟩
  · rw [get] at e1 e2
    by_cases hi : i = pos
    · subst hi
      rw [if_pos rfl] at e1
      rw [if_neg hne, if_pos rfl] at e2
      cases e1
      cases e2
      exact hvx
    · rw [if_neg hi, if_neg h3] at e1
      by_cases hq : (i - 1) / 2 = pos
      · rw [if_pos hq] at e2
        cases e2
        exact h.br i h1 hq ht u x e1 hx
      · rw [if_neg hq] at e2
        by_cases hq2 : (i - 1) / 2 = (pos - 1) / 2
        · rw [if_pos hq2] at e2
          cases e2
          exact tr _ _ _ hvx (hE i u h1 hq2 hi e1)
        · rw [if_neg hq2] at e2
          exact h.ed i h1 h2 hi u p e1 e2
  · rw [get] at e1 e2
    have hpp : ((pos - 1) / 2 - 1) / 2 ≠ pos := by omega
    have hpq : ((pos - 1) / 2 - 1) / 2 ≠ (pos - 1) / 2 := by omega
    rw [if_neg hpp, if_neg hpq] at e2
    have hpx : le p x := h.ed ((pos - 1) / 2) (by omega) (by omega) hne x p hx e2
    by_cases hd : d = pos
    · rw [if_pos hd] at e1
      cases e1
      exact hpx
    · rw [if_neg hd, if_neg (by omega)] at e1
      exact tr _ _ _ hpx (hE d u h1 h2 hd e1)
/-- the first is the least -/
theorem Hpd.least (rf : ∀ a, le a a) (tr : ∀ a b c, le a b → le b c → le a c) {X : Array α} (h : Hpd le X 0) {m : α} (hm : X[0]? = some m) : ∀ (i : Nat) (v : α), X[i]? = some v → le m v := by
  intro i
  induction i using Nat.strongRecOn with
  | _ i ih =>
    intro v e
    by_cases hi : i = 0
    · subst hi
      rw [hm] at e
      cases e
      exact rf m
    · obtain ⟨hs, _⟩ := Array.getElem?_eq_some_iff.mp e
      have hps : (i - 1) / 2 < X.size := by omega
      have ep : X[(i - 1) / 2]? = some X[(i - 1) / 2] := Array.getElem?_eq_getElem hps
      exact tr _ _ _ (ih _ (by omega) _ ep) (h i (by omega) (Nat.zero_le _) v _ e ep)
end
end Fp

set_option Elab.async false
set_option linter.all false
set_option maxRecDepth 100000
set_option maxHeartbeats 2000000
/-! the heap's moves, run: ranks (of words) in a list -/
namespace Fp
open PySem PySem.Spec PyProof.Rows
theorem plain_sift : plainId "_heapq.heapify.sift" = true := by decide +kernel
theorem entry_sift : entryFor table "_heapq.heapify.sift" = some Builtin.«_heapq.heapify.sift» := entryFor_of_fast (by kernel_rfl)
def lob (X : Array Value) (n : Nat) : Obj := { cls := .type "list", dict := none, data := .seq X n, slots := #[] }
/-- a word's rank as an object -/
def RkAt (h : Heap) (v : Value) (x : Str) : Prop := ∃ p o t1 t2 n, v = .ref p ∧ h.get? p = some o ∧ o.cls = .type "tuple" ∧ o.data = .seq #[.int (-(x.length : Int)) t1, .str x t2] n
theorem RkAt.reads {h : Heap} {v : Value} {x : Str} (r : RkAt h v x) : Reads h v (rk x) [] := by
  obtain ⟨p, o, t1, t2, n, rfl, h1, h2, h3⟩ := r
  exact Reads.tuple h1 h2 h3 (ReadsAll.cons (Reads.int _ _) (ReadsAll.cons (Reads.str x t2) ReadsAll.nil))
def StH (a : Addr) (s0 : Shared) (X : Array Value) (s : Shared) : Prop := ∃ h n, s = { s0 with heap := h } ∧ h.get? a = some (lob X n) ∧ ∀ b u, b ≠ a → s0.heap.get? b = some u → h.get? b = some u
def KeyH (a : Addr) (s0 : Shared) (wd : Value → Str) (v : Value) : Prop := RkAt s0.heap v (wd v) ∧ v ≠ .ref a
theorem KeyH.now {a : Addr} {s0 s : Shared} {X : Array Value} {wd : Value → Str} {v : Value} (k : KeyH a s0 wd v) (z : StH a s0 X s) : RkAt s.heap v (wd v) := by
  obtain ⟨⟨p, o, t1, t2, n, rfl, h1, h2, h3⟩, hne⟩ := k
  obtain ⟨h, n', rfl, _, hk⟩ := z
  exact ⟨p, o, t1, t2, n, rfl, hk p o (fun e => hne (by rw [e])) h1, h2, h3⟩
def leV (wd : Value → Str) (v v' : Value) : Prop := leR (wd v) (wd v') = true
theorem at_get {M : Model} {A : Around} {E : Value → Shared → Prop} {s : Shared} {X : Array Value} {i : Nat} {v : Value} {Q : Value → Shared → Prop} (h : X[i]? = some v) (q : Q v s) :
    wpAny M A (match X[i]? with | some v => pure v | none => unsupported "internal:_heapq.index" : Sem Value) Q E s := by
  rw [h]
  exact wpAny_pure q
theorem StH.swap {a : Addr} {s0 s : Shared} {X : Array Value} (z : StH a s0 X s) (f : Array Value → Array Value) : StH a s0 (f X) { s with heap := s.heap.update a (Obj.mapSeq f) } := by
  obtain ⟨h, n, rfl, h1, h2⟩ := z
  have q := PySem.IsL.update h1 f
  exact ⟨_, _, rfl, q, fun b u hb hu => (Heap.get?_update_other h (Obj.mapSeq f) (Ne.symm hb)).trans (h2 b u hb hu)⟩
theorem leR_tl : PySem.W.TotalLe leR := PySem.W.sortLe_total (listOrd itemOrd) false fun b => PySem.W.keyToks (rk b)
theorem leV_tot {wd : Value → Str} (a b : Value) : leV wd a b ∨ leV wd b a := leR_tl.total _ _
theorem leV_tr {wd : Value → Str} (a b c : Value) (h1 : leV wd a b) (h2 : leV wd b c) : leV wd a c := leR_tl.trans _ _ _ h1 h2
section
variable {prog : Program} {w : World} {A : Around} {R : Result → Shared → Prop} {a : Addr} {s0 : Shared} {wd : Value → Str} {res : Value}
abbrev sft (a : Addr) (down : Bool) (pos top : Nat) (res : Value) (after : Int) : Args := ⟨[.ref a, .bool false, .bool down, rawInt pos, rawInt top, res, rawInt after], []⟩
abbrev FPo (prog : Program) (w : World) (A : Around) (R : Result → Shared → Prop) : PySem.Fin → Shared → Prop := fun fin s' => match fin with | .done f => R (.ok f) s' | .again c' => c'.quiet = true ∧ codeAny (model prog w) A c' R s'
abbrev runs (prog : Program) (w : World) (A : Around) (R : Result → Shared → Prop) (a : Addr) (down : Bool) (pos top : Nat) (res : Value) (after : Int) (s : Shared) : Prop :=
  wpAny (model prog w) A.in1 (Builtin.«_heapq.heapify.sift» (sft a down pos top res after)) (FPo prog w A R) (fun e s' => R (.error e) s') s
theorem go_on {down : Bool} {pos top : Nat} {after : Int} {s : Shared} (h : runs prog w A R a down pos top res after s) :
    wpAny (model prog w) A.in1 (pure (.again (.builtin "_heapq.heapify.sift" (sft a down pos top res after))) : Sem PySem.Fin) (FPo prog w A R) (fun e s' => R (.error e) s') s :=
  wpAny_pure ⟨plainId_quiet plain_sift _, codeAny_builtin entry_sift (by
    rw [Around.under_plainId plain_sift _]
    exact h)⟩
/-- upward -/
theorem run_up {top : Nat} (hu : A.in1.units + 2 < cLine) (X0 : Array Value) (hk : ∀ v ∈ X0, KeyH a s0 wd v) (hz : X0.size ≤ sizeLine)
    (hd : ∀ X s, StH a s0 X s → X.toList.Perm X0.toList → Hpd (leV wd) X top → (top = 0 → R (.ok (.ret res)) s) ∧ ∀ t, top = t + 1 → runs prog w A R a true t t res ((t : Int) - 1) s) :
    ∀ (pos : Nat) (X : Array Value) (s : Shared), StH a s0 X s → X.toList.Perm X0.toList → Up (leV wd) X top pos → pos < X.size → runs prog w A R a false pos top res ((top : Int) - 1) s := by
  intro pos
  induction pos using Nat.strongRecOn with
  | _ pos ih =>
    intro X s z hp hup hlt
    obtain ⟨h, n, es, hl, hkp⟩ := id z
    have hl' : s.heap.get? a = some (lob X n) := by rw [es]; exact hl
    unfold runs Builtin.«_heapq.heapify.sift»
    dsimp only [sft, rawInt]
    refine wpAny_bind (wpAny_bind (wpAny_seqItems hl' rfl ?_))
    dsimp only
    refine wpAny_pure ?_
    rw [if_neg Bool.false_ne_true, Int.toNat_natCast, Int.toNat_natCast]
    have fin : ∀ (hH : Hpd (leV wd) X top), wpAny (model prog w) A.in1 (if ((top : Int) - 1) < 0 then ret res else (pure (.again (.builtin "_heapq.heapify.sift" (sft a true ((top : Int) - 1).toNat ((top : Int) - 1).toNat res (((top : Int) - 1) - 1))))) : Sem PySem.Fin) (FPo prog w A R) (fun e s' => R (.error e) s') s := fun hH => by
      obtain ⟨d1, d2⟩ := hd X s z hp hH
      cases top with
      | zero =>
        rw [if_pos (by decide)]
        exact wpAny_pure (d1 rfl)
      | succ t =>
        rw [if_neg (by omega)]
        have e : (((t + 1 : Nat) : Int) - 1).toNat = t := by omega
        have e2 : (((t + 1 : Nat) : Int) - 1) = (t : Int) := by omega
        rw [e2, Int.toNat_natCast]
        exact go_on (d2 t rfl)
    by_cases ht : top < pos
    · rw [if_pos ht]
      have ev : X[pos]? = some X[pos] := Array.getElem?_eq_getElem hlt
      have hpar : (pos - 1) / 2 < X.size := by omega
      have ex : X[(pos - 1) / 2]? = some X[(pos - 1) / 2] := Array.getElem?_eq_getElem hpar
      have kv : KeyH a s0 wd X[pos] := hk _ (Array.mem_toList_iff.mp (hp.mem_iff.mp (Array.mem_toList_iff.mpr (Array.getElem_mem hlt))))
      have kx : KeyH a s0 wd X[(pos - 1) / 2] := hk _ (Array.mem_toList_iff.mp (hp.mem_iff.mp (Array.mem_toList_iff.mpr (Array.getElem_mem hpar))))
      generalize X[pos] = v at ev kv
      generalize X[(pos - 1) / 2] = x at ex kx
      refine wpAny_bind (at_get ev (wpAny_bind (at_get ex ?_)))
      rw [if_neg Bool.false_ne_true]
      refine wpAny_bind (wpAny_bind (wpAny_holding (wpAny_bind (PySem.W.lt_data (kv.now z).reads (kx.now z).reads (alike_rk _ _) (by intro e; cases e) ?_ ?_))))
      · have h1 := rk_depth (wd v)
        have h2 := rk_depth (wd x)
        omega
      refine wpAny_truthy_bool ?_
      refine wpAny_bind (wpAny_bind (wpAny_seqItems hl' rfl ?_))
      dsimp only
      refine wpAny_pure ?_
      rw [if_neg (by simp)]
      refine wpAny_pure ?_
      by_cases hq : PySem.W.dataLt (rk (wd v)) (rk (wd x)) = true
      · rw [if_pos hq]
        have hnle : ¬ leV wd x v := fun e => by
          have : (!PySem.W.dataLt (rk (wd v)) (rk (wd x))) = true := e
          rw [hq] at this
          cases this
        refine wpAny_bind (wpAny_bind (wpAny_bind (wpAny_seqItems hl' rfl ?_)))
        dsimp only
        refine wpAny_pure ?_
        refine wpAny_bind (at_get ex (wpAny_bind (at_get ev ?_)))
        have hXs : X.size = X0.size := by
          have := hp.length_eq
          rw [Array.length_toList, Array.length_toList] at this
          exact this
        refine wpAny_updateSeq hl' rfl ?_ (by omega) (by show (swapA X ((pos - 1) / 2) pos x v).size ≤ sizeLine + 1; rw [swapA_size]; omega)
        refine go_on (ih _ (by omega) (swapA X ((pos - 1) / 2) pos x v) _ (z.swap fun xs => swapA xs ((pos - 1) / 2) pos x v) ((swapA_perm ex ev).trans hp) (hup.step leV_tot leV_tr ht ev ex hnle) (by rw [swapA_size]; exact hpar))
      · rw [if_neg hq]
        refine fin (hup.stop (.inr fun v' p' e1 e2 => ?_))
        rw [ev] at e1
        rw [ex] at e2
        cases e1
        cases e2
        show (!PySem.W.dataLt (rk (wd v)) (rk (wd x))) = true
        rw [Bool.eq_false_iff.mpr hq]
        rfl
    · rw [if_neg ht]
      exact fin (hup.stop (.inl (by omega)))
/-- downward -/
theorem run_down {top : Nat} (hu : A.in1.units + 2 < cLine) (X0 : Array Value) (hk : ∀ v ∈ X0, KeyH a s0 wd v) (hz : X0.size ≤ sizeLine)
    (hd : ∀ X s, StH a s0 X s → X.toList.Perm X0.toList → Hpd (leV wd) X top → (top = 0 → R (.ok (.ret res)) s) ∧ ∀ t, top = t + 1 → runs prog w A R a true t t res ((t : Int) - 1) s) :
    ∀ (k pos : Nat) (X : Array Value) (s : Shared), X.size - pos = k → StH a s0 X s → X.toList.Perm X0.toList → Dn (leV wd) X top pos → pos < X.size → runs prog w A R a true pos top res ((top : Int) - 1) s := by
  intro k
  induction k using Nat.strongRecOn with
  | _ k ih =>
    intro pos X s hkp z hp hdn hlt
    obtain ⟨h, n, es, hl, _⟩ := id z
    have hl' : s.heap.get? a = some (lob X n) := by rw [es]; exact hl
    have hXs : X.size = X0.size := by
      have := hp.length_eq
      rw [Array.length_toList, Array.length_toList] at this
      exact this
    have hkx : ∀ (i : Nat) (hi : i < X.size), KeyH a s0 wd X[i] := fun i hi => hk _ (Array.mem_toList_iff.mp (hp.mem_iff.mp (Array.mem_toList_iff.mpr (Array.getElem_mem hi))))
    have ev : X[pos]? = some X[pos] := Array.getElem?_eq_getElem hlt
    unfold runs Builtin.«_heapq.heapify.sift»
    dsimp only [sft, rawInt]
    refine wpAny_bind (wpAny_bind (wpAny_seqItems hl' rfl ?_))
    dsimp only
    refine wpAny_pure ?_
    rw [if_pos rfl, Int.toNat_natCast, Int.toNat_natCast]
    by_cases hh : pos < X.size / 2
    · rw [if_pos hh]
      have hL : 2 * pos + 1 < X.size := by omega
      have eL : X[2 * pos + 1]? = some X[2 * pos + 1] := Array.getElem?_eq_getElem hL
      have kL := hkx _ hL
      generalize X[pos] = v at ev
      generalize X[2 * pos + 1] = l at eL kL
      by_cases hR : 2 * pos + 1 + 1 < X.size
      · rw [if_pos hR]
        have eR : X[2 * pos + 1 + 1]? = some X[2 * pos + 1 + 1] := Array.getElem?_eq_getElem hR
        have kR := hkx _ hR
        generalize X[2 * pos + 1 + 1] = r at eR kR
        refine wpAny_bind (at_get eL (wpAny_bind (at_get eR ?_)))
        rw [if_neg Bool.false_ne_true]
        refine wpAny_bind (wpAny_bind (wpAny_holding (wpAny_bind (PySem.W.lt_data (kL.now z).reads (kR.now z).reads (alike_rk _ _) (by intro e; cases e) ?_ ?_))))
        · have h1 := rk_depth (wd l)
          have h2 := rk_depth (wd r)
          omega
        refine wpAny_truthy_bool ?_
        refine wpAny_bind (wpAny_bind (wpAny_seqItems hl' rfl ?_))
        dsimp only
        refine wpAny_pure ?_
        rw [if_neg (by simp)]
        refine wpAny_pure ?_
        by_cases hq : PySem.W.dataLt (rk (wd l)) (rk (wd r)) = true
        · rw [hq, if_neg (by simp)]
          have hm : ∀ d y, 1 ≤ d → (d - 1) / 2 = pos → d ≠ 2 * pos + 1 → X[d]? = some y → leV wd l y := fun d y d1 d2 d3 e => by
            have : d = 2 * pos + 1 + 1 := by omega
            subst this
            rw [eR] at e
            cases e
            refine (leV_tot l r).resolve_right fun e => ?_
            have : (!PySem.W.dataLt (rk (wd l)) (rk (wd r))) = true := e
            rw [hq] at this
            cases this
          refine wpAny_bind (wpAny_bind (wpAny_bind (wpAny_seqItems hl' rfl ?_)))
          dsimp only
          refine wpAny_pure ?_
          refine wpAny_bind (at_get eL (wpAny_bind (at_get ev ?_)))
          refine wpAny_updateSeq hl' rfl ?_ (by omega) (by show (swapA X (2 * pos + 1) pos l v).size ≤ sizeLine + 1; rw [swapA_size]; omega)
          exact go_on (ih (X.size - (2 * pos + 1)) (by omega) _ (swapA X (2 * pos + 1) pos l v) _ (by rw [swapA_size]) (z.swap fun xs => swapA xs (2 * pos + 1) pos l v) ((swapA_perm eL ev).trans hp) (hdn.step (by omega) (by omega) ev eL hm) (by rw [swapA_size]; omega))
        · rw [Bool.eq_false_iff.mpr hq, if_pos (by simp)]
          have hm : ∀ d y, 1 ≤ d → (d - 1) / 2 = pos → d ≠ 2 * pos + 1 + 1 → X[d]? = some y → leV wd r y := fun d y d1 d2 d3 e => by
            have : d = 2 * pos + 1 := by omega
            subst this
            rw [eL] at e
            cases e
            show (!PySem.W.dataLt (rk (wd l)) (rk (wd r))) = true
            rw [Bool.eq_false_iff.mpr hq]
            rfl
          refine wpAny_bind (wpAny_bind (wpAny_bind (wpAny_seqItems hl' rfl ?_)))
          dsimp only
          refine wpAny_pure ?_
          refine wpAny_bind (at_get eR (wpAny_bind (at_get ev ?_)))
          refine wpAny_updateSeq hl' rfl ?_ (by omega) (by show (swapA X (2 * pos + 1 + 1) pos r v).size ≤ sizeLine + 1; rw [swapA_size]; omega)
          exact go_on (ih (X.size - (2 * pos + 1 + 1)) (by omega) _ (swapA X (2 * pos + 1 + 1) pos r v) _ (by rw [swapA_size]) (z.swap fun xs => swapA xs (2 * pos + 1 + 1) pos r v) ((swapA_perm eR ev).trans hp) (hdn.step (by omega) (by omega) ev eR hm) (by rw [swapA_size]; omega))
      · rw [if_neg hR]
        have hm : ∀ d y, 1 ≤ d → (d - 1) / 2 = pos → d ≠ 2 * pos + 1 → X[d]? = some y → leV wd l y := fun d y d1 d2 d3 e => by
          have := (Array.getElem?_eq_some_iff.mp e).1
          omega
        refine wpAny_bind (wpAny_bind (wpAny_bind (wpAny_seqItems hl' rfl ?_)))
        dsimp only
        refine wpAny_pure ?_
        refine wpAny_bind (at_get eL (wpAny_bind (at_get ev ?_)))
        refine wpAny_updateSeq hl' rfl ?_ (by omega) (by show (swapA X (2 * pos + 1) pos l v).size ≤ sizeLine + 1; rw [swapA_size]; omega)
        exact go_on (ih (X.size - (2 * pos + 1)) (by omega) _ (swapA X (2 * pos + 1) pos l v) _ (by rw [swapA_size]) (z.swap fun xs => swapA xs (2 * pos + 1) pos l v) ((swapA_perm eL ev).trans hp) (hdn.step (by omega) (by omega) ev eL hm) (by rw [swapA_size]; omega))
    · rw [if_neg hh]
      exact go_on (run_up hu X0 hk hz hd pos X s z hp (hdn.leaf (by omega)) hlt)
/-- from a top down to the first -/
theorem run_all (hu : A.in1.units + 2 < cLine) (X0 : Array Value) (hk : ∀ v ∈ X0, KeyH a s0 wd v) (hz : X0.size ≤ sizeLine) (hfin : ∀ X s, StH a s0 X s → X.toList.Perm X0.toList → Hpd (leV wd) X 0 → R (.ok (.ret res)) s) :
    ∀ top : Nat, top ≤ X0.size → ∀ X s, StH a s0 X s → X.toList.Perm X0.toList → Hpd (leV wd) X top → (top = 0 → R (.ok (.ret res)) s) ∧ ∀ t, top = t + 1 → runs prog w A R a true t t res ((t : Int) - 1) s := by
  intro top
  induction top using Nat.strongRecOn with
  | _ top ih =>
    intro htz X s z hp hH
    refine ⟨fun e => hfin X s z hp (e ▸ hH), fun t e => ?_⟩
    subst e
    have hXs : X.size = X0.size := by
      have := hp.length_eq
      rw [Array.length_toList, Array.length_toList] at this
      exact this
    exact run_down hu X0 hk hz (ih t (by omega) (by omega)) _ t X s rfl z hp ⟨fun i h1 h2 h3 h4 => hH i h1 (by omega), fun c h1 h2 h3 => absurd h3 (Nat.lt_irrefl _), .top⟩ (by omega)
end
end Fp

set_option Elab.async false
set_option linter.all false
set_option maxRecDepth 100000
set_option maxHeartbeats 2000000
/-! min(d, key=rank_of) of a dict of texts -/
namespace Fp
open PySem PySem.W PySem.Spec PyProof.Rows
section
variable {prog : Program} {w : World} {A : Around} {E : Value → Shared → Prop} {s : Shared} {K : Frag} {mg : Str → Option Value} {base : Heap} {fR : Addr} {fd : FuncData} {p0 p1 p2 p3 p4 p5 p6 p7 : Pos}
theorem rank_call2 (F : L2.FunD K "rank_of" "rank_of" (rkA p0) (rkB p1 p2 p3 p4 p5 p6 p7) rkS [] [] fR fd) (Mo : L2.Mod K mg base) (kb : ∀ b o, base.get? b = some o → s.heap.get? b = some o) (hlen : mg "len" = none) (hroom : A.depth + 1 < recursionLimit)
    {w0 : Str} {t : Tok} (hw : w0.length ≤ sizeLine) : wpAny (model prog w) A (call (.ref fR) [.str w0 t]) (fun v s' => ∃ h' tk p, v = .ref p ∧ s' = { s with heap := h', toks := tk } ∧ (∀ b o, s.heap.get? b = some o → h'.get? b = some o) ∧ s.heap.get? p = none ∧ RkAt h' v w0) E s := by
  obtain ⟨oc, od, dV, kV, doc, pm, an, cdv, ct, osl, rfl, lk, hcd, hD, _⟩ := F.ex
  obtain rfl : dV = .none := by
    rcases hD with ⟨_, e⟩ | ⟨e, _⟩
    · exact e
    · exact absurd rfl e
  have X : K.In s.heap := Mo.kin.keeps kb
  refine wpAny_call (Att.call_fn (binds := [("word", .str w0 t)]) X (Mo.nolimit.keeps kb) lk hcd (Nat.lt_of_succ_lt hroom) (BindsTo.of_eq (by first | rfl | with_unfolding_all rfl)) (by first | rfl | decide | with_unfolding_all rfl) (fun s₁ IC => ?_) rfl rfl rfl)
  obtain ⟨h₁, tk₁, rfl⟩ := IC.toInCall.same
  have k : ∀ b o, s.heap.get? b = some o → h₁.get? b = some o := IC.toInCall.keep
  have hn := IC.toInCall.ns
  obtain ⟨mb, b1, b2⟩ := Mo.blt
  show wpAny _ _ (execs _ _) _ _ _
  refine wpAny_execs_cons (wpAny_Return_some (wpAny_Tuple_spliced ?_))
  show wpAny _ _ (spliced ((false, eval _ _) :: backTo p6 (starEach [_] _))) _ _ _
  refine Calls.spliced_cons (wpAny_UnaryOp ?_)
  refine wpAny_Call_Name_kw (Calls.Name_function_global rfl rfl (Calls.loadGlobal_builtin (Mo.glob.keeps fun b o e => k b o (kb b o e)) hlen (b1.keeps fun b o e => k b o (kb b o e)) ((b2 "len" (by decide)).trans boot_len) ?_) (by decide))
  refine callWith_builtin1 (spliced_more (ldC (v := .str w0 t) hn (by first | rfl | with_unfolding_all rfl | kernel_rfl) (spliced_none ?_))) rfl rfl
  have hs : sizeLine = 16777216 := sizeLine_eq
  have hl63 := L2.line63
  refine len_str (by omega) (neg_int ?_)
  show wpAny _ _ (spliced ((false, eval _ _) :: backTo p6 (starEach [] _))) _ _ _
  refine Calls.spliced_cons (ldC (v := .str w0 t) hn (by first | rfl | with_unfolding_all rfl | kernel_rfl) (Calls.spliced_nil ?_))
  refine ⟨by show 2 ≤ sizeLine; rw [sizeLine_eq]; decide, ?_⟩
  refine ⟨_, _, _, rfl, rfl, fun b o e => Heap.get?_push_of_some _ (k b o e), ?_, ?_⟩
  · cases q : s.heap.get? h₁.objs.size with
    | none => rfl
    | some u =>
      have := Heap.lt_size (k _ _ q)
      exact absurd this (Nat.lt_irrefl _)
  · exact ⟨_, _, _, _, _, rfl, Heap.get?_push_size _ rfl, rfl, rfl⟩
end
theorem best_le {bt : Nat → Nat → Bool} {le : Nat → Nat → Prop} (rf : ∀ i, le i i) (tr : ∀ i j k, le i j → le j k → le i k) (h1 : ∀ i j, bt i j = true → le i j) (h2 : ∀ i j, bt i j = false → le j i) : ∀ k, argBest bt k ≤ k ∧ ∀ j, j ≤ k → le (argBest bt k) j
  | 0 => ⟨Nat.le_refl _, fun j hj => by
    have : j = 0 := by omega
    subst this
    exact rf 0⟩
  | k + 1 => by
    obtain ⟨a1, a2⟩ := best_le rf tr h1 h2 k
    simp only [argBest]
    cases hb : bt (k + 1) (argBest bt k) with
    | true =>
      rw [if_pos rfl]
      refine ⟨Nat.le_refl _, fun j hj => ?_⟩
      by_cases e : j = k + 1
      · rw [e]
        exact rf _
      · exact tr _ _ _ (h1 _ _ hb) (a2 j (by omega))
    | false =>
      rw [if_neg Bool.false_ne_true]
      refine ⟨by omega, fun j hj => ?_⟩
      by_cases e : j = k + 1
      · rw [e]
        exact h2 _ _ hb
      · exact a2 j (by omega)
end Fp
namespace L2
open PySem PySem.Spec PyProof.Rows
def rMinRk (fR : Addr) : List V → List V → Hp → VK → Prop := fun vs zs H Q => ∃ (a : Addr) (kvs : List (Key × V)) (ws : List Str), vs = [.ref a] ∧ zs = [.ref fR] ∧ H a = some (.dK kvs) ∧ kvs.map (·.1) = ws.map Sum.inr ∧ ws ≠ [] ∧ (∀ w ∈ ws, w.length ≤ sizeLine) ∧
  ∀ m ∈ ws, (∀ y ∈ ws, Fp.leR m y = true) → Q (.str m) H
section
variable {X : Cx} {fR : Addr} {fd : FuncData} {p0 p1 p2 p3 p4 p5 p6 p7 : Pos}
theorem cr_minRk (hcalm : X.calm = true) (F : FunD X.K "rank_of" "rank_of" (Fp.rkA p0) (Fp.rkB p1 p2 p3 p4 p5 p6 p7) Fp.rkS [] [] fR fd) (hlen : X.mg "len" = none) (hr : Room 3 X.A) : CallRK X (.builtin "min") [Str.ofString "key"] (rMinRk fR) := by
  intro pins s σ H vs zs us ws Q I r rz h
  obtain ⟨a, kvs, ks, rfl, rfl, ha, hks, hne, hwl, q⟩ := h
  obtain rfl := Vals.ref1 r
  obtain ⟨w1, rfl, e1⟩ := vals1 rz
  obtain rfl : w1 = Value.ref fR := e1
  obtain ⟨_, hsys, vs, rel, dof⟩ := dk_of I.hok ha
  obtain ⟨ep, dat⟩ := dof.dictAt
  obtain ⟨ob, es, ho, hex, hdat, hko, hpr, hnd⟩ := id dat
  have hlt : a < s.heap.objs.size := Heap.lt_size ho
  have hkeys : vs.map (·.1) = ks.map Sum.inr := (KV.keys rel).symm.trans hks
  have hlv : vs.length = ks.length := by
    have e1 := congrArg List.length hkeys
    rw [List.length_map, List.length_map] at e1
    exact e1
  have hpos : 0 < ks.length := List.length_pos_iff.mpr hne
  have hval : ∀ (i : Nat) (v : Value), (∃ k x, vs[i]? = some (k, x) ∧ (mixKind X.prog X.w).is k v = true) → ∃ x t, ks[i]? = some x ∧ v = Value.str x t := fun i v ⟨k, x, hk, hkey⟩ => by
    have e1 : (vs.map (·.1))[i]? = some k := by rw [List.getElem?_map, hk] <;> rfl
    rw [hkeys, List.getElem?_map] at e1
    obtain ⟨j, hj, e2⟩ := Option.map_eq_some_iff.mp e1
    subst e2
    obtain ⟨t, e3⟩ := Value.isStrOf_shape (x := j) (v := v) hkey
    exact ⟨j, t, hj, e3⟩
  refine call_min_walkK (wpAny_pyIter_dict (knd := mixKind X.prog X.w) hsys dat ?_)
  refine ⟨_, _, _, _, _, _, _, (fun s' => ∃ h' tk, s' = { s with heap := h', toks := tk } ∧ ∀ b o, s.heap.get? b = some o → h'.get? b = some o),
    (fun i v s' => ∃ x, ks[i]? = some x ∧ Fp.RkAt s'.heap v x ∧ v ≠ .ref s.heap.objs.size ∧ v ≠ .ref (s.heap.objs.size + 1)), (fun i j => PySem.W.dataLt (Fp.rk (ks.getD i "")) (Fp.rk (ks.getD j ""))), rfl,
    (Walks.dictKeys (knd := mixKind X.prog X.w) (A := X.A.in1) (I.ok.hd hcalm) s.heap.objs.size a (Nat.ne_of_lt hlt) vs ep).toS,
    ⟨⟨_, Heap.get?_push_size _ rfl, rfl, rfl⟩, dat.keep fun b u e => Heap.get?_push_of_some _ e⟩, fun b hb => ?_, by rw [hlv]; exact hpos, ?_, ⟨_, s.toks, rfl, fun b o e => Heap.get?_push_of_some _ e⟩, fun v s' hP hJ => ?_⟩
  · show b < (s.heap.push _).objs.size
    rw [Heap.size_push]
    rcases List.mem_cons.mp hb with e | hb
    · rw [e]
      exact Nat.lt_succ_self _
    · rw [List.mem_singleton.mp hb]
      exact Nat.lt_succ_of_lt hlt
  · have hS : (s.heap.push { cls := .type "dict_keyiterator", data := .fields #[.ref a, .int 0 0, .int vs.length 0, .int ep 0] }).objs.size = s.heap.objs.size + 1 := Heap.size_push _ _
    have old : ∀ {b : Addr} {o : Obj}, s.heap.get? b = some o → b ∉ (s.heap.push { cls := .type "dict_keyiterator", data := .fields #[.ref a, .int 0 0, .int vs.length 0, .int ep 0] }).objs.size :: [s.heap.objs.size] := fun e hm => by
      have hb := Heap.lt_size e
      rw [hS] at hm
      rcases List.mem_cons.mp hm with h1 | h1
      · rw [h1] at hb
        exact absurd hb (Nat.not_lt.mpr (Nat.le_succ _))
      · rw [List.mem_singleton.mp h1] at hb
        exact Nat.lt_irrefl _ hb
    have rkk : ∀ {h1 h2 : Heap} {v : Value} {x : Str}, Fp.RkAt h1 v x → (∀ p o, v = .ref p → h1.get? p = some o → h2.get? p = some o) → Fp.RkAt h2 v x := fun ⟨p, o, t1, t2, n, e0, e1, e2, e3⟩ hk => ⟨p, o, t1, t2, n, e0, hk p o e0 e1, e2, e3⟩
    have gd : ∀ {i : Nat} {x : Str}, ks[i]? = some x → ks.getD i "" = x := fun e => by
      rw [List.getD_eq_getElem?_getD, e]
      rfl
    refine ⟨fun s1 s2 hJ hm => ?_, fun i k s1 s2 hV hm => ?_, fun i v s1 o Q' E' hi hP hJ hst hSo hq => ?_, fun i j ki kj s1 Q' E' hJ hVi hVj hq => ?_⟩
    · obtain ⟨h1, tk, rfl, hk⟩ := hJ
      obtain ⟨m1, m2, m3, m4, m5⟩ := hm
      obtain ⟨hp2, g2, d2, t2, o2⟩ := s2
      have m2 : g2 = s.gens := m2
      have m3 : d2 = s.drawn := m3
      have m4 : o2 = s.os := m4
      subst m2
      subst m3
      subst m4
      exact ⟨hp2, t2, rfl, fun b o e => m1 b o (old e) (hk b o e)⟩
    · obtain ⟨x, hx, hr', n1, n2⟩ := hV
      refine ⟨x, hx, rkk hr' fun p o e0 e1 => hm.heap p o (fun hmem => ?_) e1, n1, n2⟩
      rw [hS] at hmem
      rcases List.mem_cons.mp hmem with h1 | h1
      · exact n2 (by rw [e0, h1])
      · exact n1 (by rw [e0, List.mem_singleton.mp h1])
    · obtain ⟨x, t, hx, rfl⟩ := hval i v hP
      obtain ⟨h1, tk, rfl, hk⟩ := hJ
      have hdp := hr.dp
      refine wpAny_mono (Fp.rank_call2 (s := { s with heap := h1, toks := tk }) F I.ok.mod (fun b o e => hk b o (I.bk b o e)) hlen (by show X.A.depth + 1 < _; omega) (hwl x (List.mem_of_getElem? hx))) (fun k s' hk' => ?_) fun _ _ e => e
      obtain ⟨h2, tk2, p, rfl, rfl, kp, np, hr'⟩ := hk'
      have hI := hst.1
      refine hq _ _ ⟨h2, tk2, rfl, fun b o e => kp b o (hk b o e)⟩ ((Walks.dictKeys (prog := X.prog) (w := X.w) (knd := mixKind X.prog X.w) (A := X.A.in1) (I.ok.hd hcalm) s.heap.objs.size a (Nat.ne_of_lt hlt) vs ep).frame _ _ _ hst fun b _ o e => kp b o e) (kp _ _ hSo) ⟨x, hx, hr', fun e => ?_, fun e => ?_⟩ fun j k' hV => ?_
      · obtain ⟨oi, hoi, _⟩ := hI
        injection e with e
        rw [e] at np
        rw [np] at hoi
        cases hoi
      · injection e with e
        rw [hS] at hSo
        rw [e] at np
        rw [np] at hSo
        cases hSo
      · obtain ⟨y, hy, hr2, n1, n2⟩ := hV
        exact ⟨y, hy, rkk hr2 fun p o _ e1 => kp p o e1, n1, n2⟩
    · obtain ⟨x, hx, r1, _⟩ := hVi
      obtain ⟨y, hy, r2, _⟩ := hVj
      have hu := hr.in1.in1.in1.units0
      refine PySem.W.lt_data r1.reads r2.reads (Fp.alike_rk _ _) (by intro e; cases e) ?_ ?_
      · have a1 := Fp.rk_depth x
        have a2 := Fp.rk_depth y
        show X.A.in1.units + min (Fp.rk x).depth (Fp.rk y).depth < cLine
        have hu : X.A.in1.units + 2 < cLine := hu
        omega
      · rw [gd hx, gd hy] at hq
        exact hq
  · obtain ⟨h', tk, rfl, hk⟩ := hJ
    obtain ⟨x, t, hx, rfl⟩ := hval _ v hP
    refine ⟨.str x, H, I.kept (t' := tk) hk, ⟨t, rfl⟩, q x (List.mem_of_getElem? hx) fun y hy => ?_⟩
    obtain ⟨b1, b2⟩ := Fp.best_le (bt := fun i j => PySem.W.dataLt (Fp.rk (ks.getD i "")) (Fp.rk (ks.getD j ""))) (le := fun i j => Fp.leR (ks.getD i "") (ks.getD j "") = true) (fun i => (Fp.leR_tl.total _ _).elim id id) (fun i j k => Fp.leR_tl.trans _ _ _)
      (fun i j e => (Fp.leR_tl.total _ _).resolve_right fun e2 => by
        have : (!PySem.W.dataLt (Fp.rk (ks.getD i "")) (Fp.rk (ks.getD j ""))) = true := e2
        rw [e] at this
        cases this) (fun i j e => by
        show (!PySem.W.dataLt (Fp.rk (ks.getD i "")) (Fp.rk (ks.getD j ""))) = true
        rw [e]
        rfl) (vs.length - 1)
    obtain ⟨j, hj, ej⟩ := List.mem_iff_getElem.mp hy
    have := b2 j (by omega)
    rw [List.getD_eq_getElem?_getD, hx, List.getD_eq_getElem?_getD, List.getElem?_eq_getElem hj, ej] at this
    exact this
end
end L2

set_option Elab.async false
set_option linter.all false
set_option maxRecDepth 100000
set_option maxHeartbeats 2000000
/-! heapify, heappush, heappop, run -/
namespace Fp
open PySem PySem.Spec PyProof.Rows
theorem Hpd.sub {α : Type} {le : α → α → Prop} {X Y : Array α} {top : Nat} (h : Hpd le X top) (e : ∀ i, 1 ≤ i → ∀ v, Y[i]? = some v → X[i]? = some v) (e0 : ∀ i p, top ≤ i → Y[i]? = some p → X[i]? = some p) : Hpd le Y top := fun i h1 h2 v p a b =>
  h i h1 h2 v p (e i h1 v a) (e0 _ p h2 b)
section
variable {prog : Program} {w : World} {A : Around} {R : Result → Shared → Prop} {a : Addr} {s : Shared} {wd : Value → Str}
theorem StH.refl {X : Array Value} {n : Nat} (h : s.heap.get? a = some (lob X n)) : StH a s X s := ⟨s.heap, n, rfl, h, fun _ _ _ e => e⟩
theorem StH.get {s0 : Shared} {X : Array Value} (z : StH a s0 X s) : ∃ n, s.heap.get? a = some (lob X n) := by
  obtain ⟨h, n, rfl, e, _⟩ := z
  exact ⟨n, e⟩
theorem isl {X : Array Value} {n : Nat} (h : s.heap.get? a = some (lob X n)) : s.TypeIs (.ref a) "list" := ⟨_, h, rfl⟩
theorem sub_list : isSubtype (.type "list") (.type "list") = pure true := by with_unfolding_all rfl
theorem pop_run (hu : A.in1.units + 2 < cLine) {n : Nat} {f lst : Value} {mid : List Value} (h : s.heap.get? a = some (lob (f :: (mid ++ [lst])).toArray n)) (hz : mid.length + 2 ≤ sizeLine)
    (hk : ∀ v ∈ f :: (mid ++ [lst]), KeyH a s wd v) (hh : Hpd (leV wd) (f :: (mid ++ [lst])).toArray 0)
    (q : ∀ X' s', StH a s X' s' → X'.toList.Perm (lst :: mid) → Hpd (leV wd) X' 0 → R (.ok (.ret f)) s') :
    wpAny (model prog w) A.in1 (Builtin.«_heapq.heappop» ⟨[.ref a], []⟩) (FPo prog w A R) (fun e s' => R (.error e) s') s := by
  unfold Builtin.«_heapq.heappop»
  refine wpAny_bind (wpAny_bind (wpAny_bind (wpAny_pure (wpAny_pure ?_))))
  dsimp only
  refine wpAny_bind (wpAny_bind (wpAny_isInstance (isl h) sub_list ?_))
  rw [if_pos rfl]
  refine wpAny_pure (wpAny_pure ?_)
  dsimp only
  refine wpAny_bind (wpAny_bind (wpAny_seqItems h rfl (wpAny_pure ?_)))
  have hb : ((f :: (mid ++ [lst])).toArray).back? = some lst := by
    rw [List.back?_toArray]
    exact List.getLast?_concat (l := f :: mid)
  have hs : ((f :: (mid ++ [lst])).toArray).size = mid.length + 2 := by simp
  rw [hb]
  dsimp only
  have z0 := (StH.refl h).swap fun x => x.pop
  refine wpAny_bind (wpAny_updateSeq h rfl ?_ (by omega) (by rw [Array.size_pop]; omega))
  rw [if_neg (show ¬ ((((f :: (mid ++ [lst])).toArray).size == 1) = true) from by rw [hs]; simp)]
  refine wpAny_bind (at_get (X := (f :: (mid ++ [lst])).toArray) (i := 0) (v := f) (by rfl) ?_)
  obtain ⟨n1, h1⟩ := z0.get
  have z1 := z0.swap fun x => x.setIfInBounds 0 lst
  refine wpAny_bind (wpAny_updateSeq h1 rfl ?_ (by rw [Array.size_pop]; omega) (by rw [Array.size_setIfInBounds, Array.size_pop]; omega))
  have eY : (((f :: (mid ++ [lst])).toArray).pop).setIfInBounds 0 lst = (lst :: mid).toArray := by
    apply Array.ext'
    simp [List.dropLast_cons_of_ne_nil]
  rw [eY] at z1
  have hY : ∀ i, 1 ≤ i → ∀ v, ((lst :: mid).toArray)[i]? = some v → ((f :: (mid ++ [lst])).toArray)[i]? = some v := fun i hi v e => by
    obtain ⟨j, rfl⟩ : ∃ j, i = j + 1 := ⟨i - 1, by omega⟩
    simp at e ⊢
    rw [List.getElem?_append_left ((List.getElem?_eq_some_iff.mp e).1)]
    exact e
  have hsY : ((lst :: mid).toArray).size = mid.length + 1 := by simp
  refine go_on (top := 0) (after := -1) (run_down (s0 := s) (wd := wd) (top := 0) hu ((lst :: mid).toArray) (fun v hv => hk v ?_) (by omega) (fun X s' z hp hH => ⟨fun _ => q X s' z hp hH, fun t e => by cases e⟩) _ 0 _ _ rfl z1 (List.Perm.refl _) ⟨fun i i1 i2 i3 i4 v p e1 e2 => ?_, fun c c1 c2 c3 => absurd c3 (Nat.lt_irrefl _), .top⟩ (by omega))
  · have : v ∈ lst :: mid := by simpa using hv
    rcases List.mem_cons.mp this with e | e
    · rw [e]
      simp
    · exact List.mem_cons_of_mem _ (List.mem_append_left _ e)
  · exact hh i i1 i2 v p (hY i i1 v e1) (hY _ (by omega) p e2)
theorem pop1_run {n : Nat} {f : Value} (h : s.heap.get? a = some (lob #[f] n)) (q : ∀ s', StH a s #[] s' → R (.ok (.ret f)) s') :
    wpAny (model prog w) A.in1 (Builtin.«_heapq.heappop» ⟨[.ref a], []⟩) (FPo prog w A R) (fun e s' => R (.error e) s') s := by
  unfold Builtin.«_heapq.heappop»
  refine wpAny_bind (wpAny_bind (wpAny_bind (wpAny_pure (wpAny_pure ?_))))
  dsimp only
  refine wpAny_bind (wpAny_bind (wpAny_isInstance (isl h) sub_list ?_))
  rw [if_pos rfl]
  refine wpAny_pure (wpAny_pure ?_)
  dsimp only
  refine wpAny_bind (wpAny_bind (wpAny_seqItems h rfl (wpAny_pure ?_)))
  have hb : (#[f] : Array Value).back? = some f := by simp
  rw [hb]
  dsimp only
  have hs : sizeLine = 16777216 := sizeLine_eq
  have z0 := (StH.refl h).swap fun x => x.pop
  refine wpAny_bind (wpAny_updateSeq h rfl ?_ (by show 1 ≤ sizeLine; omega) (by rw [Array.size_pop]; show 0 ≤ sizeLine + 1; omega))
  rw [if_pos (by simp)]
  refine wpAny_bind (wpAny_pure ?_)
  exact wpAny_pure (q _ z0)
theorem push_run (hu : A.in1.units + 2 < cLine) {n : Nat} {X : Array Value} {v : Value} (h : s.heap.get? a = some (lob X n)) (hz : X.size + 1 ≤ sizeLine)
    (hk : ∀ u ∈ X.push v, KeyH a s wd u) (hh : Hpd (leV wd) X 0) (q : ∀ X' s', StH a s X' s' → X'.toList.Perm (X.push v).toList → Hpd (leV wd) X' 0 → R (.ok (.ret .none)) s') :
    wpAny (model prog w) A.in1 (Builtin.«_heapq.heappush» ⟨[.ref a, v], []⟩) (FPo prog w A R) (fun e s' => R (.error e) s') s := by
  unfold Builtin.«_heapq.heappush»
  refine wpAny_bind (wpAny_bind (wpAny_pure ?_))
  refine wpAny_bind (wpAny_pure ?_)
  dsimp only
  refine wpAny_bind (wpAny_bind (wpAny_isInstance (isl h) sub_list ?_))
  rw [if_pos rfl]
  refine wpAny_pure (wpAny_pure ?_)
  dsimp only
  have z0 := (StH.refl h).swap fun x => x.push v
  refine wpAny_bind (wpAny_updateSeq h rfl ?_ (by omega) (by rw [Array.size_push]; omega))
  obtain ⟨n1, h1⟩ := z0.get
  refine wpAny_bind (wpAny_bind (wpAny_seqItems h1 rfl (wpAny_pure ?_)))
  have hs : (X.push v).size - 1 = X.size := by rw [Array.size_push]; omega
  rw [hs]
  have hY : ∀ (i : Nat) (u : Value), i ≠ X.size → (X.push v)[i]? = some u → X[i]? = some u := fun i u hi e => by
    rw [Array.getElem?_push, if_neg hi] at e
    exact e
  refine go_on (top := 0) (after := -1) (run_up (s0 := s) (wd := wd) (top := 0) hu (X.push v) hk (by rw [Array.size_push]; omega) (fun X s' z hp hH => ⟨fun _ => q X s' z hp hH, fun t e => by cases e⟩) X.size _ _ z0 (List.Perm.refl _) ⟨fun i i1 i2 i3 u p e1 e2 => ?_, fun c c1 c2 c3 u p e1 e2 => ?_, ?_⟩ (by rw [Array.size_push]; omega))
  · have hi := (Array.getElem?_eq_some_iff.mp e1).1
    rw [Array.size_push] at hi
    exact hh i i1 i2 u p (hY i u i3 e1) (hY _ p (by omega) e2)
  · have hi := (Array.getElem?_eq_some_iff.mp e1).1
    rw [Array.size_push] at hi
    omega
  · have : ∀ k, Sub 0 k := fun k => by
      induction k using Nat.strongRecOn with
      | _ k ih =>
        by_cases hk0 : k = 0
        · rw [hk0]
          exact .top
        · exact .down (ih ((k - 1) / 2) (by omega)) (by omega) rfl
    exact this _
theorem ify_run (hu : A.in1.units + 2 < cLine) {n : Nat} {X : Array Value} (h : s.heap.get? a = some (lob X n)) (hz : X.size ≤ 2500)
    (hk : ∀ u ∈ X, KeyH a s wd u) (q : ∀ X' s', StH a s X' s' → X'.toList.Perm X.toList → Hpd (leV wd) X' 0 → R (.ok (.ret .none)) s') :
    wpAny (model prog w) A.in1 (Builtin.«_heapq.heapify» ⟨[.ref a], []⟩) (FPo prog w A R) (fun e s' => R (.error e) s') s := by
  have hs : sizeLine = 16777216 := sizeLine_eq
  unfold Builtin.«_heapq.heapify»
  refine wpAny_bind (wpAny_bind (wpAny_bind (wpAny_pure (wpAny_pure ?_))))
  dsimp only
  refine wpAny_bind (wpAny_bind (wpAny_isInstance (isl h) sub_list ?_))
  rw [if_pos rfl]
  refine wpAny_pure (wpAny_pure ?_)
  dsimp only
  refine wpAny_bind (wpAny_bind (wpAny_seqItems h rfl (wpAny_pure ?_)))
  rw [if_neg (show ¬ (X.size > 2500) by omega)]
  by_cases h2 : X.size < 2
  · rw [if_pos h2]
    refine wpAny_bind (wpAny_pure ?_)
    refine wpAny_pure (q X s (StH.refl h) (List.Perm.refl _) fun i i1 i2 v p e1 e2 => ?_)
    have := (Array.getElem?_eq_some_iff.mp e1).1
    omega
  · rw [if_neg h2]
    have e1 : (((X.size / 2 : Nat) : Int) - 2) = ((X.size / 2 - 1 : Nat) : Int) - 1 := by omega
    rw [e1]
    have hall := run_all (prog := prog) (w := w) (A := A) (s0 := s) (wd := wd) (R := R) (res := .none) hu X hk (by omega) (fun X' s' z hp hH => q X' s' z hp hH) (X.size / 2 - 1 + 1) (by omega) X s (StH.refl h) (List.Perm.refl _) (fun i i1 i2 v p e1 e2 => by
      have := (Array.getElem?_eq_some_iff.mp e1).1
      omega)
    exact go_on (hall.2 (X.size / 2 - 1) rfl)
end
end Fp

set_option Elab.async false
set_option linter.all false
set_option maxRecDepth 100000
set_option maxHeartbeats 2000000
/-! heapify, heappush, heappop of ranks of words: the rules -/
namespace L2
open PySem PySem.Spec PyProof.Rows
abbrev PQ : Type := List (Addr × Str)
/-- a list in heap order -/
def HpL (ws : List Str) : Prop := ∀ i, 1 ≤ i → ∀ a b, ws[i]? = some a → ws[(i - 1) / 2]? = some b → Fp.leR b a = true
def QAt (H : Hp) (ps : PQ) : Prop := ∀ p ∈ ps, H p.1 = some (.tup [.int (-(p.2.length : Int)), .str p.2])
def adr : Value → Addr
  | .ref p => p
  | _ => 0
def wdQ (ps : PQ) (v : Value) : Str := ((ps.find? fun p => decide (p.1 = adr v)).map (·.2)).getD ""
theorem wdQ_of {H : Hp} {ps : PQ} (h : QAt H ps) {p : Addr × Str} (hp : p ∈ ps) : wdQ ps (.ref p.1) = p.2 := by
  unfold wdQ
  cases e : ps.find? fun q => decide (q.1 = adr (.ref p.1)) with
  | none =>
    have := List.find?_eq_none.mp e p hp
    exact absurd (decide_eq_true rfl) this
  | some q =>
    have h1 := List.mem_of_find?_eq_some e
    have h2 := List.find?_some e
    have h2 : q.1 = p.1 := of_decide_eq_true h2
    have h3 := h q h1
    have h4 := h p hp
    rw [h2, h4] at h3
    injection h3 with h3
    injection h3 with h3
    injection h3 with _ h3
    injection h3 with h3 _
    injection h3 with h3
    exact h3.symm
/-- the values of a queue, in another order, are those of a queue in another order -/
theorem wdQ_perm {H : Hp} {ps : PQ} (h : QAt H ps) {vs : List Value} (hp : vs.Perm (ps.map fun p => Value.ref p.1)) : ∃ ps' : PQ, ps'.Perm ps ∧ vs = ps'.map fun p => Value.ref p.1 := by
  refine ⟨vs.map fun v => (adr v, wdQ ps v), ?_, ?_⟩
  · have h1 := hp.map fun v => ((adr v, wdQ ps v) : Addr × Str)
    rw [List.map_map] at h1
    have h2 : ps.map ((fun v => ((adr v, wdQ ps v) : Addr × Str)) ∘ fun p => Value.ref p.1) = ps := by
      conv => rhs; rw [← List.map_id ps]
      apply List.map_congr_left
      intro p hp
      show ((p.1, wdQ ps (.ref p.1)) : Addr × Str) = p
      rw [wdQ_of h hp]
    rw [h2] at h1
    exact h1
  · rw [List.map_map]
    conv => lhs; rw [← List.map_id vs]
    apply List.map_congr_left
    intro v hv
    obtain ⟨p, _, rfl⟩ := List.mem_map.mp (hp.mem_iff.mp hv)
    rfl
theorem QAt.perm {H : Hp} {ps ps' : PQ} (h : QAt H ps) (hp : ps'.Perm ps) : QAt H ps' := fun p hq => h p (hp.mem_iff.mp hq)
theorem hpd_l {H : Hp} {ps ps' : PQ} (h : QAt H ps) (hp : ps'.Perm ps) (x : Fp.Hpd (Fp.leV (wdQ ps)) (ps'.map fun p => Value.ref p.1).toArray 0) : HpL (ps'.map (·.2)) := fun i i1 a b e1 e2 => by
  rw [List.getElem?_map] at e1 e2
  cases q1 : ps'[i]? with
  | none => rw [q1] at e1; cases e1
  | some p1 =>
    cases q2 : ps'[(i - 1) / 2]? with
    | none => rw [q2] at e2; cases e2
    | some p2 =>
      rw [q1] at e1
      rw [q2] at e2
      cases e1
      cases e2
      have := x i i1 (Nat.zero_le _) (.ref p1.1) (.ref p2.1) (by simp [q1]) (by simp [q2])
      have h1 := wdQ_of h (hp.mem_iff.mp (List.mem_of_getElem? q1))
      have h2 := wdQ_of h (hp.mem_iff.mp (List.mem_of_getElem? q2))
      have this : Fp.leR (wdQ ps (.ref p2.1)) (wdQ ps (.ref p1.1)) = true := this
      rw [h1, h2] at this
      exact this
theorem l_hpd {H : Hp} {ps qs : PQ} (h : QAt H ps) (hs : ∀ p ∈ qs, p ∈ ps) (x : HpL (qs.map (·.2))) : Fp.Hpd (Fp.leV (wdQ ps)) (qs.map fun p => Value.ref p.1).toArray 0 := fun i i1 i2 v u e1 e2 => by
  simp only [List.getElem?_toArray, List.getElem?_map] at e1 e2
  cases q1 : qs[i]? with
  | none => rw [q1] at e1; cases e1
  | some p1 =>
    cases q2 : qs[(i - 1) / 2]? with
    | none => rw [q2] at e2; cases e2
    | some p2 =>
      rw [q1] at e1
      rw [q2] at e2
      cases e1
      cases e2
      show Fp.leR (wdQ ps (.ref p2.1)) (wdQ ps (.ref p1.1)) = true
      rw [wdQ_of h (hs _ (List.mem_of_getElem? q1)), wdQ_of h (hs _ (List.mem_of_getElem? q2))]
      exact x i i1 p1.2 p2.2 (by rw [List.getElem?_map, q1]; rfl) (by rw [List.getElem?_map, q2]; rfl)
section
variable {X : Cx}
theorem keyq_of {pins : List (Addr × Obj)} {σ : St} {H : Hp} {s : Shared} (I : Inv X pins σ H s) {q : Addr} {xs : List V} (hq : H q = some (.lst xs)) {ps : PQ} (h : QAt H ps) : ∀ p ∈ ps, Fp.KeyH q s (wdQ ps) (.ref p.1) := fun p hp => by
  have hp' := h p hp
  obtain ⟨its, r, pl, hz⟩ := I.tuple (.inl (.inl hp'))
  obtain ⟨o, ho, hc, n, hd⟩ := (show s.heap.IsTuple p.1 its.toArray from pl)
  refine ⟨?_, fun e => ?_⟩
  · rw [wdQ_of h hp]
    cases r with
    | cons r1 r =>
      cases r with
      | cons r2 r =>
        cases r
        obtain ⟨t1, rfl⟩ := r1
        obtain ⟨t2, rfl⟩ := r2
        exact ⟨p.1, o, t1, t2, n, rfl, ho, hc, hd⟩
  · injection e with e
    rw [e, hq] at hp'
    cases hp'
theorem inv_q {pins : List (Addr × Obj)} {σ : St} {H : Hp} {s s' : Shared} (I : Inv X pins σ H s) {q : Addr} {xs : List V} (hq : H q = some (.lst xs)) {Y : Array Value} (z : Fp.StH q s Y s') {qs : PQ} (e : Y.toList = qs.map fun p => Value.ref p.1) (hz : qs.length ≤ sizeLine) :
    Inv X pins σ (upd H q (.lst (qs.map fun p => V.ref p.1))) s' := by
  obtain ⟨h, n, rfl, h1, h2⟩ := z
  have hY : Y = (qs.map fun p => Value.ref p.1).toArray := by rw [← e]
  rw [hY] at h1
  refine I.write (x := q) (e := q) (by rw [hq]; exact trivial) (.inl rfl) (fun b' u hb hu => h2 b' u hb hu) ⟨_, h1⟩ ?_
  refine ⟨by rw [List.length_map]; exact hz, _, _, ?_, h1⟩
  clear e hY h1 hz
  induction qs with
  | nil => exact .nil
  | cons p r ih => exact .cons rfl ih
theorem refsq_of : ∀ {ps : PQ} {us : List Value}, Vals (ps.map fun p => V.ref p.1) us → us = ps.map fun p => Value.ref p.1
  | [], _, h => by cases h; rfl
  | p :: ps, _, h => by
    cases h with
    | cons r t =>
      cases r
      rw [refsq_of t] <;> rfl
theorem kind_ify : builtinKind "_heapq.heapify" = none := by kernel_rfl
theorem kind_pop : builtinKind "_heapq.heappop" = none := by kernel_rfl
theorem kind_push : builtinKind "_heapq.heappush" = none := by kernel_rfl
theorem plain_ify : plainId "_heapq.heapify" = true := by decide +kernel
theorem plain_pop : plainId "_heapq.heappop" = true := by decide +kernel
theorem plain_push : plainId "_heapq.heappush" = true := by decide +kernel
theorem entry_ify : entryFor table "_heapq.heapify" = some Builtin.«_heapq.heapify» := entryFor_of_tree (by kernel_rfl)
theorem entry_pop : entryFor table "_heapq.heappop" = some Builtin.«_heapq.heappop» := entryFor_of_tree (by kernel_rfl)
theorem entry_push : entryFor table "_heapq.heappush" = some Builtin.«_heapq.heappush» := entryFor_of_tree (by kernel_rfl)
theorem args_ify (v : Value) : argsOk "_heapq.heapify" ⟨[v], []⟩ := by unfold argsOk; kernel_rfl
theorem args_pop (v : Value) : argsOk "_heapq.heappop" ⟨[v], []⟩ := by unfold argsOk; kernel_rfl
theorem args_push (v u : Value) : argsOk "_heapq.heappush" ⟨[v, u], []⟩ := by unfold argsOk; kernel_rfl
def rHIfy : List V → Hp → VK → Prop := fun vs H Q => ∃ (q : Addr) (ps : PQ), vs = [.ref q] ∧ H q = some (.lst (ps.map fun p => V.ref p.1)) ∧ QAt H ps ∧ ps.length ≤ 2500 ∧
  ∀ qs : PQ, qs.Perm ps → HpL (qs.map (·.2)) → Q .non (upd H q (.lst (qs.map fun p => V.ref p.1)))
theorem cr_ify (hr : Room 3 X.A) : CallR X (.builtin "_heapq.heapify") rHIfy := by
  intro pins s σ H vs us Q I r h
  obtain ⟨q, ps, rfl, hq, hk, hz, k⟩ := h
  obtain rfl := Vals.ref1 r
  obtain ⟨z, its, n, r2, hl, e⟩ := I.lstM hq
  have ei := refsq_of r2
  subst ei
  refine call_function_meets (S := fun A R s' => s' = s ∧ A = X.A ∧ R = wants (EP X pins σ Q) X.xe) kind_ify plain_ify entry_ify (args_ify _) (fun prog w A R s' hS => ?_) ⟨rfl, rfl, rfl⟩
  obtain ⟨rfl, rfl, rfl⟩ := hS
  refine Fp.ify_run (wd := wdQ ps) hr.in1.in1.in1.units0 e (by simp; exact hz) (fun u hu => ?_) (fun Y s' zz hp hH => ?_)
  · have : u ∈ ps.map fun p => Value.ref p.1 := by simpa using hu
    obtain ⟨p, hp, rfl⟩ := List.mem_map.mp this
    exact keyq_of I hq hk p hp
  · obtain ⟨qs, h1, h2⟩ := wdQ_perm hk (vs := Y.toList) (by simpa using hp)
    have hs : sizeLine = 16777216 := sizeLine_eq
    have I2 := inv_q I hq zz h2 (by rw [h1.length_eq]; omega)
    refine ⟨.non, _, I2, rfl, k qs h1 (hpd_l hk h1 ?_)⟩
    have : Y = (qs.map fun p => Value.ref p.1).toArray := by rw [← h2]
    rw [← this]
    exact hH
def rHPush : List V → Hp → VK → Prop := fun vs H Q => ∃ (q t : Addr) (x : Str) (ps : PQ), vs = [.ref q, .ref t] ∧ H q = some (.lst (ps.map fun p => V.ref p.1)) ∧ QAt H (ps ++ [(t, x)]) ∧ ps.length + 1 ≤ sizeLine ∧ HpL (ps.map (·.2)) ∧
  ∀ qs : PQ, qs.Perm (ps ++ [(t, x)]) → HpL (qs.map (·.2)) → Q .non (upd H q (.lst (qs.map fun p => V.ref p.1)))
theorem cr_push (hr : Room 3 X.A) : CallR X (.builtin "_heapq.heappush") rHPush := by
  intro pins s σ H vs us Q I r h
  obtain ⟨q, t, x, ps, rfl, hq, hk, hz, hh, k⟩ := h
  obtain ⟨u1, u2, rfl, r1, r2⟩ : ∃ u1 u2, us = [u1, u2] ∧ RelV (V.ref q) u1 ∧ RelV (V.ref t) u2 := by
    cases r with
    | cons a r =>
      cases r with
      | cons b r =>
        cases r
        exact ⟨_, _, rfl, a, b⟩
  cases r1
  cases r2
  obtain ⟨z, its, n, r2, hl, e⟩ := I.lstM hq
  have ei := refsq_of r2
  subst ei
  have epush : ((ps.map fun p => Value.ref p.1).toArray.push (.ref t)).toList = (ps ++ [(t, x)]).map fun p => Value.ref p.1 := by simp
  refine call_function_meets (S := fun A R s' => s' = s ∧ A = X.A ∧ R = wants (EP X pins σ Q) X.xe) kind_push plain_push entry_push (args_push _ _) (fun prog w A R s' hS => ?_) ⟨rfl, rfl, rfl⟩
  obtain ⟨rfl, rfl, rfl⟩ := hS
  refine Fp.push_run (wd := wdQ (ps ++ [(t, x)])) hr.in1.in1.in1.units0 e (by simp; exact hz) (fun u hu => ?_) (l_hpd hk (fun p hp => List.mem_append_left _ hp) hh) (fun Y s' zz hp hH => ?_)
  · have : u ∈ (ps ++ [(t, x)]).map fun p => Value.ref p.1 := by
      rw [← epush]
      exact Array.mem_toList_iff.mpr hu
    obtain ⟨p, hp, rfl⟩ := List.mem_map.mp this
    exact keyq_of I hq hk p hp
  · rw [epush] at hp
    obtain ⟨qs, h1, h2⟩ := wdQ_perm hk hp
    have I2 := inv_q I hq zz h2 (by rw [h1.length_eq, List.length_append]; exact hz)
    refine ⟨.non, _, I2, rfl, k qs h1 (hpd_l hk h1 ?_)⟩
    have : Y = (qs.map fun p => Value.ref p.1).toArray := by rw [← h2]
    rw [← this]
    exact hH
def rHPop : List V → Hp → VK → Prop := fun vs H Q => ∃ (q : Addr) (ps : PQ), vs = [.ref q] ∧ H q = some (.lst (ps.map fun p => V.ref p.1)) ∧ QAt H ps ∧ ps ≠ [] ∧ HpL (ps.map (·.2)) ∧
  ∀ (p : Addr × Str) (qs : PQ), (p :: qs).Perm ps → HpL (qs.map (·.2)) → (∀ r ∈ qs, Fp.leR p.2 r.2 = true) → Q (.ref p.1) (upd H q (.lst (qs.map fun p => V.ref p.1)))
theorem cr_pop (hr : Room 3 X.A) : CallR X (.builtin "_heapq.heappop") rHPop := by
  intro pins s σ H vs us Q I r h
  obtain ⟨q, ps, rfl, hq, hk, hne, hh, k⟩ := h
  obtain rfl := Vals.ref1 r
  obtain ⟨z, its, n, r2, hl, e⟩ := I.lstM hq
  have ei := refsq_of r2
  subst ei
  rw [List.length_map] at z
  refine call_function_meets (S := fun A R s' => s' = s ∧ A = X.A ∧ R = wants (EP X pins σ Q) X.xe) kind_pop plain_pop entry_pop (args_pop _) (fun prog w A R s' hS => ?_) ⟨rfl, rfl, rfl⟩
  obtain ⟨rfl, rfl, rfl⟩ := hS
  cases ps with
  | nil => exact absurd rfl hne
  | cons p rest =>
    rcases List.eq_nil_or_concat rest with rfl | ⟨mid, lst, hrest⟩
    · refine Fp.pop1_run (f := .ref p.1) e (fun s' zz => ?_)
      have I2 := inv_q I hq zz (qs := []) rfl (Nat.zero_le _)
      exact ⟨.ref p.1, _, I2, rfl, k p [] (List.Perm.refl _) (fun i _ a b e => by simp at e) (fun r hr => by cases hr)⟩
    · rw [List.concat_eq_append] at hrest
      subst hrest
      have ev : (p :: (mid ++ [lst])).map (fun p => Value.ref p.1) = .ref p.1 :: ((mid.map fun p => Value.ref p.1) ++ [.ref lst.1]) := by simp
      have e' : s'.heap.get? q = some (Fp.lob (.ref p.1 :: ((mid.map fun p => Value.ref p.1) ++ [.ref lst.1])).toArray n) := by
        rw [← ev]
        exact e
      have hl0 := l_hpd hk (fun p hp => hp) hh
      rw [ev] at hl0
      refine Fp.pop_run (wd := wdQ (p :: (mid ++ [lst]))) hr.in1.in1.in1.units0 e' (by rw [List.length_map]; simp at z; omega) (fun u hu => ?_) hl0 (fun Y s2 zz hp hH => ?_)
      · rw [← ev] at hu
        obtain ⟨r, hr', rfl⟩ := List.mem_map.mp hu
        exact keyq_of I hq hk r hr'
      · have hk2 : QAt H (mid ++ [lst]) := fun r hr' => hk r (List.mem_cons_of_mem _ hr')
        have hp2 : Y.toList.Perm ((mid ++ [lst]).map fun p => Value.ref p.1) := by
          refine hp.trans ?_
          rw [List.map_append]
          exact (List.perm_append_comm (l₁ := [Value.ref lst.1])).trans (List.Perm.refl _)
        obtain ⟨qs, h1, h2⟩ := wdQ_perm hk2 hp2
        have I2 := inv_q I hq zz h2 (by rw [h1.length_eq]; simp at z ⊢; omega)
        have hqs : ∀ r ∈ qs, r ∈ p :: (mid ++ [lst]) := fun r hr' => List.mem_cons_of_mem _ (h1.mem_iff.mp hr')
        have eY : Y = (qs.map fun p => Value.ref p.1).toArray := by rw [← h2]
        rw [eY] at hH
        refine ⟨.ref p.1, _, I2, rfl, k p qs (h1.cons p) (fun i i1 a b e1 e2 => ?_) fun r hr' => ?_⟩
        · rw [List.getElem?_map] at e1 e2
          cases q1 : qs[i]? with
          | none => rw [q1] at e1; cases e1
          | some p1 =>
            cases q2 : qs[(i - 1) / 2]? with
            | none => rw [q2] at e2; cases e2
            | some p2 =>
              rw [q1] at e1
              rw [q2] at e2
              cases e1
              cases e2
              have := hH i i1 (Nat.zero_le _) (.ref p1.1) (.ref p2.1) (by simp [q1]) (by simp [q2])
              have g1 := wdQ_of hk (hqs _ (List.mem_of_getElem? q1))
              have g2 := wdQ_of hk (hqs _ (List.mem_of_getElem? q2))
              have this : Fp.leR (wdQ (p :: (mid ++ [lst])) (.ref p2.1)) (wdQ (p :: (mid ++ [lst])) (.ref p1.1)) = true := this
              rw [g1, g2] at this
              exact this
        · have hr2 : r ∈ p :: (mid ++ [lst]) := hqs r hr'
          have h0 : Fp.Hpd (Fp.leV (wdQ (p :: (mid ++ [lst])))) ((p :: (mid ++ [lst])).map fun p => Value.ref p.1).toArray 0 := l_hpd hk (fun p hp => hp) hh
          obtain ⟨i, hi, ei⟩ := List.mem_iff_getElem.mp hr2
          have := h0.least (fun a => (Fp.leV_tot a a).elim id id) Fp.leV_tr (m := .ref p.1) (by simp) i (.ref r.1) (by
            simp only [List.getElem?_toArray, List.getElem?_map]
            rw [List.getElem?_eq_getElem hi, ei]
            rfl)
          have this : Fp.leR (wdQ (p :: (mid ++ [lst])) (.ref p.1)) (wdQ (p :: (mid ++ [lst])) (.ref r.1)) = true := this
          rw [wdQ_of hk List.mem_cons_self, wdQ_of hk hr2] at this
          exact this
end
end L2

set_option Elab.async false
set_option linter.all false
set_option maxRecDepth 100000
set_option maxHeartbeats 4000000
namespace Fp
open PySem PySem.Spec PyProof.Rows L2
/-- the shortest beginning of z among ws -/
def startOf (ws : List Str) (z : Str) : Option Str := (List.range (z.length + 1)).findSome? fun (k : Nat) => if cutS z none (some (k : Int)) ∈ ws then some (cutS z none (some (k : Int))) else none
theorem startOf_none {ws : List Str} {z : Str} (h : ∀ k : Nat, k < z.length + 1 → cutS z none (some (k : Int)) ∉ ws) : startOf ws z = none := by
  unfold startOf
  rw [List.findSome?_eq_none_iff]
  intro k hk
  rw [if_neg (h k (List.mem_range.mp hk))]
theorem startOf_hit {ws : List Str} {z : Str} {i : Nat} (hi : i < z.length + 1) (hm : cutS z none (some (i : Int)) ∈ ws) (h : ∀ k : Nat, k < i → cutS z none (some (k : Int)) ∉ ws) : startOf ws z = some (cutS z none (some (i : Int))) := by
  unfold startOf
  obtain ⟨m, hm2⟩ : ∃ m, z.length + 1 = i + (1 + m) := ⟨z.length - i, by omega⟩
  rw [hm2, List.range_add, List.findSome?_append, List.findSome?_eq_none_iff.mpr (fun k hk => by rw [if_neg (h k (List.mem_range.mp hk))]), Option.none_or, List.range_add, List.map_append, List.findSome?_append]
  have e1 : List.findSome? (fun (k : Nat) => if cutS z none (some (k : Int)) ∈ ws then some (cutS z none (some (k : Int))) else none) ((List.range 1).map (i + ·)) = some (cutS z none (some (i : Int))) := by
    simp [hm]
  rw [e1]
  rfl
theorem val_some {kvs : List (Key × V)} {ws : List Str} (h : kvs.map (·.1) = ws.map Sum.inr) {s : Str} : (valV kvs (Sum.inr s)).isSome = decide (s ∈ ws) := by
  unfold valV
  rw [Option.isSome_map, Bool.eq_iff_iff, List.find?_isSome, decide_eq_true_iff]
  refine ⟨fun ⟨p, hp, e⟩ => ?_, fun hs => ?_⟩
  · have e := of_decide_eq_true e
    have : p.1 ∈ ws.map Sum.inr := by rw [← h]; exact List.mem_map.mpr ⟨p, hp, rfl⟩
    rw [e] at this
    obtain ⟨y, hy, e2⟩ := List.mem_map.mp this
    cases e2
    exact hy
  · have : (Sum.inr s : Key) ∈ kvs.map (·.1) := by rw [h]; exact List.mem_map.mpr ⟨s, hs, rfl⟩
    obtain ⟨p, hp, e⟩ := List.mem_map.mp this
    exact ⟨p, hp, decide_eq_true e⟩
def optV : Option Str → V
  | some s => .str s
  | none => .non
section
variable {P : Program} {w : World} {K : PySem.W.Frag} {mg : Str → Option Value} {base : Heap}
def spRank : Sp := fun vs H Q _ => ∃ z : Str, vs = [.str z] ∧ z.length ≤ sizeLine ∧ ∀ p, H p = none → Q (.ref p) (upd H p (.tup [.int (-(z.length : Int)), .str z]))
theorem sc_rank : FnScope ["word"] ["word"] (defScope s_rank_of) := ⟨rfl, rfl, rfl, by decide +kernel, rfl, by decide +kernel, by decide +kernel⟩
theorem ok_rank (T : Top K mg) : Ok P w K mg base 1 "rank_of" ["word"] spRank := by
  obtain ⟨fd, F⟩ := fn_rank_of T
  refine ⟨⟨fd, ?_, F.bindsN fun _ _ _ _ _ _ us hl => match us, hl with | [_], _ => rfl⟩, g_rank_of T, F.kp⟩
  refine F.ok sc_rank (fun vs H Q E h => ?_) (fun cdv A outer s H vs Q E hr h => ?_)
  · obtain ⟨z, rfl, _⟩ := h
    rfl
  · obtain ⟨z, rfl, hz, q⟩ := h
    have hs : sizeLine = 16777216 := sizeLine_eq
    refine ⟨_, PSs.nox (pss_one (ps_ret (pe_tup (pa_cons (pe_un un_neg (pe_callB call_len_str (by rfl) (f_len T) PySem.boot_len (pa_cons (pv 0) pa_nil))) (pa_cons (pv 0) pa_nil))))), ?_⟩
    exact ⟨_, rfl, z, rfl, hz, _, rfl, _, rfl, by show 2 ≤ sizeLine; omega, fun p hp => q p hp⟩
def spFirstW : Sp := fun vs H Q _ => ∃ (d : Addr) (kvs : List (Key × V)) (ws : List Str), vs = [.ref d] ∧ H d = some (.dK kvs) ∧ kvs.map (·.1) = ws.map Sum.inr ∧ ws ≠ [] ∧ (∀ x ∈ ws, x.length ≤ sizeLine) ∧ ∀ m ∈ ws, (∀ y ∈ ws, leR m y = true) → Q (.str m) H
theorem sc_firstW : FnScope ["table"] ["table"] (defScope s_first_word) := ⟨rfl, rfl, rfl, by decide +kernel, rfl, by decide +kernel, by decide +kernel⟩
theorem ok_firstW (T : Top K mg) : Ok P w K mg base 4 "first_word" ["table"] spFirstW := by
  obtain ⟨fd, F⟩ := fn_first_word T
  obtain ⟨fdR, FR⟩ := fn_rank_of T
  refine ⟨⟨fd, ?_, F.bindsN fun _ _ _ _ _ _ us hl => match us, hl with | [_], _ => rfl⟩, g_first_word T, F.kp⟩
  refine F.ok sc_firstW (fun vs H Q E h => ?_) (fun cdv A outer s H vs Q E hr h => ?_)
  · obtain ⟨d, kvs, ws, rfl, _⟩ := h
    rfl
  · obtain ⟨d, kvs, ws, rfl, hd, hk, hne, hw, q⟩ := h
    refine ⟨_, PSs.nox (pss_one (ps_ret (pe_callBK (cr_minRk rfl FR (f_len T) hr) (by rfl) (f_min T) (by decide +kernel) (pa_cons (pv 0) pa_nil) (pk_cons (pe_glob (v := .ref (He.ga K "rank_of")) rfl (g_rank_of T) rfl) pk_nil)))), ?_⟩
    exact ⟨_, rfl, d, kvs, ws, rfl, rfl, hd, hk, hne, hw, q⟩
def spStart : Sp := fun vs H Q _ => ∃ (z : Str) (D : Addr) (kvs : List (Key × V)) (ws : List Str), vs = [.str z, .ref D] ∧ z.length ≤ 1000 ∧ H D = some (.dK kvs) ∧ kvs.map (·.1) = ws.map Sum.inr ∧ Q (optV (startOf ws z)) H
theorem sc_start : FnScope ["word", "leads", "size"] ["word", "leads"] (defScope s_start_of) := ⟨rfl, rfl, rfl, by decide +kernel, rfl, by decide +kernel, by decide +kernel⟩
theorem ok_start (T : Top K mg) : Ok P w K mg base 1 "start_of" ["word", "leads"] spStart := by
  obtain ⟨fd, F⟩ := fn_start_of T
  refine ⟨⟨fd, ?_, F.bindsN fun _ _ _ _ _ _ us hl => match us, hl with | [_, _], _ => rfl⟩, g_start_of T, F.kp⟩
  refine F.ok sc_start (fun vs H Q E h => ?_) (fun cdv A outer s H vs Q E hr h => ?_)
  · obtain ⟨z, D, kvs, ws, rfl, _⟩ := h
    rfl
  · obtain ⟨z, D, kvs, ws, rfl, hz, hD, hk, q⟩ := h
    have nd := sc_start.nd
    have hu := hu_of hr
    have hs : sizeLine = 16777216 := sizeLine_eq
    refine ⟨_, PSs.nox (pss_cons (ps_for PassesOwn.never rfl (pi_range1 (by rfl) (f_range T) (pa_cons (pe_op op_add (pe_callB call_len_str (by rfl) (f_len T) PySem.boot_len (pa_cons (pv 0) pa_nil)) pe_int) pa_nil)) (pg_name (i := 2) nd rfl (Or.inl rfl))
        (pss_one (ps_if (pt_cmp (pc_din hu (pe_slice sl_str (pv 0) po_none (po_some (pv 2))) (pv 1)) rfl) (pss_one (ps_ret (pe_slice sl_str (pv 0) po_none (po_some (pv 2))))) pss_nil)))
      (pss_one (ps_ret pe_non))), ?_⟩
    refine ⟨_, rfl, z, rfl, by omega, _, _, rfl, rfl, ?_⟩
    refine ⟨(z.length : Int) + 1, rfl, by omega, by omega, ?_⟩
    have en : ((z.length : Int) + 1).toNat = z.length + 1 := by omega
    rw [en]
    refine for_it walk_range (fun i σ H' => (∃ v2, σ = [some (.str z), some (.ref D), v2]) ∧ H' = H ∧ ∀ k : Nat, k < i → cutS z none (some (k : Int)) ∉ ws) ⟨⟨none, rfl⟩, rfl, fun k h => absurd h (Nat.not_lt_zero k)⟩ (fun _ _ _ _ _ => trivial) ?_ ?_
    · rintro i x σ G G' hi ⟨⟨v2, rfl⟩, rfl, hno⟩ ⟨rfl, rfl⟩
      show gName 2 (V.int (0 + (i : Int))) _ _ _
      rw [Int.zero_add]
      refine ⟨_, rfl, _, rfl, _, rfl, z, rfl, by omega, _, rfl, D, _, rfl, .inl ⟨kvs, Sum.inr (cutS z none (some (i : Int))), .inl hD, rfl, rfl⟩, ?_⟩
      refine ⟨_, rfl, ?_⟩
      rw [val_some hk]
      by_cases hm : cutS z none (some (i : Int)) ∈ ws
      · rw [decide_eq_true hm]
        refine iteT ?_
        refine ⟨_, rfl, _, rfl, _, rfl, z, rfl, by omega, ?_⟩
        rw [startOf_hit hi hm hno] at q
        exact q
      · rw [decide_eq_false hm]
        refine iteF ?_
        refine ⟨⟨_, rfl⟩, rfl, fun k hk2 => ?_⟩
        by_cases e : k < i
        · exact hno k e
        · obtain rfl : k = i := by omega
          exact hm
    · rintro σ G ⟨⟨v2, rfl⟩, rfl, hno⟩
      rw [startOf_none hno] at q
      exact q
end
end Fp

set_option Elab.async false
set_option linter.all false
set_option maxRecDepth 100000
set_option maxHeartbeats 4000000
namespace Fp
open PySem PySem.Spec PyProof.Rows L2
/-- n times u, b behind each word, taken off t -/
def takeT (c n : Int) (b : Str) (u t : Tb) : Tb := u.foldl (fun t p => putT t (p.1 ++ b) ((num t (p.1 ++ b) - n * p.2) % c)) t
theorem takeT_take {c n : Int} {b : Str} {u : Tb} {i : Nat} {p : Str × Int} (e : u[i]? = some p) (t : Tb) : takeT c n b (u.take (i + 1)) t = putT (takeT c n b (u.take i) t) (p.1 ++ b) ((num (takeT c n b (u.take i) t) (p.1 ++ b) - n * p.2) % c) := by
  unfold takeT
  rw [List.take_add_one, e, List.foldl_append]
  rfl
theorem putT_len (l : Tb) (x : Str) (n : Int) : (putT l x n).length ≤ l.length + 1 := by
  unfold putT
  split
  · rw [List.length_map]
    omega
  · rw [List.length_append]
    exact Nat.le_refl _
theorem takeT_len (c n : Int) (b : Str) : ∀ (u t : Tb), (takeT c n b u t).length ≤ t.length + u.length
  | [], t => by show t.length ≤ _; exact Nat.le_add_right _ _
  | p :: u, t => by
    have h := takeT_len c n b u (putT t (p.1 ++ b) ((num t (p.1 ++ b) - n * p.2) % c))
    have h2 := putT_len t (p.1 ++ b) ((num t (p.1 ++ b) - n * p.2) % c)
    have e0 : takeT c n b (p :: u) t = takeT c n b u (putT t (p.1 ++ b) ((num t (p.1 ++ b) - n * p.2) % c)) := rfl
    rw [e0, List.length_cons]
    omega
abbrev At : Type := List (Addr × Tb)
section
variable {P : Program} {w : World} {K : PySem.W.Frag} {mg : Str → Option Value} {base : Heap}
structure TakePre (H : Hp) (L C : Addr) (n : Int) (b : Str) (c : Int) (ts us : At) : Prop where
  hc : 0 < c
  hc7 : c ≤ 7
  hb : b.length ≤ 1000
  hL : H L = some (.lst (ts.map fun p => V.ref p.1))
  hC : H C = some (.lst (us.map fun p => V.ref p.1))
  len : ts.length = us.length
  nd : (ts.map (·.1)).Nodup
  ht : ∀ p ∈ ts, H p.1 = some (.dK (kv p.2)) ∧ p.2.length ≤ 4000000
  hu : ∀ p ∈ us, H p.1 = some (.dK (kv p.2)) ∧ p.1 ∉ ts.map (·.1) ∧ (∀ q ∈ p.2, 1 ≤ q.2 ∧ q.2 < c ∧ q.1.length ≤ 1000) ∧ p.2.length ≤ 1000000
def spTake : Sp := fun vs H Q _ => ∃ (L C : Addr) (n : Int) (b : Str) (c : Int) (ts us : At), vs = [.ref L, .ref C, .int n, .str b, .int c] ∧ TakePre H L C n b c ts us ∧
  ∀ H', (∀ a o, H a = some o → a ∉ ts.map (·.1) → H' a = some o) → (∀ (i : Nat) (p q : Addr × Tb), ts[i]? = some p → us[i]? = some q → H' p.1 = some (.dK (kv (takeT c n b q.2 p.2)))) → Q .non H'
abbrev nTake : List Str := ["left", "column", "number", "back", "clock", "table", "pieces", "piece", "amount"]
theorem sc_take : FnScope nTake ["left", "column", "number", "back", "clock"] (defScope s_take_off) := ⟨rfl, rfl, rfl, by decide +kernel, rfl, by decide +kernel, by decide +kernel⟩
theorem ok_take (T : Top K mg) : Ok P w K mg base 1 "take_off" ["left", "column", "number", "back", "clock"] spTake := by
  obtain ⟨fd, F⟩ := fn_take_off T
  refine ⟨⟨fd, ?_, F.bindsN fun _ _ _ _ _ _ us hl => match us, hl with | [_, _, _, _, _], _ => rfl⟩, g_take_off T, F.kp⟩
  refine F.ok sc_take (fun vs H Q E h => ?_) (fun cdv A outer s H vs Q E hr h => ?_)
  · obtain ⟨L, C, n, b, c, ts, us, rfl, _⟩ := h
    rfl
  · obtain ⟨L, C, n, b, c, ts, us, rfl, pr, q⟩ := h
    obtain ⟨hc, hc7, hb, hL, hC, hlen, hnd, ht, hus⟩ := pr
    have nd := sc_take.nd
    have hu := hu_of hr
    have hs : sizeLine = 16777216 := sizeLine_eq
    refine ⟨_, PSs.nox (pss_one (ps_for PassesOwn.never rfl (pi_zip (by rfl) (f_zip T) (pa_cons (pv 0) (pa_cons (pv 1) pa_nil))) (pg_tup rfl (pgs_cons (pg_name (i := 5) nd rfl (Or.inl rfl)) (pgs_cons (pg_name (i := 6) nd rfl (Or.inl rfl)) pgs_nil)))
      (pss_one (ps_lock (ps_for PassesOwn.never rfl (pi_items (pv 6)) (pg_tup rfl (pgs_cons (pg_name (i := 7) nd rfl (Or.inl rfl)) (pgs_cons (pg_name (i := 8) nd rfl (Or.inl rfl)) pgs_nil)))
        (pss_one (ps_dput hu (pv 5) (pe_op op_add_str (pv 7) (pv 3)) (pe_op op_mod (pe_op op_sub (pe_dget2 hu (pv 5) (pe_op op_add_str (pv 7) (pv 3)) pe_int ⟨rfl, rfl, rfl, rfl⟩) (pe_op op_mul (pv 2) (pv 8))) (pv 4)) rfl))))))), ?_⟩
    have hLn : L ∉ ts.map (·.1) := fun z => by
      obtain ⟨p, hp, rfl⟩ := List.mem_map.mp z
      have := (ht p hp).1
      rw [hL] at this
      cases this
    have hCn : C ∉ ts.map (·.1) := fun z => by
      obtain ⟨p, hp, rfl⟩ := List.mem_map.mp z
      have := (ht p hp).1
      rw [hC] at this
      cases this
    refine ⟨_, rfl, _, rfl, L, C, _, _, rfl, SqL.of hL, SqL.of hC, ?_⟩
    refine for_it (walk_zip (xs := ts.map fun p => V.ref p.1) (ys := us.map fun p => V.ref p.1) (n := ts.length) (by rw [List.length_map, List.length_map]; omega))
      (fun i σ H' => (∃ v5 v6 v7 v8, σ = [some (.ref L), some (.ref C), some (.int n), some (.str b), some (.int c), v5, v6, v7, v8]) ∧ (∀ a o, H a = some o → a ∉ ts.map (·.1) → H' a = some o) ∧
        ∀ (j : Nat) (p q : Addr × Tb), ts[j]? = some p → us[j]? = some q → H' p.1 = some (.dK (kv (if j < i then takeT c n b q.2 p.2 else p.2))))
      ⟨⟨none, none, none, none, rfl⟩, fun a o e _ => e, fun j p q e1 e2 => by rw [if_neg (Nat.not_lt_zero j)]; exact (ht p (List.mem_of_getElem? e1)).1⟩ (fun i σ H' _ hP => ⟨SqL.of (hP.2.1 _ _ hL hLn), SqL.of (hP.2.1 _ _ hC hCn)⟩) ?_ ?_
    · rintro i x σ H1 H2 hi ⟨⟨v5, v6, v7, v8, rfl⟩, p1, p2⟩ ⟨t0, k, v', rfl, ht0, rfl, e1, e2⟩
      change (ts.map fun p => V.ref p.1)[i]? = some k at e1
      change (us.map fun p => V.ref p.1)[i]? = some v' at e2
      rw [List.getElem?_map] at e1 e2
      obtain ⟨p, ep, rfl⟩ := Option.map_eq_some_iff.mp e1
      obtain ⟨u, eu, rfl⟩ := Option.map_eq_some_iff.mp e2
      obtain ⟨hp1, hp2⟩ := ht p (List.mem_of_getElem? ep)
      obtain ⟨hu1, hu2, hu3, hu4⟩ := hus u (List.mem_of_getElem? eu)
      have pm : p.1 ∈ ts.map (·.1) := List.mem_map.mpr ⟨p, List.mem_of_getElem? ep, rfl⟩
      have npu : u.1 ≠ p.1 := fun z => hu2 (z ▸ pm)
      have s1 := same_upd (o := .tup [.ref p.1, .ref u.1]) ht0
      have d0 := s1 _ _ (p2 i p u ep eu)
      rw [if_neg (Nat.lt_irrefl i)] at d0
      refine ⟨t0, _, rfl, .inl (.inl upd_same), rfl, ?_⟩
      refine ⟨_, _, rfl, _, _, rfl, rfl, ?_⟩
      have p1' : ∀ a o, H a = some o → a ∉ ts.map (·.1) → (upd H1 t0 (.tup [.ref p.1, .ref u.1])) a = some o := fun a o e z => s1 _ _ (p1 a o e z)
      have p2' : ∀ (j : Nat) (p' q : Addr × Tb), ts[j]? = some p' → us[j]? = some q → (upd H1 t0 (.tup [.ref p.1, .ref u.1])) p'.1 = some (.dK (kv (if j < i then takeT c n b q.2 p'.2 else p'.2))) := fun j p' q a z => s1 _ _ (p2 j p' q a z)
      generalize upd H1 t0 (.tup [.ref p.1, .ref u.1]) = G at d0 p1' p2' ⊢
      have eG := p1' _ _ hu1 hu2
      refine ⟨u.1, .dK (kv u.2), eG, trivial, fun od => ?_⟩
      refine ⟨_, rfl, u.1, od, kv u.2, rfl, upd_same, ?_⟩
      refine for_it walk_items (fun k σ G' => (∃ v7 v8, σ = [some (.ref L), some (.ref C), some (.int n), some (.str b), some (.int c), some (.ref p.1), some (.ref u.1), v7, v8]) ∧ G' p.1 = some (.dK (kv (takeT c n b (u.2.take k) p.2))) ∧
          (∀ a o, G a = some o → a ≠ p.1 → a ≠ u.1 → G' a = some o) ∧ G' u.1 = some (.frz od (.dK (kv u.2))))
        ⟨⟨_, _, rfl⟩, by rw [upd_ne npu.symm]; exact d0, fun a o z _ n2 => by rw [upd_ne n2]; exact z, upd_same⟩ (fun k σ G' _ hP => hP.2.2.2) ?_ ?_
      · rintro k x σ H3 H4 hk ⟨⟨v7', v8', rfl⟩, r1, r2, r3⟩ ⟨t2, k', v', rfl, ht2, rfl, e3, e4⟩
        obtain ⟨q0, eq0, rfl, rfl⟩ := kv_item e3 e4
        obtain ⟨hq1, hq2, hq3⟩ := hu3 q0 (List.mem_of_getElem? eq0)
        have hkl : k < u.2.length := (List.getElem?_eq_some_iff.mp eq0).1
        have y1 : (upd H3 t2 (.tup [.str q0.1, .int q0.2])) p.1 = some (.dK (kv (takeT c n b (u.2.take k) p.2))) := same_upd ht2 _ _ r1
        have hwl : q0.1.length + b.length ≤ sizeLine := by omega
        refine ⟨t2, _, rfl, .inl (.inl upd_same), rfl, ?_⟩
        refine ⟨_, _, rfl, _, _, rfl, rfl, ?_⟩
        refine ⟨_, rfl, p.1, rfl, .inl ⟨_, .inl y1⟩, _, rfl, _, rfl, _, _, rfl, rfl, hwl, _, DGet.k (k := Sum.inr (q0.1 ++ b)) y1, ?_⟩
        rw [num_eq]
        refine ⟨_, rfl, _, rfl, _, _, rfl, rfl, .inr ⟨by omega, by omega⟩, _, _, rfl, rfl, ?_⟩
        refine ⟨_, rfl, _, _, rfl, rfl, hc, ?_⟩
        refine ⟨_, rfl, _, rfl, _, rfl, _, _, rfl, rfl, hwl, p.1, _, rfl, DPut.k (k := Sum.inr (q0.1 ++ b)) y1 ?_, ?_⟩
        · have b1 := takeT_len c n b (u.2.take k) p.2
          rw [List.length_take] at b1
          rw [kv_len]
          omega
        · refine ⟨⟨_, _, rfl⟩, ?_, ?_, ?_⟩
          · rw [upd_same, putK_kv, takeT_take eq0]
          · intro a o z na nb
            rw [upd_ne na]
            exact same_upd ht2 _ _ (r2 a o z na nb)
          · rw [upd_ne npu]
            exact same_upd ht2 _ _ r3
      · rintro σ H3 ⟨⟨v7', v8', rfl⟩, r1, r2, r3⟩
        rw [kv_len, List.take_length] at r1
        refine ⟨r3, ⟨_, _, _, _, rfl⟩, ?_, ?_⟩
        · intro a o z na
          by_cases nb : a = u.1
          · rw [nb, upd_same, ← hu1, ← nb, z]
          · rw [upd_ne nb]
            exact r2 a o (p1' a o z na) (fun e => na (e ▸ pm)) nb
        · intro j p' q' e5 e6
          have hpu : p'.1 ≠ u.1 := fun z => hu2 (z ▸ List.mem_map.mpr ⟨p', List.mem_of_getElem? e5, rfl⟩)
          rw [upd_ne hpu]
          by_cases hj : j = i
          · subst hj
            rw [ep] at e5
            rw [eu] at e6
            cases e5
            cases e6
            rw [if_pos (Nat.lt_succ_self j)]
            exact r1
          · have hpp : p'.1 ≠ p.1 := fun z => by
              have h1 : (ts.map (·.1))[j]? = some p.1 := by rw [List.getElem?_map, e5, ← z]; rfl
              have h2 : (ts.map (·.1))[i]? = some p.1 := by rw [List.getElem?_map, ep]; rfl
              obtain ⟨l1, g1⟩ := List.getElem?_eq_some_iff.mp h1
              obtain ⟨l2, g2⟩ := List.getElem?_eq_some_iff.mp h2
              exact hj ((List.getElem_inj hnd).mp (g1.trans g2.symm))
            have := r2 _ _ (p2' j p' q' e5 e6) hpp hpu
            rw [this]
            by_cases hji : j < i
            · rw [if_pos hji, if_pos (by omega)]
            · rw [if_neg hji, if_neg (by omega)]
    · rintro σ H' ⟨⟨v5, v6, v7, v8, rfl⟩, p1, p2⟩
      refine q H' p1 fun i p q' e1 e2 => ?_
      have := p2 i p q' e1 e2
      rw [if_pos (List.getElem?_eq_some_iff.mp e1).1] at this
      exact this
end
end Fp

set_option Elab.async false
set_option linter.all false
set_option maxRecDepth 100000
set_option maxHeartbeats 4000000
namespace Fp
open PySem PySem.Spec PyProof.Rows L2
/-! ### taking off, the numbers -/
theorem num_put_self {l : Tb} {x : Str} (n : Int) : num (putT l x n) x = n := by
  unfold putT
  cases h : has l x with
  | true =>
    rw [if_pos rfl]
    induction l with
    | nil => cases h
    | cons p r ih =>
      rw [List.map_cons, num_cons]
      by_cases e : p.1 = x
      · rw [if_pos e]
        show (if p.1 = x then n else num _ x) = n
        rw [if_pos e]
      · rw [if_neg e, if_neg e]
        refine ih ?_
        have h2 : (decide (p.1 = x) || has r x) = true := h
        rw [decide_eq_false e, Bool.false_or] at h2
        exact h2
  | false =>
    rw [if_neg Bool.false_ne_true]
    induction l with
    | nil => rw [List.nil_append, num_cons, if_pos rfl]
    | cons p r ih =>
      have h2 : (decide (p.1 = x) || has r x) = false := h
      obtain ⟨h3, h4⟩ := Bool.or_eq_false_iff.mp h2
      rw [List.cons_append, num_cons, if_neg (of_decide_eq_false h3), ih h4]
theorem num_takeT {c n : Int} {b : Str} : ∀ (u t : Tb) (x : Str), num (takeT c n b u t) x % c = (num t x - tot (bwd (b, n) u) x) % c
  | [], t, x => by
    show num t x % c = (num t x - tot [] x) % c
    rw [tot_nil, Int.sub_zero]
  | p :: u, t, x => by
    have e0 : takeT c n b (p :: u) t = takeT c n b u (putT t (p.1 ++ b) ((num t (p.1 ++ b) - n * p.2) % c)) := rfl
    have e1 : bwd (b, n) (p :: u) = (p.1 ++ b, p.2 * n) :: bwd (b, n) u := rfl
    rw [e0, num_takeT u, e1, tot_cons]
    by_cases e : p.1 ++ b = x
    · subst e
      rw [num_put_self, if_pos rfl, Int.sub_emod, Int.emod_emod_of_dvd _ (Int.dvd_refl c), ← Int.sub_emod, Int.mul_comm n p.2]
      congr 1
      omega
    · rw [num_put_ne _ e, if_neg e, Int.zero_add]
theorem takeT_nd {c n : Int} {b : Str} : ∀ (u t : Tb), Nd t → Nd (takeT c n b u t)
  | [], _, h => h
  | p :: u, t, h => takeT_nd u (putT t (p.1 ++ b) ((num t (p.1 ++ b) - n * p.2) % c)) (nd_put h _ _)
theorem takeT_key {c n : Int} {b : Str} : ∀ (u t : Tb) (x : Str), x ∈ (takeT c n b u t).map (·.1) ↔ x ∈ t.map (·.1) ∨ ∃ p ∈ u, p.1 ++ b = x
  | [], t, x => by
    show x ∈ t.map (·.1) ↔ _
    simp
  | p :: u, t, x => by
    have e0 : takeT c n b (p :: u) t = takeT c n b u (putT t (p.1 ++ b) ((num t (p.1 ++ b) - n * p.2) % c)) := rfl
    rw [e0, takeT_key u, putT_keys]
    cases h : has t (p.1 ++ b) with
    | true =>
      rw [if_pos rfl]
      have hm := has_iff.mp h
      constructor
      · rintro (z | ⟨q, hq, e⟩)
        · exact .inl z
        · exact .inr ⟨q, List.mem_cons_of_mem _ hq, e⟩
      · rintro (z | ⟨q, hq, e⟩)
        · exact .inl z
        · rcases List.mem_cons.mp hq with rfl | hq
          · exact .inl (e ▸ hm)
          · exact .inr ⟨q, hq, e⟩
    | false =>
      rw [if_neg Bool.false_ne_true, List.mem_append, List.mem_singleton]
      constructor
      · rintro ((z | z) | ⟨q, hq, e⟩)
        · exact .inl z
        · exact .inr ⟨p, List.mem_cons_self, z.symm⟩
        · exact .inr ⟨q, List.mem_cons_of_mem _ hq, e⟩
      · rintro (z | ⟨q, hq, e⟩)
        · exact .inl (.inl z)
        · rcases List.mem_cons.mp hq with rfl | hq
          · exact .inl (.inr e.symm)
          · exact .inr ⟨q, hq, e⟩
theorem put_rg {c : Int} {t : Tb} {x : Str} {n : Int} (h : ∀ p ∈ t, 0 ≤ p.2 ∧ p.2 < c) (hn : 0 ≤ n ∧ n < c) : ∀ p ∈ putT t x n, 0 ≤ p.2 ∧ p.2 < c := fun p hp => by
  unfold putT at hp
  split at hp
  · obtain ⟨q, hq, rfl⟩ := List.mem_map.mp hp
    split
    · exact hn
    · exact h q hq
  · rcases List.mem_append.mp hp with hp | hp
    · exact h p hp
    · have : p = (x, n) := by simpa using hp
      subst this
      exact hn
theorem takeT_rg {c n : Int} {b : Str} (hc : 0 < c) : ∀ (u t : Tb), (∀ p ∈ t, 0 ≤ p.2 ∧ p.2 < c) → ∀ p ∈ takeT c n b u t, 0 ≤ p.2 ∧ p.2 < c
  | [], _, h => h
  | p :: u, t, h => takeT_rg hc u _ (put_rg h ⟨Int.emod_nonneg _ (by omega), Int.emod_lt_of_pos _ hc⟩)
theorem num_rg {c : Int} {t : Tb} (hc : 0 < c) (h : ∀ p ∈ t, 0 ≤ p.2 ∧ p.2 < c) (x : Str) : 0 ≤ num t x ∧ num t x < c := by
  unfold num
  cases e : t.find? fun p => decide (p.1 = x) with
  | none => exact ⟨Int.le_refl _, hc⟩
  | some p => exact h p (List.mem_of_find?_eq_some e)
/-- as sums: u with n, b behind, less -/
theorem lk_takeT {c n : Int} {b : Str} {u t : Tb} (h : Nd t) : Lk c (takeT c n b u t) (t ++ scl (-1) (bwd (b, n) u)) := fun x => by
  rw [tot_num (takeT_nd u t h), num_takeT, tot_app, tot_scl, tot_num h]
  congr 1
  omega
/-! ### how many words there are -/
def stp (a : Nat) (w : Str) : Str := ⟨#[a] ++ w.cps⟩
def thr (w : Str) : List Str := [stp 120 w, stp 121 w, stp 122 w]
def allW : Nat → List Str
  | 0 => [""]
  | m + 1 => "" :: (allW m).flatMap thr
theorem flat3 (l : List Str) : (l.flatMap thr).length = 3 * l.length := by
  induction l with
  | nil => rfl
  | cons a r ih =>
    rw [List.flatMap_cons, List.length_append, ih, List.length_cons]
    show 3 + 3 * r.length = 3 * (r.length + 1)
    omega
theorem allW_len : ∀ m, (allW m).length + 1 ≤ 3 ^ (m + 1)
  | 0 => by decide
  | m + 1 => by
    have h := allW_len m
    have e : (allW (m + 1)).length = 3 * (allW m).length + 1 := by
      show ((("" : Str) :: (allW m).flatMap thr : List Str)).length = _
      rw [List.length_cons, flat3]
    have e2 : 3 ^ (m + 1 + 1) = 3 * 3 ^ (m + 1) := by rw [Nat.pow_succ, Nat.mul_comm]
    rw [e, e2]
    omega
theorem allW_mem : ∀ (m : Nat) (w : Str), xyz w → w.length ≤ m → w ∈ allW m
  | m, w, hx, hl => by
    obtain ⟨⟨l⟩⟩ := w
    cases l with
    | nil =>
      cases m with
      | zero => exact List.mem_singleton.mpr rfl
      | succ m => exact List.mem_cons_self
    | cons a r =>
      cases m with
      | zero =>
        have : (a :: r).length ≤ 0 := hl
        simp at this
      | succ m =>
        refine List.mem_cons_of_mem _ (List.mem_flatMap.mpr ⟨⟨⟨r⟩⟩, allW_mem m ⟨⟨r⟩⟩ (fun c hc => hx c (List.mem_cons_of_mem _ hc)) ?_, ?_⟩)
        · have : (a :: r).length ≤ m + 1 := hl
          show r.length ≤ m
          rw [List.length_cons] at this
          omega
        · have e : ∀ k, a = k → (⟨⟨a :: r⟩⟩ : Str) = stp k ⟨⟨r⟩⟩ := fun k hk => by
            subst hk
            unfold stp
            simp
          rcases hx a List.mem_cons_self with z | z | z
          · rw [e _ z]
            exact List.mem_cons_self
          · rw [e _ z]
            exact List.mem_cons_of_mem _ List.mem_cons_self
          · rw [e _ z]
            exact List.mem_cons_of_mem _ (List.mem_cons_of_mem _ List.mem_cons_self)
theorem words_few {l : List Str} {m : Nat} (h : l.Nodup) (hw : ∀ w ∈ l, xyz w ∧ w.length ≤ m) : l.length < 3 ^ (m + 1) := by
  have := List.Nodup.length_le_of_subset h (fun w hm => allW_mem m w (hw w hm).1 (hw w hm).2)
  have := allW_len m
  omega
/-! ### beginnings -/
theorem startOf_some {ws : List Str} {z s : Str} (h : startOf ws z = some s) : s ∈ ws ∧ ∃ k : Nat, k ≤ z.length ∧ s = cutS z none (some (k : Int)) := by
  unfold startOf at h
  obtain ⟨k, hk, e⟩ := List.exists_of_findSome?_eq_some h
  split at e
  · rename_i hm
    cases e
    exact ⟨hm, k, by have := List.mem_range.mp hk; omega, rfl⟩
  · cases e
end Fp

set_option Elab.async false
set_option linter.all false
set_option maxRecDepth 100000
set_option maxHeartbeats 4000000
namespace Fp
open PySem PySem.Spec PyProof.Rows L2
/-! ### the order of words -/
theorem leR_iff {a b : Str} : leR a b = true ↔ b.length < a.length ∨ (a.length = b.length ∧ ¬ b.cps.toList < a.cps.toList) := by
  have e0 : leR a b = !PySem.W.dataLt (rk b) (rk a) := rfl
  rw [e0]
  unfold rk
  rw [PySem.W.dataLt_pair rfl rfl]
  by_cases h : a.length = b.length
  · have hv : PyData.eqv (.int (-(b.length : Int))) (.int (-(a.length : Int))) = true := by
      simp only [PyData.eqv]
      simp [h]
    rw [hv, if_pos rfl, PySem.W.dataLt_str]
    by_cases e : b = a
    · subst e
      have hv2 : PyData.eqv (.str b) (.str b) = true := by simp [PyData.eqv]
      rw [hv2, if_pos rfl]
      exact ⟨fun _ => .inr ⟨rfl, List.lt_irrefl _⟩, fun _ => rfl⟩
    · have hv2 : PyData.eqv (.str b) (.str a) = false := by simp [PyData.eqv, e]
      rw [hv2, if_neg Bool.false_ne_true]
      constructor
      · intro z
        refine .inr ⟨h, fun y => ?_⟩
        rw [decide_eq_true y] at z
        cases z
      · rintro (z | ⟨_, z⟩)
        · omega
        · rw [decide_eq_false z]
          rfl
  · have hv : PyData.eqv (.int (-(b.length : Int))) (.int (-(a.length : Int))) = false := by
      simp only [PyData.eqv]
      have : ¬ (-(b.length : Int) = -(a.length : Int)) := by omega
      simpa using this
    rw [hv, if_neg Bool.false_ne_true, PySem.W.dataLt_int]
    constructor
    · intro z
      by_cases y : b.length < a.length
      · exact .inl y
      · have : -(b.length : Int) < -(a.length : Int) := by omega
        rw [decide_eq_true this] at z
        cases z
    · rintro (z | ⟨z, _⟩)
      · rw [decide_eq_false (by omega)]
        rfl
      · exact absurd z h
theorem lt_suffix : ∀ {s r z : List Nat}, s.length = r.length → (s ++ z < r ++ z ↔ s < r)
  | [], [], z, _ => ⟨fun h => absurd h (List.lt_irrefl _), fun h => absurd h (List.lt_irrefl _)⟩
  | [], _ :: _, _, h => by simp at h
  | _ :: _, [], _, h => by simp at h
  | a :: s, b :: r, z, h => by
    have h' : s.length = r.length := by simpa using h
    rw [List.cons_append, List.cons_append, List.cons_lt_cons_iff, List.cons_lt_cons_iff, lt_suffix h']
theorem lt_prefix : ∀ {z s r : List Nat}, (z ++ s < z ++ r ↔ s < r)
  | [], _, _ => Iff.rfl
  | a :: z, s, r => by
    rw [List.cons_append, List.cons_append, List.cons_lt_cons_iff, lt_prefix]
    constructor
    · rintro (h | ⟨_, h⟩)
      · exact absurd h (Nat.lt_irrefl _)
      · exact h
    · exact fun h => .inr ⟨rfl, h⟩
theorem app_len (u v : Str) : (u ++ v).length = u.length + v.length := by
  show (u.cps ++ v.cps).size = u.cps.size + v.cps.size
  exact Array.size_append
theorem app_list (u v : Str) : (u ++ v).cps.toList = u.cps.toList ++ v.cps.toList := by
  show (u.cps ++ v.cps).toList = _
  exact Array.toList_append
theorem len_list (u : Str) : u.cps.toList.length = u.length := by
  show u.cps.toList.length = u.cps.size
  exact Array.length_toList
theorem leR_app_r {s r z : Str} (h : leR s r = true) : leR (s ++ z) (r ++ z) = true := by
  rw [leR_iff] at h ⊢
  rw [app_len, app_len, app_list, app_list]
  rcases h with h | ⟨h, g⟩
  · exact .inl (by omega)
  · exact .inr ⟨by omega, fun y => g ((lt_suffix (by rw [len_list, len_list, h])).mp y)⟩
theorem leR_app_l {s r z : Str} (h : leR s r = true) : leR (z ++ s) (z ++ r) = true := by
  rw [leR_iff] at h ⊢
  rw [app_len, app_len, app_list, app_list]
  rcases h with h | ⟨h, g⟩
  · exact .inl (by omega)
  · exact .inr ⟨by omega, fun y => g (lt_prefix.mp y)⟩
theorem leR_len' {a b : Str} (h : leR a b = true) : b.length ≤ a.length := by
  rcases leR_iff.mp h with h | ⟨h, _⟩ <;> omega
theorem leR_trans {a b c : Str} (h : leR a b = true) (g : leR b c = true) : leR a c = true := leR_total.trans _ _ _ h g
/-! ### beginnings and ends of a word -/
theorem cut_front_list {z : Str} {k : Nat} (h : k ≤ z.length) : (cutS z none (some (k : Int))).cps.toList = z.cps.toList.take k := by
  unfold cutS
  rw [show HT.sIx z.length z.length (some (k : Int)) = min k z.length from HT.sIx_nat _ _ k, HT.sIx_none, List.drop_zero, Nat.sub_zero, Nat.min_eq_left h]
theorem cut_back_list {z : Str} {k : Nat} (h : k ≤ z.length) : (cutS z (some (k : Int)) none).cps.toList = z.cps.toList.drop k := by
  unfold cutS
  rw [show HT.sIx z.length 0 (some (k : Int)) = min k z.length from HT.sIx_nat _ _ k, HT.sIx_none, Nat.min_eq_left h]
  show ((z.cps.toList.drop k).take (z.length - k)) = _
  refine List.take_of_length_le ?_
  rw [List.length_drop, len_list]
  exact Nat.le_refl _
theorem cut_len {z : Str} {k : Nat} (h : k ≤ z.length) : (cutS z none (some (k : Int))).length = k := by
  rw [← len_list, cut_front_list h, List.length_take, len_list, Nat.min_eq_left h]
theorem cut_both {z : Str} {k : Nat} (h : k ≤ z.length) : cutS z none (some (k : Int)) ++ cutS z (some (k : Int)) none = z := by
  refine PySem.W.str_of_cps ?_
  rw [app_list, cut_front_list h, cut_back_list h, List.take_append_drop]
end Fp

set_option Elab.async false
set_option linter.all false
set_option maxRecDepth 100000
set_option maxHeartbeats 4000000
namespace Fp
open PySem PySem.Spec PyProof.Rows L2
/-- a lead's table: s leads with the number 1 -/
structure Led (c : Int) (s : Str) (u : Tb) : Prop where
  nd : Nd u
  one : num u s = 1
  behind : ∀ r ∈ u, leR s r.1 = true
theorem take_lead {c n : Int} {s b : Str} {u t : Tb} (hc : 0 < c) (hu : Led c s u) (ht : ∀ p ∈ t, 0 ≤ p.2 ∧ p.2 < c) (hn : n = num t (s ++ b)) : num (takeT c n b u t) (s ++ b) = 0 := by
  have h1 := num_takeT (c := c) (n := n) (b := b) u t (s ++ b)
  have h2 : tot (bwd (b, n) u) (s ++ b) = 1 * n := by
    rcases tot_bwd (b, n) u (s ++ b) with ⟨v, e, h⟩ | ⟨h, _⟩
    · have : v = s := str_cancel_r (u := b) e
      subst this
      rw [h, tot_num hu.nd, hu.one]
    · exact absurd rfl (h s)
  rw [h2, Int.one_mul, ← hn, Int.sub_self, Int.zero_emod] at h1
  obtain ⟨r1, r2⟩ := num_rg hc (takeT_rg (n := n) (b := b) hc u t ht) (s ++ b)
  rw [Int.emod_eq_of_lt r1 r2] at h1
  exact h1
theorem take_ahead {c n : Int} {s b x : Str} {u t : Tb} (hc : 0 < c) (hu : Led c s u) (ht : ∀ p ∈ t, 0 ≤ p.2 ∧ p.2 < c) (hx : leR x (s ++ b) = true) (hne : x ≠ s ++ b) : num (takeT c n b u t) x = num t x := by
  have h1 := num_takeT (c := c) (n := n) (b := b) u t x
  have h2 : tot (bwd (b, n) u) x = 0 := by
    rcases tot_bwd (b, n) u x with ⟨v, e, h⟩ | ⟨_, h⟩
    · rw [h]
      by_cases hv : v ∈ u.map (·.1)
      · exfalso
        obtain ⟨r, hr, rfl⟩ := List.mem_map.mp hv
        have h3 := leR_app_r (z := b) (hu.behind r hr)
        have e' : r.1 ++ b = x := e
        rw [e'] at h3
        exact hne (leR_anti hx h3)
      · rw [tot_not hv, Int.zero_mul]
    · exact h
  rw [h2, Int.sub_zero] at h1
  obtain ⟨r1, r2⟩ := num_rg hc (takeT_rg (n := n) (b := b) hc u t ht) x
  obtain ⟨q1, q2⟩ := num_rg hc ht x
  rw [Int.emod_eq_of_lt r1 r2, Int.emod_eq_of_lt q1 q2] at h1
  exact h1
/-- words of a lot of words -/
def Wd (U : List Str) (t : Tb) : Prop := ∀ x ∈ t.map (·.1), x ∈ U
theorem take_wd {c n : Int} {U : List Str} {b : Str} {u t : Tb} (ht : Wd U t) (hu : ∀ r ∈ u, r.1 ++ b ∈ U) : Wd U (takeT c n b u t) := fun x hx => by
  rcases (takeT_key u t x).mp hx with hx | ⟨r, hr, rfl⟩
  · exact ht x hx
  · exact hu r hr
theorem tb_few {U : List Str} {t : Tb} (h : Nd t) (hw : Wd U t) : t.length < U.length + 1 := by
  have h' : (t.map (·.1)).Nodup := h
  have := List.Nodup.length_le_of_subset h' (fun x hx => hw x hx)
  rw [List.length_map] at this
  omega
end Fp

set_option Elab.async false
set_option linter.all false
set_option maxRecDepth 100000
set_option maxHeartbeats 4000000
namespace Fp
open PySem PySem.Spec PyProof.Rows L2
abbrev Lead : Type := Str × Addr × At
/-- a lot of words that is kept by taking off -/
structure Cl (lds : List Lead) (M : Nat) (U : List Str) : Prop where
  len : U.length ≤ 1000000
  m : M ≤ 1000
  wl : ∀ x ∈ U, xyz x ∧ x.length ≤ M
  cl : ∀ q ∈ lds, ∀ p ∈ q.2.2, ∀ r ∈ p.2, ∀ b, q.1 ++ b ∈ U → r.1 ++ b ∈ U
structure RA (H : Hp) (L D : Addr) (i : Nat) (c : Int) (M : Nat) (U : List Str) (ts : At) (lds : List Lead) : Prop where
  hc : 0 < c
  hc7 : c ≤ 7
  cl : Cl lds M U
  hL : H L = some (.lst (ts.map fun p => V.ref p.1))
  hD : H D = some (.dK (lds.map fun q => ((Sum.inr q.1 : Key), V.ref q.2.1)))
  hDn : D ∉ ts.map (·.1)
  hi : i < ts.length
  nd : (ts.map (·.1)).Nodup
  ht : ∀ p ∈ ts, H p.1 = some (.dK (kv p.2))
  tg : ∀ p ∈ ts, Nd p.2 ∧ (∀ q ∈ p.2, 0 ≤ q.2 ∧ q.2 < c) ∧ Wd U p.2
  few : ∀ p, ts[i]? = some p → p.2.length ≤ 2500
  col : ∀ q ∈ lds, H q.2.1 = some (.lst (q.2.2.map fun p => V.ref p.1)) ∧ q.2.2.length = ts.length ∧ q.1.length ≤ 1000
  pc : ∀ q ∈ lds, ∀ p ∈ q.2.2, H p.1 = some (.dK (kv p.2)) ∧ p.1 ∉ ts.map (·.1) ∧ (∀ r ∈ p.2, 1 ≤ r.2 ∧ r.2 < c) ∧ p.2.length ≤ 1000000 ∧ ∀ r ∈ p.2, xyz r.1 ∧ r.1.length ≤ q.1.length
  led : ∀ q ∈ lds, ∀ p, q.2.2[i]? = some p → Led c q.1 p.2
/-- what has been taken off: a lead, what stands behind it, how many times -/
structure Tk where
  q : Lead
  b : Str
  n : Int
def opT (c : Int) (j : Nat) (t : Tb) (o : Tk) : Tb := match o.q.2.2[j]? with
  | some p => takeT c o.n o.b p.2 t
  | none => t
def runT (c : Int) (j : Nat) (ops : List Tk) (t : Tb) : Tb := ops.foldl (opT c j) t
theorem runT_snoc (c : Int) (j : Nat) (ops : List Tk) (o : Tk) (t : Tb) : runT c j (ops ++ [o]) t = opT c j (runT c j ops t) o := by
  unfold runT
  rw [List.foldl_append]
  rfl
theorem lead_get : ∀ {lds : List Lead} {s : Str}, s ∈ lds.map (·.1) → ∃ q ∈ lds, q.1 = s ∧ valV (lds.map fun q => ((Sum.inr q.1 : Key), V.ref q.2.1)) (Sum.inr s) = some (.ref q.2.1)
  | [], s, h => by cases h
  | q :: r, s, h => by
    by_cases e : q.1 = s
    · refine ⟨q, List.mem_cons_self, e, ?_⟩
      unfold valV
      rw [List.map_cons, List.find?_cons_of_pos (by simp [e])]
      rfl
    · rcases List.mem_cons.mp h with h | h
      · exact absurd h.symm e
      · obtain ⟨q', h1, h2, h3⟩ := lead_get (lds := r) h
        refine ⟨q', List.mem_cons_of_mem _ h1, h2, ?_⟩
        unfold valV at h3 ⊢
        rw [List.map_cons, List.find?_cons_of_neg (by simp [e])]
        exact h3
theorem xyz_tail {a b : Str} (h : xyz (a ++ b)) : xyz b := fun c hc => h c (by rw [app_list]; exact List.mem_append_right _ hc)
theorem has_iff' {l : Tb} {x : Str} : has l x = false ↔ x ∉ l.map (·.1) := by
  rw [← has_iff]
  cases has l x <;> simp
/-- the words that come new -/
def newW (b : Str) (u t : Tb) : List Str := (u.map fun r => r.1 ++ b).filter fun x => !has t x
theorem newW_mem {b : Str} {u t : Tb} {x : Str} : x ∈ newW b u t ↔ (∃ r ∈ u, r.1 ++ b = x) ∧ x ∉ t.map (·.1) := by
  unfold newW
  rw [List.mem_filter, List.mem_map]
  refine and_congr Iff.rfl ?_
  rw [← has_iff']
  cases has t x <;> simp
theorem newW_nd {b : Str} {u t : Tb} (h : Nd u) : (newW b u t).Nodup := by
  refine List.Nodup.sublist List.filter_sublist ?_
  have e : (u.map fun r => r.1 ++ b) = (u.map (·.1)).map fun x => x ++ b := by rw [List.map_map]; rfl
  rw [e]
  have h' : (u.map (·.1)).Nodup := h
  exact List.Pairwise.map _ (fun a b' hne z => hne (str_cancel_r z)) h'
theorem newW_len {c n : Int} {b : Str} {u t : Tb} (hu : Nd u) (ht : Nd t) : t.length + (newW b u t).length ≤ (takeT c n b u t).length := by
  have h1 : (t.map (·.1) ++ newW b u t).Nodup := by
    refine List.nodup_append.mpr ⟨ht, newW_nd hu, fun a ha b' hb e => ?_⟩
    subst e
    exact (newW_mem.mp hb).2 ha
  have h2 := List.Nodup.length_le_of_subset (l₂ := (takeT c n b u t).map (·.1)) h1 (fun x hx => by
    rw [takeT_key]
    rcases List.mem_append.mp hx with hx | hx
    · exact .inl hx
    · exact .inr (newW_mem.mp hx).1)
  rw [List.length_append, List.length_map, List.length_map] at h2
  exact h2
/-- the tables as they stand -/
def cur (c : Int) (ops : List Tk) (ts : At) : At := ts.mapIdx fun j p => (p.1, runT c j ops p.2)
theorem cur_at {c : Int} {ops : List Tk} {ts : At} {j : Nat} : (cur c ops ts)[j]? = (ts[j]?).map fun p => (p.1, runT c j ops p.2) := List.getElem?_mapIdx
theorem cur_map {α : Type} {c : Int} {ops : List Tk} {ts : At} (f : Addr → α) : (cur c ops ts).map (fun p => f p.1) = ts.map fun p => f p.1 := by
  refine List.ext_getElem? fun j => ?_
  rw [List.getElem?_map, List.getElem?_map, cur_at, Option.map_map]
  rfl
theorem cur_mem {c : Int} {ops : List Tk} {ts : At} {p : Addr × Tb} (h : p ∈ cur c ops ts) : ∃ (j : Nat) (p' : Addr × Tb), ts[j]? = some p' ∧ p = (p'.1, runT c j ops p'.2) := by
  obtain ⟨j, e⟩ := List.getElem?_of_mem h
  rw [cur_at] at e
  obtain ⟨p', e1, e2⟩ := Option.map_eq_some_iff.mp e
  exact ⟨j, p', e1, e2.symm⟩
/-- what stands ahead of each turn of the while -/
structure JA (H : Hp) (i : Nat) (c : Int) (U : List Str) (ts : At) (lds : List Lead) (t : Tb) (Qa : Addr) (ops : List Tk) (ps : PQ) (H' : Hp) : Prop where
  tk : ∀ o ∈ ops, o.q ∈ lds
  fr : ∀ a o, H a = some o → a ∉ ts.map (·.1) → H' a = some o
  tb : ∀ (j : Nat) p, ts[j]? = some p → H' p.1 = some (.dK (kv (runT c j ops p.2))) ∧ Nd (runT c j ops p.2) ∧ (∀ q ∈ runT c j ops p.2, 0 ≤ q.2 ∧ q.2 < c) ∧ Wd U (runT c j ops p.2)
  q1 : H' Qa = some (.lst (ps.map fun p => V.ref p.1))
  q2 : QAt H' ps
  q3 : HpL (ps.map (·.2))
  q4 : (ps.map (·.2)).Nodup
  q5 : ∀ p ∈ ps, p.2 ∈ (runT c i ops t).map (·.1) ∧ (startOf (lds.map (·.1)) p.2).isSome = true
  q6 : ∀ x ∈ (runT c i ops t).map (·.1), (startOf (lds.map (·.1)) x).isSome = true → x ∈ ps.map (·.2) ∨ (num (runT c i ops t) x = 0 ∧ ∀ p ∈ ps, leR x p.2 = true)
section
variable {P : Program} {w : World} {K : PySem.W.Frag} {mg : Str → Option Value} {base : Heap}
def spRA : Sp := fun vs H Q _ => ∃ (L D : Addr) (i : Nat) (c : Int) (M : Nat) (U : List Str) (ts : At) (lds : List Lead), vs = [.ref L, .int i, .ref D, .int c] ∧ RA H L D i c M U ts lds ∧
  ∀ (H' : Hp) (ops : List Tk), (∀ o ∈ ops, o.q ∈ lds) → (∀ a o, H a = some o → a ∉ ts.map (·.1) → H' a = some o) →
    (∀ (j : Nat) p, ts[j]? = some p → H' p.1 = some (.dK (kv (runT c j ops p.2))) ∧ Nd (runT c j ops p.2) ∧ (∀ q ∈ runT c j ops p.2, 0 ≤ q.2 ∧ q.2 < c) ∧ Wd U (runT c j ops p.2)) →
    (∀ p, ts[i]? = some p → ∀ x ∈ (runT c i ops p.2).map (·.1), (startOf (lds.map (·.1)) x).isSome = true → num (runT c i ops p.2) x = 0) → Q .non H'
abbrev nRA : List Str := ["left", "place", "leads", "clock", "table", "queue", "_", "word", "start", "back", "fresh", "found", "piece"]
theorem sc_RA : FnScope nRA ["left", "place", "leads", "clock"] (defScope s_reduce_at) := ⟨rfl, rfl, rfl, by decide +kernel, rfl, by decide +kernel, by decide +kernel⟩
theorem ok_RA (T : Top K mg) : Ok P w K mg base 4 "reduce_at" ["left", "place", "leads", "clock"] spRA := by
  obtain ⟨fd, F⟩ := fn_reduce_at T
  refine ⟨⟨fd, ?_, F.bindsN fun _ _ _ _ _ _ us hl => match us, hl with | [_, _, _, _], _ => rfl⟩, g_reduce_at T, F.kp⟩
  refine F.ok sc_RA (fun vs H Q E h => ?_) (fun cdv A outer s H vs Q E hr h => ?_)
  · obtain ⟨L, D, i, c, M, U, ts, lds, rfl, _⟩ := h
    rfl
  · obtain ⟨L, D, i, c, M, U, ts, lds, rfl, ra, q⟩ := h
    have nd := sc_RA.nd
    have hu := hu_of hr
    have hr1 : Room 1 _ := hr.mono (by decide)
    have hs : sizeLine = 16777216 := sizeLine_eq
    refine ⟨_, PSs.nox (pss_cons (ps_set (i := 4) nd rfl (Or.inr rfl) (pe_ix ix_list (pv 0) (pv 1) (fun _ _ => rfl)))
      (pss_cons (ps_lock (ps_setLc (i := 5) (te := tCall spRank [] E0 (tCons (tVar 7) tNil)) (tt := tB (tNotN (tCall spStart [] E0 (tCons (tVar 7) (tCons (tVar 2) tNil))))) (own := [("word", 7)]) (g := gName 7) (by rfl) nd rfl rfl (sw_true rfl rfl rfl (by decide +kernel)) (pi_keys (pv 4)) (blkOk_by (N := nRA) (sc := defScope s_reduce_at) (by decide +kernel))
        (fun _ _ _ _ _ => pg_name (i := 7) nd rfl (Or.inl rfl)) (fun _ _ _ _ _ => by exact pts_one (pt_cmp (pc_notN (pc (ok_start T) hr1 (pa_cons (pv 7) (pa_cons (pv 2) pa_nil)))) rfl)) (fun _ _ _ _ _ => by exact (pc (ok_rank T) hr1 (pa_cons (pv 7) pa_nil)))))
      (pss_cons (ps_expr (pe_callBfun (cr_ify hr) (by rfl) (hq_heapify T) (pa_cons (pv 5) pa_nil)))
      (pss_one (ps_while PassesOwn.never (pt_truth (pv 5) (fun _ => rfl))
        (pss_cons (ps_asg (pe_callBfun (cr_pop hr) (by rfl) (hq_heappop T) (pa_cons (pv 5) pa_nil)) (pg_tup rfl (pgs_cons (pg_name (i := 6) nd rfl (Or.inl rfl)) (pgs_cons (pg_name (i := 7) nd rfl (Or.inl rfl)) pgs_nil))))
        (pss_one (ps_if (pt_truth (pe_dget hu (pv 4) (pv 7) (fun _ _ => rfl)) (fun _ => rfl))
          (pss_cons (ps_set (i := 8) nd rfl (Or.inl rfl) (pc (ok_start T) hr1 (pa_cons (pv 7) (pa_cons (pv 2) pa_nil))))
          (pss_cons (ps_set (i := 9) nd rfl (Or.inr rfl) (pe_slice sl_str (pv 7) (po_some (pe_callB call_len_str (by rfl) (f_len T) PySem.boot_len (pa_cons (pv 8) pa_nil))) po_none))
          (pss_cons (ps_lock (ps_setLc (i := 10) (te := tOp (fun x y H Q => ∃ i j, x = .str i ∧ y = .str j ∧ i.length + j.length ≤ sizeLine ∧ Q (.str (i ++ j)) H) (tVar 12) (tVar 9)) (tt := tB (tDNotIn (tOp (fun x y H Q => ∃ i j, x = .str i ∧ y = .str j ∧ i.length + j.length ≤ sizeLine ∧ Q (.str (i ++ j)) H) (tVar 12) (tVar 9)) (tVar 4))) (own := [("piece", 12)]) (g := gName 12) (by rfl) nd rfl rfl (sw_true rfl rfl rfl (by decide +kernel)) (pi_keys (pe_ix ix_list (pe_dget hu (pv 2) (pv 8) (fun _ _ => rfl)) (pv 1) (fun _ _ => rfl))) (blkOk_by (N := nRA) (sc := defScope s_reduce_at) (by decide +kernel))
            (fun _ _ _ _ _ => pg_name (i := 12) nd rfl (Or.inl rfl)) (fun _ _ _ _ _ => by exact pts_one (pt_cmp (pc_dnotin hu (pe_op op_add_str (pv 12) (pv 9)) (pv 4)) rfl)) (fun _ _ _ _ _ => by exact (pe_op op_add_str (pv 12) (pv 9)))))
          (pss_cons (ps_expr (pc (ok_take T) hr1 (pa_cons (pv 0) (pa_cons (pe_dget hu (pv 2) (pv 8) (fun _ _ => rfl)) (pa_cons (pe_dget hu (pv 4) (pv 7) (fun _ _ => rfl)) (pa_cons (pv 9) (pa_cons (pv 3) pa_nil)))))))
          (pss_one (ps_for PassesOwn.never rfl (pi_list (pv 10)) (pg_name (i := 11) nd rfl (Or.inl rfl))
            (pss_one (ps_if (pt_cmp (pc_notN (pc (ok_start T) hr1 (pa_cons (pv 11) (pa_cons (pv 2) pa_nil)))) rfl) (pss_one (ps_expr (pe_callBfun (cr_push hr) (by rfl) (hq_heappush T) (pa_cons (pv 5) (pa_cons (pc (ok_rank T) hr1 (pa_cons (pv 11) pa_nil)) pa_nil))))) pss_nil)))))))) pss_nil)))))))), ?_⟩
    obtain ⟨⟨d, t⟩, ep⟩ : ∃ p, ts[i]? = some p := ⟨ts[i]'ra.hi, List.getElem?_eq_getElem ra.hi⟩
    have hp : (d, t) ∈ ts := List.mem_of_getElem? ep
    have hd : H d = some (.dK (kv t)) := ra.ht _ hp
    obtain ⟨tnd, trg, twd⟩ := ra.tg _ hp
    have tlen : t.length ≤ 2500 := ra.few _ ep
    have hkeys : (lds.map fun q => ((Sum.inr q.1 : Key), V.ref q.2.1)).map (·.1) = (lds.map (·.1)).map Sum.inr := by
      rw [List.map_map, List.map_map]
      rfl
    refine ⟨_, rfl, _, rfl, L, _, i, .ref d, rfl, rfl, SqL.of ra.hL, atI_nat (by rw [List.getElem?_map, ep]; rfl), ?_⟩
    refine ⟨d, .dK (kv t), hd, trivial, fun od => ?_⟩
    refine ⟨_, rfl, d, od, rfl, .inl ⟨kv t, upd_same, fun Qa hQ => ?_⟩⟩
    have nQd : Qa ≠ d := fun e => by
      rw [e, upd_same] at hQ
      cases hQ
    have hQ0 : H Qa = none := by
      rw [upd_ne nQd] at hQ
      exact hQ
    have nDd : D ≠ d := fun z => ra.hDn (z ▸ List.mem_map.mpr ⟨(d, t), hp, rfl⟩)
    refine lc_it walk_keys (fun k H' => (∃ ps : PQ, H' Qa = some (.lst (ps.map fun p => V.ref p.1)) ∧ ps.map (·.2) = ((t.take k).map (·.1)).filter (fun x => (startOf (lds.map (·.1)) x).isSome) ∧ QAt H' ps) ∧ But d H H' ∧ H' d = some (.frz od (.dK (kv t))))
      ⟨⟨[], upd_same, rfl, fun p hp => (by cases hp)⟩, ?_, ?_⟩ (fun i H' _ hP => hP.2.2) ?_ ?_
    · intro b o e n
      rw [upd_ne (ne_of_none e hQ0), upd_ne n]
      exact e
    · rw [upd_ne nQd.symm]
      exact upd_same
    · rintro k x H1 H2 hi ⟨⟨ps, p1, p2, p3⟩, p5, p6⟩ ⟨rfl, kk, v, e, rfl⟩
      obtain ⟨p, ep0, rfl, rfl⟩ := kv_at e
      rw [kv_len] at hi
      have hx := twd p.1 (List.mem_map.mpr ⟨p, List.mem_of_getElem? ep0, rfl⟩)
      have hD1 := p5 _ _ ra.hD nDd
      refine ⟨rfl, ?_⟩
      refine ⟨_, rfl, _, rfl, p.1, D, _, _, rfl, by have := (ra.cl.wl _ hx).2; have := ra.cl.m; omega, hD1, hkeys, ?_⟩
      have etake : ((t.take (k + 1)).map (·.1)).filter (fun x => (startOf (lds.map (·.1)) x).isSome) = ((t.take k).map (·.1)).filter (fun x => (startOf (lds.map (·.1)) x).isSome) ++ [p.1].filter (fun x => (startOf (lds.map (·.1)) x).isSome) := by
        rw [List.take_add_one, ep0, List.map_append, List.filter_append]
        rfl
      cases es : startOf (lds.map (·.1)) p.1 with
      | none =>
        refine ⟨_, rfl, iteF ⟨⟨ps, p1, ?_, p3⟩, p5, p6⟩⟩
        rw [p2, etake]
        simp [es]
      | some sx =>
        refine ⟨_, rfl, iteT ?_⟩
        refine ⟨_, rfl, p.1, rfl, by have := (ra.cl.wl _ hx).2; have := ra.cl.m; omega, fun tp htp => ?_⟩
        have ntQ : Qa ≠ tp := ne_of_none p1 htp
        have ntd : d ≠ tp := ne_of_none p6 htp
        have psl : ps.length ≤ k := by
          have h1 := congrArg List.length p2
          rw [List.length_map] at h1
          have h2 := List.length_filter_le (fun x => (startOf (lds.map (·.1)) x).isSome) ((t.take k).map (·.1))
          rw [List.length_map, List.length_take] at h2
          omega
        refine ⟨_, by rw [upd_ne ntQ]; exact p1, by rw [List.length_map]; omega, ⟨ps ++ [(tp, p.1)], ?_, ?_, ?_⟩, ?_, ?_⟩
        · rw [upd_same, List.map_append]
          rfl
        · rw [List.map_append, p2, etake]
          simp [es]
        · intro r hr
          rcases List.mem_append.mp hr with hr | hr
          · have := p3 r hr
            rw [upd_ne (ne_of this p1 (by intro z; cases z)), upd_ne (ne_of_none this htp)]
            exact this
          · have : r = (tp, p.1) := by simpa using hr
            subst this
            rw [upd_ne ntQ.symm]
            exact upd_same
        · intro b o z n
          rw [upd_ne (ne_of_none z hQ0), upd_ne (ne_of_none (p5 b o z n) htp)]
          exact p5 b o z n
        · rw [upd_ne nQd.symm, upd_ne ntd]
          exact p6
    · rintro H' ⟨⟨ps, p1, p2, p3⟩, p5, p6⟩
      rw [kv_len, List.take_length] at p2
      refine ⟨p6, ?_⟩
      have qa1 : (upd H' d (.dK (kv t))) Qa = some (.lst (ps.map fun p => V.ref p.1)) := by
        rw [upd_ne nQd]
        exact p1
      have base' : Same H (upd H' d (.dK (kv t))) := fun b o e => by
        by_cases n : b = d
        · rw [n, upd_same, ← hd, ← n, e]
        · rw [upd_ne n]
          exact p5 b o e n
      have qs1 : QAt (upd H' d (.dK (kv t))) ps := fun r hr => by
        have := p3 r hr
        rw [upd_ne (ne_of this p6 (by intro z; cases z))]
        exact this
      generalize upd H' d (.dK (kv t)) = H1 at qa1 base' qs1 ⊢
      have psl : ps.length ≤ 2500 := by
        have h1 := congrArg List.length p2
        rw [List.length_map] at h1
        have h2 := List.length_filter_le (fun x => (startOf (lds.map (·.1)) x).isSome) (t.map (·.1))
        rw [List.length_map] at h2
        omega
      refine ⟨_, rfl, Qa, ps, rfl, qa1, qs1, psl, fun qs hperm hheap => ?_⟩
      have nQt : Qa ∉ ts.map (·.1) := fun z => by
        obtain ⟨p, hp', e⟩ := List.mem_map.mp z
        have := ra.ht p hp'
        rw [e, hQ0] at this
        cases this
      have hin : ∀ x, x ∈ qs.map (·.2) ↔ x ∈ t.map (·.1) ∧ (startOf (lds.map (·.1)) x).isSome = true := fun x => by
        rw [(hperm.map (·.2)).mem_iff, p2, List.mem_filter]
      have J0 : JA H i c U ts lds t Qa [] qs (upd H1 Qa (.lst (qs.map fun p => V.ref p.1))) := {
        tk := fun o ho => by cases ho
        fr := fun a o e na => by
          rw [upd_ne (ne_of_none e hQ0)]
          exact base' _ _ e
        tb := fun j p e => by
          have hpm := List.mem_of_getElem? e
          refine ⟨?_, ra.tg p hpm⟩
          rw [upd_ne (ne_of_none (ra.ht p hpm) hQ0)]
          exact base' _ _ (ra.ht p hpm)
        q1 := upd_same
        q2 := fun r hr => by
          have := qs1 r (hperm.mem_iff.mp hr)
          rw [upd_ne (ne_of this qa1 (by intro z; cases z))]
          exact this
        q3 := hheap
        q4 := by
          rw [(hperm.map (·.2)).nodup_iff, p2]
          exact List.Nodup.sublist List.filter_sublist tnd
        q5 := fun r hr => (hin r.2).mp (List.mem_map.mpr ⟨r, hr, rfl⟩)
        q6 := fun x hx hst => .inl ((hin x).mpr ⟨hx, hst⟩) }
      generalize upd H1 Qa (.lst (qs.map fun p => V.ref p.1)) = H2 at J0 ⊢
      clear hin p1 p2 p3 p5 p6 qs1 qa1 base' psl hperm hheap
      refine ⟨fun k σ H' => ∃ (ops : List Tk) (ps : PQ) (v6 v7 v8 v9 v10 v11 v12 : Option V), σ = [some (.ref L), some (.int i), some (.ref D), some (.int c), some (.ref d), some (.ref Qa), v6, v7, v8, v9, v10, v11, v12] ∧ JA H i c U ts lds t Qa ops ps H' ∧ k = (U.length + 1) + ps.length - (runT c i ops t).length,
        ⟨_, [], qs, none, none, none, none, none, none, none, rfl, J0, rfl⟩, ?_⟩
      clear J0
      rintro k σ H3 ⟨ops, ps', v6, v7, v8, v9, v10, v11, v12, rfl, jj, rfl⟩
      refine ⟨_, rfl, _, .inl ⟨_, SqL.of jj.q1, rfl⟩, ?_⟩
      cases ps' with
      | nil =>
        refine iteF ?_
        refine q H3 ops jj.tk jj.fr jj.tb fun p e x hx hst => ?_
        rw [ep] at e
        cases e
        rcases jj.q6 x hx hst with z | ⟨z, _⟩
        · cases z
        · exact z
      | cons p0 pr =>
        refine iteT ?_
        obtain ⟨tt1, tt2, tt3, tt4⟩ := jj.tb i (d, t) ep
        have tfew : (runT c i ops t).length < U.length + 1 := tb_few tt2 tt4
        refine ⟨fun σ' H' => ∃ (ops' : List Tk) (ps' : PQ) (v6 v7 v8 v9 v10 v11 v12 : Option V), σ' = [some (.ref L), some (.int i), some (.ref D), some (.int c), some (.ref d), some (.ref Qa), v6, v7, v8, v9, v10, v11, v12] ∧ JA H i c U ts lds t Qa ops' ps' H' ∧ ps'.length + (runT c i ops t).length < (p0 :: pr).length + (runT c i ops' t).length, ?_, ?_⟩
        · rintro σ' H' ⟨ops', ps', v6, v7, v8, v9, v10, v11, v12, rfl, j2, hlt⟩
          refine ⟨_, ?_, ops', ps', v6, v7, v8, v9, v10, v11, v12, rfl, j2, rfl⟩
          have : (runT c i ops' t).length < U.length + 1 := tb_few (j2.tb i (d, t) ep).2.1 (j2.tb i (d, t) ep).2.2.2
          omega
        · refine ⟨_, rfl, Qa, p0 :: pr, rfl, jj.q1, jj.q2, by simp, jj.q3, fun pw qs' hperm hheap hmin => ?_⟩
          have pwm : pw ∈ p0 :: pr := hperm.mem_iff.mp List.mem_cons_self
          have qn := jj.q4
          rw [← (hperm.map (·.2)).nodup_iff] at qn
          obtain ⟨qn1, qn2⟩ := List.nodup_cons.mp qn
          have qlen : qs'.length + 1 = (p0 :: pr).length := hperm.length_eq
          have et := jj.q2 pw pwm
          have netQ : pw.1 ≠ Qa := ne_of et jj.q1 (by intro z; cases z)
          have et' : (upd H3 Qa (.lst (qs'.map fun p => V.ref p.1))) pw.1 = some (.tup [.int (-(pw.2.length : Int)), .str pw.2]) := by
            rw [upd_ne netQ]
            exact et
          refine ⟨pw.1, _, rfl, .inl (.inl et'), rfl, ?_⟩
          refine ⟨_, _, rfl, _, _, rfl, rfl, ?_⟩
          obtain ⟨pk, pst⟩ := jj.q5 pw pwm
          have tx := tt4 pw.2 pk
          have ndQ : d ≠ Qa := fun z => nQt (z ▸ (List.mem_map.mpr ⟨(d, t), hp, rfl⟩ : d ∈ ts.map (·.1)))
          have td : (upd H3 Qa (.lst (qs'.map fun p => V.ref p.1))) d = some (.dK (kv (runT c i ops t))) := by
            rw [upd_ne ndQ]
            exact tt1
          refine ⟨_, rfl, _, rfl, d, .int (num (runT c i ops t) pw.2), rfl, .inl ⟨_, Sum.inr pw.2, .inl td, rfl, by rw [valV_yes (has_iff.mpr pk)]⟩, _, rfl, ?_⟩
          have fr4 : ∀ a o, H a = some o → a ∉ ts.map (·.1) → (upd H3 Qa (.lst (qs'.map fun p => V.ref p.1))) a = some o := fun a o e na => by
            rw [upd_ne (ne_of_none e hQ0)]
            exact jj.fr a o e na
          have tb4 : ∀ (j : Nat) p, ts[j]? = some p → (upd H3 Qa (.lst (qs'.map fun p => V.ref p.1))) p.1 = some (.dK (kv (runT c j ops p.2))) ∧ Nd (runT c j ops p.2) ∧ (∀ q ∈ runT c j ops p.2, 0 ≤ q.2 ∧ q.2 < c) ∧ Wd U (runT c j ops p.2) := fun j p e => by
            obtain ⟨z1, z2⟩ := jj.tb j p e
            refine ⟨?_, z2⟩
            rw [upd_ne (ne_of_none (ra.ht p (List.mem_of_getElem? e)) hQ0)]
            exact z1
          have qq1 : (upd H3 Qa (.lst (qs'.map fun p => V.ref p.1))) Qa = some (.lst (qs'.map fun p => V.ref p.1)) := upd_same
          have qm : ∀ r ∈ qs', r ∈ p0 :: pr := fun r hr => hperm.mem_iff.mp (List.mem_cons_of_mem _ hr)
          have qq2 : QAt (upd H3 Qa (.lst (qs'.map fun p => V.ref p.1))) qs' := fun r hr => by
            have := jj.q2 r (qm r hr)
            rw [upd_ne (ne_of this jj.q1 (by intro z; cases z))]
            exact this
          generalize upd H3 Qa (.lst (qs'.map fun p => V.ref p.1)) = H4 at et' td fr4 tb4 qq1 qq2 ⊢
          have old : ∀ x ∈ (runT c i ops t).map (·.1), (startOf (lds.map (·.1)) x).isSome = true → x = pw.2 ∨ x ∈ qs'.map (·.2) ∨ (num (runT c i ops t) x = 0 ∧ leR x pw.2 = true ∧ ∀ p ∈ qs', leR x p.2 = true) := fun x hx hst => by
            rcases jj.q6 x hx hst with z | ⟨z1, z2⟩
            · have z' : x ∈ (pw :: qs').map (·.2) := (hperm.map (·.2)).mem_iff.mpr z
              rcases List.mem_cons.mp z' with z | z
              · exact .inl z
              · exact .inr (.inl z)
            · exact .inr (.inr ⟨z1, z2 pw pwm, fun p hp => z2 p (qm p hp)⟩)
          by_cases hn0 : num (runT c i ops t) pw.2 = 0
          · rw [hn0]
            refine iteF ⟨ops, qs', _, _, _, _, _, _, _, rfl, ⟨jj.tk, fr4, tb4, qq1, qq2, hheap, qn2, fun r hr => jj.q5 r (qm r hr), fun x hx hst => ?_⟩, by omega⟩
            rcases old x hx hst with z | z | ⟨z1, _, z3⟩
            · subst z
              exact .inr ⟨hn0, hmin⟩
            · exact .inl z
            · exact .inr ⟨z1, z3⟩
          · rw [show (num (runT c i ops t) pw.2 != 0) = true by simpa using hn0]
            refine iteT ?_
            obtain ⟨sx, es⟩ := Option.isSome_iff_exists.mp pst
            obtain ⟨hsw, k, hk1, hk2⟩ := startOf_some es
            have hlx : pw.2.length ≤ 1000 := Nat.le_trans (ra.cl.wl _ tx).2 ra.cl.m
            have hD4 := fr4 _ _ ra.hD ra.hDn
            refine ⟨_, rfl, _, rfl, pw.2, D, _, _, rfl, by omega, hD4, hkeys, ?_⟩
            rw [es]
            have hsl : sx.length = k := by rw [hk2, cut_len hk1]
            refine ⟨_, rfl, _, rfl, sx, rfl, by omega, _, rfl, pw.2, rfl, by omega, ?_⟩
            rw [hsl]
            have hb : sx ++ cutS pw.2 (some (k : Int)) none = pw.2 := by rw [hk2, cut_both hk1]
            generalize cutS pw.2 (some (k : Int)) none = b at hb ⊢
            obtain ⟨q, hq, hqs, hqv⟩ := lead_get hsw
            obtain ⟨hC, hCl, hql⟩ := ra.col q hq
            have hCn : q.2.1 ∉ ts.map (·.1) := fun z => by
              obtain ⟨p, hp', e⟩ := List.mem_map.mp z
              have := ra.ht p hp'
              rw [e, hC] at this
              cases this
            have hLn : L ∉ ts.map (·.1) := fun z => by
              obtain ⟨p, hp', e⟩ := List.mem_map.mp z
              have := ra.ht p hp'
              rw [e, ra.hL] at this
              cases this
            have hC4 := fr4 _ _ hC hCn
            have hiu : i < q.2.2.length := by rw [hCl]; exact ra.hi
            obtain ⟨u, eu⟩ : ∃ u, q.2.2[i]? = some u := ⟨q.2.2[i]'hiu, List.getElem?_eq_getElem hiu⟩
            have hum := List.mem_of_getElem? eu
            obtain ⟨hu1, hu2, hu3, hu4, hu5⟩ := ra.pc q hq u hum
            have hled : Led c sx u.2 := hqs ▸ ra.led q hq u eu
            have hu4' := fr4 _ _ hu1 hu2
            have ndu : d ≠ u.1 := fun z => hu2 (z ▸ (List.mem_map.mpr ⟨(d, t), hp, rfl⟩ : d ∈ ts.map (·.1)))
            have nDu : D ≠ u.1 := fun z => by
              have h1 := ra.hD
              rw [z, hu1] at h1
              injection h1 with h1
              injection h1 with h1
              have h2 : ((Sum.inr q.1 : Key), V.ref q.2.1) ∈ kv u.2 := by
                rw [h1]
                exact List.mem_map.mpr ⟨q, hq, rfl⟩
              obtain ⟨r, _, e⟩ := List.mem_map.mp h2
              have e2 := (Prod.mk.inj e).2
              cases e2
            have nCu : q.2.1 ≠ u.1 := ne_of hC hu1 (by intro z; cases z)
            have hbx : xyz b := xyz_tail (hb ▸ (ra.cl.wl _ tx).1)
            have hbl : b.length ≤ 1000 := by
              have := app_len sx b
              rw [hb] at this
              omega
            refine ⟨u.1, .dK (kv u.2), hu4', trivial, fun od2 => ?_⟩
            refine ⟨_, rfl, _, rfl, D, .ref q.2.1, rfl, .inl ⟨_, Sum.inr sx, .inl (by rw [upd_ne nDu]; exact hD4), rfl, hqv.symm⟩, _, rfl, q.2.1, _, i, .ref u.1, rfl, rfl, SqL.of (by rw [upd_ne nCu]; exact hC4), atI_nat (by rw [List.getElem?_map, eu]; rfl), u.1, od2, rfl, .inl ⟨kv u.2, upd_same, fun Fa hFa => ?_⟩⟩
            have nFu : Fa ≠ u.1 := fun e => by
              rw [e, upd_same] at hFa
              cases hFa
            have hFa0 : H4 Fa = none := by
              rw [upd_ne nFu] at hFa
              exact hFa
            have nFd : d ≠ Fa := ne_of_none td hFa0
            refine lc_it walk_keys (fun k H' => H' Fa = some (.lst (((newW b (u.2.take k) (runT c i ops t))).map V.str)) ∧ But u.1 H4 H' ∧ H' u.1 = some (.frz od2 (.dK (kv u.2))))
              ⟨upd_same, ?_, ?_⟩ (fun i H' _ hP => hP.2.2) ?_ ?_
            · intro a o e n
              rw [upd_ne (ne_of_none e hFa0), upd_ne n]
              exact e
            · rw [upd_ne nFu.symm]
              exact upd_same
            · rintro k x H5 H6 hi ⟨p1, p5, p6⟩ ⟨rfl, kk, v, e, rfl⟩
              obtain ⟨r, er, rfl, rfl⟩ := kv_at e
              rw [kv_len] at hi
              have hr1' := hu5 r (List.mem_of_getElem? er)
              have hwl : r.1.length + b.length ≤ sizeLine := by omega
              have td5 := p5 _ _ td ndu
              have enew : newW b (u.2.take (k + 1)) (runT c i ops t) = newW b (u.2.take k) (runT c i ops t) ++ [r.1 ++ b].filter fun x => !has (runT c i ops t) x := by
                unfold newW
                rw [List.take_add_one, er, List.map_append, List.filter_append]
                rfl
              refine ⟨rfl, ?_⟩
              refine ⟨_, rfl, _, rfl, _, _, rfl, rfl, hwl, _, rfl, d, _, rfl, .inl ⟨_, Sum.inr (r.1 ++ b), .inl td5, rfl, rfl⟩, ?_⟩
              cases hh : has (runT c i ops t) (r.1 ++ b) with
              | true =>
                rw [valV_yes hh]
                refine ⟨_, rfl, iteF ⟨?_, p5, p6⟩⟩
                rw [p1, enew]
                simp [hh]
              | false =>
                rw [show valV (kv (runT c i ops t)) (Sum.inr (r.1 ++ b)) = none from (valV_no hh).1]
                refine ⟨_, rfl, iteT ?_⟩
                refine ⟨_, rfl, _, rfl, _, _, rfl, rfl, hwl, ?_⟩
                have fl : (newW b (u.2.take k) (runT c i ops t)).length ≤ k := by
                  unfold newW
                  refine Nat.le_trans (List.length_filter_le _ _) ?_
                  rw [List.length_map, List.length_take]
                  omega
                refine ⟨_, p1, by rw [List.length_map]; omega, ?_, ?_, ?_⟩
                · rw [upd_same, enew]
                  simp [hh]
                · intro a o e n
                  rw [upd_ne (ne_of_none e hFa0)]
                  exact p5 a o e n
                · rw [upd_ne nFu.symm]
                  exact p6
            · rintro H5 ⟨p1, p5, p6⟩
              rw [kv_len, List.take_length] at p1
              refine ⟨p6, ?_⟩
              have f6 : (upd H5 u.1 (.dK (kv u.2))) Fa = some (.lst ((newW b u.2 (runT c i ops t)).map V.str)) := by
                rw [upd_ne nFu]
                exact p1
              have s6 : Same H4 (upd H5 u.1 (.dK (kv u.2))) := fun a o e => by
                by_cases n : a = u.1
                · rw [n, upd_same, ← hu4', ← n, e]
                · rw [upd_ne n]
                  exact p5 a o e n
              generalize upd H5 u.1 (.dK (kv u.2)) = H6 at f6 s6 ⊢
              clear p1 p5 p6
              have fr6 : ∀ a o, H a = some o → a ∉ ts.map (·.1) → H6 a = some o := fun a o e na => s6 _ _ (fr4 a o e na)
              have tb6 := fun (j : Nat) p (e : ts[j]? = some p) => (⟨s6 _ _ (tb4 j p e).1, (tb4 j p e).2⟩ : H6 p.1 = some (.dK (kv (runT c j ops p.2))) ∧ Nd (runT c j ops p.2) ∧ (∀ q ∈ runT c j ops p.2, 0 ≤ q.2 ∧ q.2 < c) ∧ Wd U (runT c j ops p.2))
              have td6 := s6 _ _ td
              have pow : U.length + 1 ≤ 1594323 := by have := ra.cl.len; omega
              refine ⟨_, rfl, _, rfl, _, rfl, D, .ref q.2.1, rfl, .inl ⟨_, Sum.inr sx, .inl (fr6 _ _ ra.hD ra.hDn), rfl, hqv.symm⟩, _, rfl, _, rfl, d, .int (num (runT c i ops t) pw.2), rfl, .inl ⟨_, Sum.inr pw.2, .inl td6, rfl, by rw [valV_yes (has_iff.mpr pk)]⟩, _, rfl, _, rfl, ?_⟩
              refine ⟨L, q.2.1, num (runT c i ops t) pw.2, b, c, cur c ops ts, q.2.2, rfl, ?_, fun H7 fr7 tb7 => ?_⟩
              · have cm : (cur c ops ts).map (·.1) = ts.map (·.1) := cur_map (f := fun a => a)
                exact {
                  hc := ra.hc
                  hc7 := ra.hc7
                  hb := by omega
                  hL := by rw [cur_map (f := V.ref)]; exact fr6 _ _ ra.hL hLn
                  hC := fr6 _ _ hC hCn
                  len := by
                    unfold cur
                    rw [List.length_mapIdx, hCl]
                  nd := by rw [cm]; exact ra.nd
                  ht := fun p hp => by
                    obtain ⟨j, p', e1, rfl⟩ := cur_mem hp
                    obtain ⟨z1, z2, z3, z4⟩ := tb6 j p' e1
                    have : (runT c j ops p'.2).length < U.length + 1 := tb_few z2 z4
                    exact ⟨z1, by show (runT c j ops p'.2).length ≤ _; omega⟩
                  hu := fun p hp => by
                    obtain ⟨z1, z2, z3, z4, z5⟩ := ra.pc q hq p hp
                    exact ⟨fr6 _ _ z1 z2, by rw [cm]; exact z2, fun r hr => ⟨(z3 r hr).1, (z3 r hr).2, Nat.le_trans (z5 r hr).2 hql⟩, z4⟩ }
              · have cm : (cur c ops ts).map (·.1) = ts.map (·.1) := cur_map (f := fun a => a)
                rw [cm] at fr7
                have fr7' : ∀ a o, H a = some o → a ∉ ts.map (·.1) → H7 a = some o := fun a o e na => fr7 _ _ (fr6 a o e na) na
                have hn1 : 0 ≤ num (runT c i ops t) pw.2 ∧ num (runT c i ops t) pw.2 < c := num_rg ra.hc tt3 _
                generalize hnn : num (runT c i ops t) pw.2 = n at hn1 tb7 hn0
                have run2 : ∀ (j : Nat) (t' : Tb) (p : Addr × Tb), q.2.2[j]? = some p → runT c j (ops ++ [⟨q, b, n⟩]) t' = takeT c n b p.2 (runT c j ops t') := fun j t' p e => by
                  rw [runT_snoc]
                  unfold opT
                  show (match q.2.2[j]? with | some p => takeT c n b p.2 (runT c j ops t') | none => runT c j ops t') = _
                  rw [e]
                have hsbm : sx ++ b ∈ U := by rw [hb]; exact tx
                have tbN : ∀ (j : Nat) p, ts[j]? = some p → H7 p.1 = some (.dK (kv (runT c j (ops ++ [⟨q, b, n⟩]) p.2))) ∧ Nd (runT c j (ops ++ [⟨q, b, n⟩]) p.2) ∧ (∀ q_1 ∈ runT c j (ops ++ [⟨q, b, n⟩]) p.2, 0 ≤ q_1.2 ∧ q_1.2 < c) ∧ Wd U (runT c j (ops ++ [⟨q, b, n⟩]) p.2) := fun j p e => by
                  have hjl : j < q.2.2.length := by rw [hCl]; exact (List.getElem?_eq_some_iff.mp e).1
                  obtain ⟨pj, ej⟩ : ∃ p, q.2.2[j]? = some p := ⟨q.2.2[j]'hjl, List.getElem?_eq_getElem hjl⟩
                  obtain ⟨z1, z2, z3, z4⟩ := tb6 j p e
                  rw [run2 j p.2 pj ej]
                  refine ⟨tb7 j (p.1, runT c j ops p.2) pj (by rw [cur_at, e]; rfl) ej, takeT_nd _ _ z2, takeT_rg ra.hc _ _ z3, take_wd z4 fun r hr => ra.cl.cl q hq pj (List.mem_of_getElem? ej) r hr b (by rw [hqs]; exact hsbm)⟩
                have enew := run2 i t u eu
                obtain ⟨k1, k2, k3, k4⟩ := tbN i (d, t) ep
                have k4' : Wd U (runT c i (ops ++ [⟨q, b, n⟩]) t) := k4
                rw [enew] at k4'
                have nFt : Fa ∉ ts.map (·.1) := fun z => by
                  obtain ⟨p, hp', e⟩ := List.mem_map.mp z
                  obtain ⟨j, ej⟩ := List.getElem?_of_mem hp'
                  have := (tb4 j p ej).1
                  rw [e, hFa0] at this
                  cases this
                have nFQ : Fa ≠ Qa := fun z => by
                  rw [z, qq1] at hFa0
                  cases hFa0
                have f7 := fr7 _ _ f6 nFt
                have tupN : ∀ {a : Addr} {xs : List V}, H4 a = some (.tup xs) → a ∉ ts.map (·.1) := fun {a xs} e z => by
                  obtain ⟨p, hp', e2⟩ := List.mem_map.mp z
                  obtain ⟨j, ej⟩ := List.getElem?_of_mem hp'
                  have := (tb4 j p ej).1
                  rw [e2, e] at this
                  cases this
                generalize hfs : newW b u.2 (runT c i ops t) = fs at f7
                have fsm : ∀ x, x ∈ fs ↔ (∃ r ∈ u.2, r.1 ++ b = x) ∧ x ∉ (runT c i ops t).map (·.1) := fun x => by rw [← hfs, newW_mem]
                have fsn : fs.Nodup := hfs ▸ newW_nd hled.nd
                have fsl : (runT c i ops t).length + fs.length ≤ (takeT c n b u.2 (runT c i ops t)).length := hfs ▸ newW_len hled.nd tt2
                have knew : ∀ x, x ∈ (takeT c n b u.2 (runT c i ops t)).map (·.1) ↔ x ∈ (runT c i ops t).map (·.1) ∨ x ∈ fs := fun x => by
                  rw [takeT_key, fsm]
                  by_cases z : x ∈ (runT c i ops t).map (·.1) <;> simp [z]
                have fsx : ∀ x ∈ fs, x.length ≤ 1000 := fun x hx => Nat.le_trans (ra.cl.wl _ (k4' x ((knew x).mpr (.inr hx)))).2 ra.cl.m
                have tfew2 : (takeT c n b u.2 (runT c i ops t)).length < U.length + 1 := by
                  have := tb_few k2 k4
                  rw [show runT c i (ops ++ [⟨q, b, n⟩]) (d, t).2 = _ from enew] at this
                  exact this
                have qk : ∀ r ∈ qs', r.2 ∈ (runT c i ops t).map (·.1) := fun r hr => (jj.q5 r (qm r hr)).1
                have qsl : qs'.length ≤ (runT c i ops t).length := by
                  have := List.Nodup.length_le_of_subset (l₂ := (runT c i ops t).map (·.1)) qn2 (fun x hx => by
                    obtain ⟨r, hr, rfl⟩ := List.mem_map.mp hx
                    exact qk r hr)
                  rw [List.length_map, List.length_map] at this
                  exact this
                refine ⟨_, rfl, Fa, rfl, ⟨_, SqL.of f7⟩, ?_⟩
                refine for_it (walk_list (xs := fs.map V.str)) (fun j σ H' => (∃ v6 v7 v8 v9 v10 v11 v12 : Option V, σ = [some (.ref L), some (.int i), some (.ref D), some (.int c), some (.ref d), some (.ref Qa), v6, v7, v8, v9, v10, v11, v12]) ∧
                    ∃ psj : PQ, H' Qa = some (.lst (psj.map fun p => V.ref p.1)) ∧ QAt H' psj ∧ HpL (psj.map (·.2)) ∧ (psj.map (·.2)).Nodup ∧ (∀ x, x ∈ psj.map (·.2) ↔ x ∈ qs'.map (·.2) ∨ (x ∈ fs.take j ∧ (startOf (lds.map (·.1)) x).isSome = true)) ∧ psj.length ≤ qs'.length + j ∧ ∀ a o, H7 a = some o → a ≠ Qa → H' a = some o)
                  ⟨⟨_, _, _, _, _, _, _, rfl⟩, qs', fr7 _ _ (s6 _ _ qq1) nQt, fun r hr => fr7 _ _ (s6 _ _ (qq2 r hr)) (tupN (qq2 r hr)), hheap, qn2, fun x => by simp, by omega, fun a o e _ => e⟩
                  (fun j σ H' _ hP => by
                    obtain ⟨_, psj, _, _, _, _, _, _, z⟩ := hP
                    exact SqL.of (z _ _ f7 nFQ)) ?_ ?_
                · rintro j x σ H8 H9 hj ⟨⟨v6, v7, v8, v9, v10, v11, v12, rfl⟩, psj, g1, g2, g3, g4, g5, g6, g7⟩ ⟨rfl, ex⟩
                  rw [List.getElem?_map] at ex
                  obtain ⟨wj, ewj, rfl⟩ := Option.map_eq_some_iff.mp ex
                  rw [List.length_map] at hj
                  have hwm := List.mem_of_getElem? ewj
                  have hwl := fsx wj hwm
                  have etk : fs.take (j + 1) = fs.take j ++ [wj] := by
                    rw [List.take_add_one, ewj]
                    rfl
                  have nDQ : D ≠ Qa := fun z => by
                    have h1 := ra.hD
                    rw [z, hQ0] at h1
                    cases h1
                  refine ⟨_, rfl, _, rfl, wj, D, _, _, rfl, by omega, g7 _ _ (fr7' _ _ ra.hD ra.hDn) nDQ, hkeys, ?_⟩
                  cases es2 : startOf (lds.map (·.1)) wj with
                  | none =>
                    refine ⟨_, rfl, iteF ⟨⟨_, _, _, _, _, _, _, rfl⟩, psj, g1, g2, g3, g4, fun x => ?_, by omega, g7⟩⟩
                    rw [g5, etk, List.mem_append, List.mem_singleton]
                    constructor
                    · rintro (z | ⟨z1, z2⟩)
                      · exact .inl z
                      · exact .inr ⟨.inl z1, z2⟩
                    · rintro (z | ⟨z1 | z1, z2⟩)
                      · exact .inl z
                      · exact .inr ⟨z1, z2⟩
                      · rw [z1, es2] at z2
                        cases z2
                  | some s2 =>
                    refine ⟨_, rfl, iteT ?_⟩
                    refine ⟨_, rfl, _, rfl, wj, rfl, by omega, fun tp htp => ?_⟩
                    have ntQ : Qa ≠ tp := ne_of_none g1 htp
                    have gq : QAt (upd H9 tp (.tup [.int (-(wj.length : Int)), .str wj])) (psj ++ [(tp, wj)]) := fun r hr => by
                      rcases List.mem_append.mp hr with hr | hr
                      · have := g2 r hr
                        rw [upd_ne (ne_of_none this htp)]
                        exact this
                      · have : r = (tp, wj) := by simpa using hr
                        subst this
                        exact upd_same
                    have g1' : (upd H9 tp (.tup [.int (-(wj.length : Int)), .str wj])) Qa = some (.lst (psj.map fun p => V.ref p.1)) := by
                      rw [upd_ne ntQ]
                      exact g1
                    refine ⟨Qa, tp, wj, psj, rfl, g1', gq, by omega, g3, fun q2 hperm2 hheap2 => ?_⟩
                    have hmem : ∀ x, x ∈ q2.map (·.2) ↔ x ∈ psj.map (·.2) ∨ x = wj := fun x => by
                      rw [(hperm2.map (·.2)).mem_iff, List.map_append, List.mem_append]
                      simp
                    refine ⟨⟨_, _, _, _, _, _, _, rfl⟩, q2, upd_same, fun r hr => ?_, hheap2, ?_, fun x => ?_, ?_, fun a o e na => ?_⟩
                    · have := gq r (hperm2.mem_iff.mp hr)
                      rw [upd_ne (ne_of this g1' (by intro z; cases z))]
                      exact this
                    · rw [(hperm2.map (·.2)).nodup_iff, List.map_append]
                      refine List.nodup_append.mpr ⟨g4, by simp, fun a ha b' hb' e => ?_⟩
                      have hb2 : b' = wj := by simpa using hb'
                      subst e
                      subst hb2
                      rcases (g5 _).mp ha with z | ⟨z, _⟩
                      · obtain ⟨r, hr, e⟩ := List.mem_map.mp z
                        exact ((fsm _).mp hwm).2 (e ▸ qk r hr)
                      · have hnd : (fs.take (j + 1)).Nodup := List.Nodup.sublist (List.take_sublist _ _) fsn
                        rw [etk] at hnd
                        exact (List.nodup_append.mp hnd).2.2 _ z _ (by simp) rfl
                    · rw [hmem, g5, etk, List.mem_append, List.mem_singleton]
                      constructor
                      · rintro ((z | ⟨z1, z2⟩) | z)
                        · exact .inl z
                        · exact .inr ⟨.inl z1, z2⟩
                        · subst z
                          exact .inr ⟨.inr rfl, by rw [es2]; rfl⟩
                      · rintro (z | ⟨z1 | z1, z2⟩)
                        · exact .inl (.inl z)
                        · exact .inl (.inr ⟨z1, z2⟩)
                        · exact .inr z1
                    · have := hperm2.length_eq
                      rw [List.length_append] at this
                      have h1 : ([(tp, wj)] : PQ).length = 1 := rfl
                      omega
                    · rw [upd_ne na, upd_ne (ne_of_none (g7 a o e na) htp)]
                      exact g7 a o e na
                · rintro σ H8 ⟨⟨v6, v7, v8, v9, v10, v11, v12, rfl⟩, psj, g1, g2, g3, g4, g5, g6, g7⟩
                  rw [List.length_map, List.take_length] at g5
                  rw [List.length_map] at g6
                  have dsQ : ∀ p ∈ ts, p.1 ≠ Qa := fun p hp' z => nQt (z ▸ List.mem_map.mpr ⟨p, hp', rfl⟩)
                  refine ⟨ops ++ [⟨q, b, n⟩], psj, _, _, _, _, _, _, _, rfl, ?_, by rw [enew]; omega⟩
                  exact {
                    tk := fun o ho => by
                      rcases List.mem_append.mp ho with ho | ho
                      · exact jj.tk o ho
                      · have : o = ⟨q, b, n⟩ := by simpa using ho
                        subst this
                        exact hq
                    fr := fun a o e na => g7 _ _ (fr7' a o e na) (fun z => by rw [z, hQ0] at e; cases e)
                    tb := fun j p e => ⟨g7 _ _ (tbN j p e).1 (dsQ p (List.mem_of_getElem? e)), (tbN j p e).2⟩
                    q1 := g1
                    q2 := g2
                    q3 := g3
                    q4 := g4
                    q5 := fun r hr => by
                      rw [enew]
                      rcases (g5 r.2).mp (List.mem_map.mpr ⟨r, hr, rfl⟩) with z | ⟨z1, z2⟩
                      · obtain ⟨r', hr', e⟩ := List.mem_map.mp z
                        exact ⟨(knew _).mpr (.inl (e ▸ qk r' hr')), e ▸ (jj.q5 r' (qm r' hr')).2⟩
                      · exact ⟨(knew _).mpr (.inr z1), z2⟩
                    q6 := fun x hx hst => by
                      rw [enew] at hx ⊢
                      have ahead : ∀ y ∈ fs, leR pw.2 y = true := fun y hy => by
                        obtain ⟨⟨r, hr, e⟩, _⟩ := (fsm y).mp hy
                        have := leR_app_r (z := b) (hled.behind r hr)
                        rw [hb, e] at this
                        exact this
                      have all : ∀ y, leR y pw.2 = true → (∀ p ∈ qs', leR y p.2 = true) → ∀ p ∈ psj, leR y p.2 = true := fun y h1 h2 p hp => by
                        rcases (g5 p.2).mp (List.mem_map.mpr ⟨p, hp, rfl⟩) with z | ⟨z1, z2⟩
                        · obtain ⟨r', hr', e⟩ := List.mem_map.mp z
                          rw [← e]
                          exact h2 r' hr'
                        · exact leR_trans h1 (ahead _ z1)
                      have refl' : leR pw.2 pw.2 = true := by
                        rcases leR_total.total pw.2 pw.2 with z | z <;> exact z
                      have zero : num (takeT c n b u.2 (runT c i ops t)) pw.2 = 0 := by
                        have := take_lead (n := n) (b := b) ra.hc hled tt3 (by rw [hb]; exact hnn.symm)
                        rw [hb] at this
                        exact this
                      rcases (knew x).mp hx with z | z
                      · rcases old x z hst with y | y | ⟨y1, y2, y3⟩
                        · subst y
                          exact .inr ⟨zero, all _ refl' hmin⟩
                        · exact .inl ((g5 x).mpr (.inl y))
                        · by_cases hxw : x = pw.2
                          · subst hxw
                            exact .inr ⟨zero, all _ refl' hmin⟩
                          · refine .inr ⟨?_, all _ y2 y3⟩
                            rw [take_ahead (n := n) (b := b) ra.hc hled tt3 (by rw [hb]; exact y2) (by rw [hb]; exact hxw)]
                            exact y1
                      · exact .inl ((g5 x).mpr (.inr ⟨z, hst⟩)) }
end
end Fp

set_option Elab.async false
set_option linter.all false
set_option maxRecDepth 100000
set_option maxHeartbeats 4000000
namespace Fp
open PySem PySem.Spec PyProof.Rows L2
/-- what is asked of a column, of leads at its first place, and of their columns -/
structure RC (H : Hp) (Co B D : Addr) (es : List Addr) (c : Int) (M : Nat) (U : List Str) (ts : At) (lds : List Lead) : Prop where
  hc : 0 < c
  hc7 : c ≤ 7
  cl : Cl lds M U
  hCo : H Co = some (.lst (ts.map fun p => V.ref p.1))
  hB : H B = some (.lst (V.ref D :: es.map V.ref))
  len : ts.length = es.length + 1
  few' : ts.length ≤ 1000
  hes : ∀ e ∈ es, H e = some (.dK [])
  ne : lds ≠ []
  hD : H D = some (.dK (lds.map fun q => ((Sum.inr q.1 : Key), V.ref q.2.1)))
  ht : ∀ p ∈ ts, H p.1 = some (.dK (kv p.2)) ∧ p.2.length ≤ 2500
  tg : ∀ p ∈ ts, Nd p.2 ∧ (∀ q ∈ p.2, 0 ≤ q.2 ∧ q.2 < c) ∧ Wd U p.2
  col : ∀ q ∈ lds, H q.2.1 = some (.lst (q.2.2.map fun p => V.ref p.1)) ∧ q.2.2.length = ts.length ∧ q.1.length ≤ 1000
  pc : ∀ q ∈ lds, ∀ p ∈ q.2.2, H p.1 = some (.dK (kv p.2)) ∧ (∀ r ∈ p.2, 1 ≤ r.2 ∧ r.2 < c) ∧ p.2.length ≤ 1000000 ∧ ∀ r ∈ p.2, xyz r.1 ∧ r.1.length ≤ q.1.length
  led : ∀ q ∈ lds, ∀ p, q.2.2[0]? = some p → Led c q.1 p.2
theorem allW_half : ∀ m, 2 * (allW m).length + 1 = 3 ^ (m + 1)
  | 0 => by decide
  | m + 1 => by
    have h := allW_half m
    have e : (allW (m + 1)).length = 3 * (allW m).length + 1 := by
      show ((("" : Str) :: (allW m).flatMap thr : List Str)).length = _
      rw [List.length_cons, flat3]
    have e2 : 3 ^ (m + 1 + 1) = 3 * 3 ^ (m + 1) := by rw [Nat.pow_succ, Nat.mul_comm]
    rw [e, e2]
    omega
theorem tb_half {U : List Str} {t : Tb} (h : Nd t) (hw : Wd U t) : t.length ≤ U.length := Nat.le_of_lt_succ (tb_few h hw)
theorem back_none8 {H H1 : Hp} {p : Addr} (k : Same H H1) (h : H1 p = none) : H p = none := by
  cases e : H p with
  | none => rfl
  | some o =>
    rw [k _ _ e] at h
    cases h
section
variable {P : Program} {w : World} {K : PySem.W.Frag} {mg : Str → Option Value} {base : Heap}
def spRed : Sp := fun vs H Q _ => ∃ (Co B D : Addr) (es : List Addr) (c : Int) (M : Nat) (U : List Str) (ts : At) (lds : List Lead), vs = [.ref Co, .ref B, .int c] ∧ RC H Co B D es c M U ts lds ∧
  ∀ (H' : Hp) (r : Addr) (rs : List Addr) (ops : List Tk), Same H H' → H r = none → H' r = some (.lst (rs.map V.ref)) → rs.length = ts.length → rs.Nodup → (∀ a ∈ rs, H a = none) →
    (∀ (j : Nat) p a, ts[j]? = some p → rs[j]? = some a → H' a = some (.dK (kv (tidyM c (runT c j ops p.2)))) ∧ Nd (runT c j ops p.2) ∧ (∀ q ∈ runT c j ops p.2, 0 ≤ q.2 ∧ q.2 < c) ∧ Wd U (runT c j ops p.2)) →
    (∀ o ∈ ops, o.q ∈ lds) → (∀ p, ts[0]? = some p → ∀ x ∈ (runT c 0 ops p.2).map (·.1), (startOf (lds.map (·.1)) x).isSome = true → num (runT c 0 ops p.2) x = 0) → Q (.ref r) H'
abbrev nRed : List Str := ["column", "basis", "clock", "left", "place", "table"]
theorem sc_Red : FnScope nRed ["column", "basis", "clock"] (defScope s_reduced) := ⟨rfl, rfl, rfl, by decide +kernel, rfl, by decide +kernel, by decide +kernel⟩
theorem ok_Red (T : Top K mg) : Ok P w K mg base 5 "reduced" ["column", "basis", "clock"] spRed := by
  obtain ⟨fd, F⟩ := fn_reduced T
  refine ⟨⟨fd, ?_, F.bindsN fun _ _ _ _ _ _ us hl => match us, hl with | [_, _, _], _ => rfl⟩, g_reduced T, F.kp⟩
  refine F.ok sc_Red (fun vs H Q E h => ?_) (fun cdv A outer s H vs Q E hr h => ?_)
  · obtain ⟨Co, B, D, es, c, M, U, ts, lds, rfl, _⟩ := h
    rfl
  · obtain ⟨Co, B, D, es, c, M, U, ts, lds, rfl, rc, q⟩ := h
    have nd := sc_Red.nd
    have hr1 : Room 1 _ := hr.mono (by decide)
    have hs : sizeLine = 16777216 := sizeLine_eq
    refine ⟨_, PSs.nox (pss_cons (ps_setLc (i := 3) (own := [("table", 5)]) (g := gName 5) (tt := tYes) (by rfl) nd rfl rfl (sw_true rfl rfl rfl (by decide +kernel)) (pi_list (pv 0)) (blkOk_by (N := nRed) (sc := defScope s_reduced) (by decide +kernel))
        (fun _ _ _ _ _ => pg_name (i := 5) nd rfl (Or.inl rfl)) (fun _ _ _ _ _ => pts_nil) (fun _ _ _ _ _ => pe_callTy call_dictD (by rfl) (f_dict T) (by decide +kernel) (pa_cons (pv 5) pa_nil)))
      (pss_cons (ps_for PassesOwn.never rfl (pi_range1 (by rfl) (f_range T) (pa_cons (pe_callB call_len (by rfl) (f_len T) PySem.boot_len (pa_cons (pv 3) pa_nil)) pa_nil)) (pg_name (i := 4) nd rfl (Or.inl rfl))
        (pss_one (ps_if (pt_truth (pe_ix ix_list (pv 1) (pv 4) (fun _ _ => rfl)) (fun _ => rfl)) (pss_one (ps_expr (pc (ok_RA T) hr (pa_cons (pv 3) (pa_cons (pv 4) (pa_cons (pe_ix ix_list (pv 1) (pv 4) (fun _ _ => rfl)) (pa_cons (pv 2) pa_nil))))))) pss_nil)))
      (pss_one (ps_ret (pe_lc (te := tCall spTidied [] E0 (tCons (tVar 5) (tCons (tVar 2) tNil))) (own := [("table", 5)]) (g := gName 5) (tt := tYes) rfl nd (pi_list (pv 3)) (blkOk_by (N := nRed) (sc := defScope s_reduced) (by decide +kernel))
        (fun _ _ _ _ _ => pg_name (i := 5) nd rfl (Or.inl rfl)) (fun _ _ _ _ _ => pts_nil) (fun _ _ _ _ _ => pc (ok_tidied T) hr1 (pa_cons (pv 5) (pa_cons (pv 2) pa_nil)))))))), ?_⟩
    refine ⟨_, rfl, Co, rfl, ⟨_, SqL.of rc.hCo⟩, fun Fa hFa => ?_⟩
    refine lc_it (walk_list (xs := ts.map fun p => V.ref p.1)) (fun k H' => (∃ cp : At, H' Fa = some (.lst (cp.map fun p => V.ref p.1)) ∧ cp.map (·.2) = (ts.take k).map (·.2) ∧ (cp.map (·.1)).Nodup ∧ (∀ p ∈ cp, H p.1 = none ∧ H' p.1 = some (.dK (kv p.2)))) ∧ Same H H')
      ⟨⟨[], upd_same, by simp, by simp, fun p hp => (by cases hp)⟩, same_upd hFa⟩ (fun k H' _ hP => SqL.of (hP.2 _ _ rc.hCo)) ?_ ?_
    · rintro k x H1 H2 hk ⟨⟨cp, p1, p2, p3, p4⟩, p5⟩ ⟨rfl, ex⟩
      rw [List.getElem?_map] at ex
      obtain ⟨p, ep, rfl⟩ := Option.map_eq_some_iff.mp ex
      rw [List.length_map] at hk
      have hpm := List.mem_of_getElem? ep
      have cl : cp.length = k := by
        have := congrArg List.length p2
        rw [List.length_map, List.length_map, List.length_take] at this
        omega
      refine ⟨rfl, ?_⟩
      refine ⟨_, rfl, p.1, kv p.2, rfl, .inl (p5 _ _ (rc.ht p hpm).1), fun Na hN => ?_⟩
      have nNF : Fa ≠ Na := ne_of_none p1 hN
      refine ⟨_, by rw [upd_ne nNF]; exact p1, by rw [List.length_map]; have := rc.few'; omega, ⟨cp ++ [(Na, p.2)], ?_, ?_, ?_, ?_⟩, ?_⟩
      · rw [upd_same, List.map_append]
        rfl
      · rw [List.map_append, p2, List.take_add_one, ep, List.map_append]
        rfl
      · rw [List.map_append]
        refine List.nodup_append.mpr ⟨p3, by simp, fun a ha b hb e => ?_⟩
        have hb2 : b = Na := by simpa using hb
        subst e
        subst hb2
        obtain ⟨r, hr', e⟩ := List.mem_map.mp ha
        have := (p4 r hr').2
        rw [e, hN] at this
        cases this
      · intro r hr'
        rcases List.mem_append.mp hr' with hr' | hr'
        · refine ⟨(p4 r hr').1, ?_⟩
          rw [upd_ne (ne_of (p4 r hr').2 p1 (by intro z; cases z)), upd_ne (ne_of_none (p4 r hr').2 hN)]
          exact (p4 r hr').2
        · have : r = (Na, p.2) := by simpa using hr'
          subst this
          refine ⟨back_none8 p5 hN, ?_⟩
          rw [upd_ne nNF.symm]
          exact upd_same
      · intro a o e
        rw [upd_ne (ne_of_none e hFa), upd_ne (ne_of_none (p5 a o e) hN)]
        exact p5 a o e
    · rintro H1 ⟨⟨cp, p1, p2, p3, p4⟩, p5⟩
      rw [List.length_map, List.take_length] at p2
      have cl : cp.length = ts.length := by
        have := congrArg List.length p2
        rw [List.length_map, List.length_map] at this
        exact this
      have snd : ∀ (j : Nat) (p : Addr × Tb), cp[j]? = some p → ∃ p', ts[j]? = some p' ∧ p'.2 = p.2 := fun j p e => by
        have h1 : (cp.map (·.2))[j]? = some p.2 := by rw [List.getElem?_map, e]; rfl
        rw [p2, List.getElem?_map] at h1
        obtain ⟨p', e1, e2⟩ := Option.map_eq_some_iff.mp h1
        exact ⟨p', e1, e2⟩
      have fresh : ∀ {a : Addr} {o : HO}, H a = some o → a ∉ cp.map (·.1) := fun {a o} e z => by
        obtain ⟨p, hp, e2⟩ := List.mem_map.mp z
        have := (p4 p hp).1
        rw [e2, e] at this
        cases this
      have hFn : Fa ∉ cp.map (·.1) := fun z => by
        obtain ⟨p, hp, e2⟩ := List.mem_map.mp z
        have := (p4 p hp).2
        rw [e2, p1] at this
        cases this
      have ra : RA H1 Fa D 0 c M U cp lds := {
        hc := rc.hc
        hc7 := rc.hc7
        cl := rc.cl
        hL := p1
        hD := p5 _ _ rc.hD
        hDn := fresh rc.hD
        hi := by rw [cl, rc.len]; omega
        nd := p3
        ht := fun p hp => (p4 p hp).2
        tg := fun p hp => by
          obtain ⟨j, e⟩ := List.getElem?_of_mem hp
          obtain ⟨p', e1, e2⟩ := snd j p e
          rw [← e2]
          exact rc.tg p' (List.mem_of_getElem? e1)
        few := fun p e => by
          obtain ⟨p', e1, e2⟩ := snd 0 p e
          rw [← e2]
          exact (rc.ht p' (List.mem_of_getElem? e1)).2
        col := fun q hq => ⟨p5 _ _ (rc.col q hq).1, (rc.col q hq).2.1.trans cl.symm, (rc.col q hq).2.2⟩
        pc := fun q hq p hp => by
          obtain ⟨z1, z2⟩ := rc.pc q hq p hp
          exact ⟨p5 _ _ z1, fresh z1, z2⟩
        led := rc.led }
      refine ⟨_, rfl, .ref Fa, cp.length, rfl, .inl ⟨_, .inl (.inl p1), by rw [List.length_map]⟩, _, rfl, by omega, by have := rc.few'; omega, ?_⟩
      rw [Int.toNat_natCast]
      refine for_it walk_range (fun j σ H' => (∃ v4 v5, σ = [some (.ref Co), some (.ref B), some (.int c), some (.ref Fa), v4, v5]) ∧ ((j = 0 ∧ H' = H1) ∨ (1 ≤ j ∧ ∃ ops : List Tk, (∀ o ∈ ops, o.q ∈ lds) ∧ (∀ a o, H1 a = some o → a ∉ cp.map (·.1) → H' a = some o) ∧
          (∀ (j : Nat) p, cp[j]? = some p → H' p.1 = some (.dK (kv (runT c j ops p.2))) ∧ Nd (runT c j ops p.2) ∧ (∀ q ∈ runT c j ops p.2, 0 ≤ q.2 ∧ q.2 < c) ∧ Wd U (runT c j ops p.2)) ∧
          (∀ p, cp[0]? = some p → ∀ x ∈ (runT c 0 ops p.2).map (·.1), (startOf (lds.map (·.1)) x).isSome = true → num (runT c 0 ops p.2) x = 0))))
        ⟨⟨_, _, rfl⟩, .inl ⟨rfl, rfl⟩⟩ (fun _ _ _ _ _ => trivial) ?_ ?_
      · rintro j x σ H2 H3 hj ⟨⟨v4, v5, rfl⟩, hP⟩ ⟨rfl, rfl⟩
        show gName 4 (V.int (0 + (j : Int))) _ _ _
        rw [Int.zero_add]
        rcases hP with ⟨rfl, rfl⟩ | ⟨hj1, ops, o1, o2, o3, o4⟩
        · refine ⟨_, rfl, _, rfl, B, _, ((0 : Nat) : Int), .ref D, rfl, rfl, SqL.of (p5 _ _ rc.hB), atI_nat (by rfl), _, .inr (.inr ⟨_, p5 _ _ rc.hD, rfl⟩), ?_⟩
          rw [show (!(lds.map fun q => ((Sum.inr q.1 : Key), V.ref q.2.1)).isEmpty) = true by
            cases hl : lds with
            | nil => exact absurd hl rc.ne
            | cons a r => rfl]
          refine iteT ?_
          refine ⟨_, rfl, _, rfl, _, rfl, _, rfl, B, _, ((0 : Nat) : Int), .ref D, rfl, rfl, SqL.of (p5 _ _ rc.hB), atI_nat (by rfl), _, rfl, Fa, D, 0, c, M, U, cp, lds, rfl, ra, fun H' ops o1 o2 o3 o4 => ?_⟩
          exact ⟨⟨_, _, rfl⟩, .inr ⟨Nat.le_refl _, ops, o1, o2, o3, o4⟩⟩
        · obtain ⟨j', rfl⟩ : ∃ j', j = j' + 1 := ⟨j - 1, by omega⟩
          have hjl : j' < es.length := by rw [cl, rc.len] at hj; omega
          obtain ⟨e, ee⟩ : ∃ e, es[j']? = some e := ⟨es[j']'hjl, List.getElem?_eq_getElem hjl⟩
          have hem := List.mem_of_getElem? ee
          have he0 := rc.hes e hem
          have hB2 := o2 _ _ (p5 _ _ rc.hB) (fresh rc.hB)
          refine ⟨_, rfl, _, rfl, B, _, _, .ref e, rfl, rfl, SqL.of hB2, atI_nat (by rw [List.getElem?_cons_succ, List.getElem?_map, ee]; rfl), _, .inr (.inr ⟨[], o2 _ _ (p5 _ _ he0) (fresh he0), rfl⟩), iteF ?_⟩
          exact ⟨⟨_, _, rfl⟩, .inr ⟨by omega, ops, o1, o2, o3, o4⟩⟩
      · rintro σ H2 ⟨⟨v4, v5, rfl⟩, hP⟩
        rcases hP with ⟨h0, _⟩ | ⟨_, ops, o1, o2, o3, o4⟩
        · rw [cl, rc.len] at h0
          omega
        · have s2 : Same H H2 := fun a o e => o2 _ _ (p5 _ _ e) (fresh e)
          have f2 := o2 _ _ p1 hFn
          have pow : U.length ≤ 1000000 := rc.cl.len
          refine ⟨_, rfl, Fa, rfl, ⟨_, SqL.of f2⟩, fun Ra hR => ?_⟩
          refine lc_it (walk_list (xs := cp.map fun p => V.ref p.1)) (fun k H' => (∃ rs : List Addr, H' Ra = some (.lst (rs.map V.ref)) ∧ rs.length = k ∧ rs.Nodup ∧ (∀ a ∈ rs, H2 a = none) ∧ (∀ (j : Nat) p a, cp[j]? = some p → rs[j]? = some a → H' a = some (.dK (kv (tidyM c (runT c j ops p.2)))))) ∧ Same H2 H')
            ⟨⟨[], upd_same, rfl, List.nodup_nil, fun a ha => (by cases ha), fun j p a _ e => (by simp at e)⟩, same_upd hR⟩ (fun k H' _ hP => SqL.of (hP.2 _ _ f2)) ?_ ?_
          · rintro k x H3 H4 hk ⟨⟨rs, r1, r2, r3, r4, r5⟩, r6⟩ ⟨rfl, ex⟩
            rw [List.getElem?_map] at ex
            obtain ⟨p, ep, rfl⟩ := Option.map_eq_some_iff.mp ex
            rw [List.length_map] at hk
            obtain ⟨z1, z2, z3, z4⟩ := o3 k p ep
            have zl : (runT c k ops p.2).length ≤ U.length := tb_half z2 z4
            refine ⟨rfl, ?_⟩
            refine ⟨_, rfl, _, rfl, p.1, c, _, rfl, rc.hc, r6 _ _ z1, z2, by omega, fun H5 Na s5 nN eN => ?_⟩
            have r1' := s5 _ _ r1
            have nNR : Ra ≠ Na := fun z => by
              rw [← z, r1] at nN
              cases nN
            refine ⟨_, r1', by rw [List.length_map]; have := rc.few'; omega, ⟨rs ++ [Na], ?_, ?_, ?_, ?_, ?_⟩, ?_⟩
            · rw [upd_same, List.map_append]
              rfl
            · rw [List.length_append, r2]
              rfl
            · refine List.nodup_append.mpr ⟨r3, by simp, fun a ha b hb e => ?_⟩
              have hb2 : b = Na := by simpa using hb
              subst e
              subst hb2
              obtain ⟨j, ej⟩ := List.getElem?_of_mem ha
              have hjk : j < cp.length := by
                have := (List.getElem?_eq_some_iff.mp ej).1
                omega
              have := r5 j _ _ (List.getElem?_eq_getElem hjk) ej
              rw [nN] at this
              cases this
            · intro a ha
              rcases List.mem_append.mp ha with ha | ha
              · exact r4 a ha
              · have : a = Na := by simpa using ha
                subst this
                exact back_none8 r6 nN
            · intro j p' a e1 e2
              by_cases hjl : j < rs.length
              · rw [List.getElem?_append_left hjl] at e2
                have := s5 _ _ (r5 j p' a e1 e2)
                rw [upd_ne (ne_of this r1' (by intro z; cases z))]
                exact this
              · have hjr : j = rs.length := by
                  have := (List.getElem?_eq_some_iff.mp e2).1
                  rw [List.length_append] at this
                  have h1 : ([Na] : List Addr).length = 1 := rfl
                  omega
                subst hjr
                rw [List.getElem?_append_right (Nat.le_refl _), Nat.sub_self] at e2
                have : Na = a := Option.some.inj e2
                subst this
                rw [r2] at e1 ⊢
                rw [ep] at e1
                cases e1
                rw [upd_ne nNR.symm]
                exact eN
            · intro a o e
              rw [upd_ne (ne_of_none e hR)]
              exact s5 _ _ (r6 a o e)
          · rintro H3 ⟨⟨rs, r1, r2, r3, r4, r5⟩, r6⟩
            rw [List.length_map] at r2
            refine q H3 Ra rs ops (fun a o e => r6 _ _ (s2 _ _ e)) (back_none8 s2 hR) r1 (r2.trans cl) r3 (fun a ha => back_none8 s2 (r4 a ha)) (fun j p a e1 e2 => ?_) o1 (fun p e x hx hst => ?_)
            · have hjl : j < cp.length := by rw [cl]; exact (List.getElem?_eq_some_iff.mp e1).1
              obtain ⟨p', ep'⟩ : ∃ p, cp[j]? = some p := ⟨cp[j]'hjl, List.getElem?_eq_getElem hjl⟩
              obtain ⟨p'', e3, e4⟩ := snd j p' ep'
              rw [e1] at e3
              cases e3
              rw [e4]
              exact ⟨r5 j p' a ep' e2, (o3 j p' ep').2⟩
            · have hjl : 0 < cp.length := by rw [cl, rc.len]; omega
              obtain ⟨p', ep'⟩ : ∃ p, cp[0]? = some p := ⟨cp[0]'hjl, List.getElem?_eq_getElem hjl⟩
              obtain ⟨p'', e3, e4⟩ := snd 0 p' ep'
              rw [e] at e3
              cases e3
              rw [e4] at hx ⊢
              exact o4 p' ep' x hx hst
end
end Fp

set_option Elab.async false
set_option linter.all false
set_option maxRecDepth 100000
set_option maxHeartbeats 4000000
namespace Fp
open PySem PySem.Spec PyProof.Rows L2
/-- a lot of words that dividing by g keeps -/
structure UW (g l : Tb) (M : Nat) (U : List Str) : Prop where
  len : U.length ≤ 1000000
  m : M ≤ 1000
  wl : ∀ x ∈ U, xyz x ∧ x.length ≤ M
  sub : ∀ x ∈ l.map (·.1), x ∈ U
  cl : ∀ h ∈ g.map (·.1), (∀ y ∈ g.map (·.1), leR h y = true) → ∀ b, h ++ b ∈ U → b ∈ U ∧ ∀ y ∈ g.map (·.1), y ++ b ∈ U
/-- the one lead of a dividing -/
def dLead (h : Str) (C a1 a2 : Addr) (c turn : Int) (g : Tb) : Lead := (h, C, [(a1, tidyM c (scl turn g)), (a2, [(("" : Str), c - turn)])])
section
variable {P : Program} {w : World} {K : PySem.W.Frag} {mg : Str → Option Value} {base : Heap}
def spDiv : Sp := fun vs H Q _ => ∃ (d f : Addr) (c : Int) (l g : Tb) (m k mg kg M : Nat) (U : List Str), vs = [.ref d, .ref f, .int c] ∧ isCk c ∧ H d = some (.dK (kv l)) ∧ H f = some (.dK (kv g)) ∧ VT c m k l ∧ VT c mg kg g ∧ k ≤ 2500 ∧ kg ≤ 100000 ∧ mg ≤ 1000 ∧ g ≠ [] ∧ UW g l M U ∧
  ∀ (H' : Hp) (p qo le C a1 a2 : Addr) (ops : List Tk) (h : Str) (turn : Int), Same H H' → H p = none → H' p = some (.tup [.ref qo, .ref le]) → H' le = some (.dK (kv (tidyM c (runT c 0 ops l)))) → H' qo = some (.dK (kv (tidyM c (runT c 1 ops [])))) →
    h ∈ g.map (·.1) → (∀ y ∈ g.map (·.1), leR h y = true) → (num g h * turn) % c = 1 → 1 ≤ turn → turn < c → (∀ o ∈ ops, o.q = dLead h C a1 a2 c turn g) →
    Nd (runT c 0 ops l) → Wd U (runT c 0 ops l) → Nd (runT c 1 ops []) → Wd U (runT c 1 ops []) →
    (∀ x ∈ (runT c 0 ops l).map (·.1), (startOf [h] x).isSome = true → num (runT c 0 ops l) x = 0) → Q (.ref p) H'
abbrev nDiv : List Str := ["table", "front", "clock", "head", "turn", "column", "left", "quotient"]
theorem sc_Div : FnScope nDiv ["table", "front", "clock"] (defScope s_divided) := ⟨rfl, rfl, rfl, by decide +kernel, rfl, by decide +kernel, by decide +kernel⟩
theorem ok_Div (T : Top K mg) : Ok P w K mg base 6 "divided" ["table", "front", "clock"] spDiv := by
  obtain ⟨fd, F⟩ := fn_divided T
  refine ⟨⟨fd, ?_, F.bindsN fun _ _ _ _ _ _ us hl => match us, hl with | [_, _, _], _ => rfl⟩, g_divided T, F.kp⟩
  refine F.ok sc_Div (fun vs H Q E h => ?_) (fun cdv A outer s H vs Q E hr h => ?_)
  · obtain ⟨d, f, c, l, g, m, k, mg, kg, M, U, rfl, _⟩ := h
    rfl
  · obtain ⟨d, f, c, l, g, m, k, mg, kg, M, U, rfl, hck, hd, hf, vl, vg, hk, hkg, hmg, hne, uw, q⟩ := h
    have nd := sc_Div.nd
    have hu := hu_of hr
    have hr1 : Room 1 _ := hr.mono (by decide)
    have hr2 : Room 2 _ := hr.mono (by decide)
    have hr4 : Room 4 _ := hr.mono (by decide)
    have hs : sizeLine = 16777216 := sizeLine_eq
    obtain ⟨hc2, hc7⟩ := ck_range hck
    refine ⟨_, PSs.nox (pss_cons (ps_set (i := 3) nd rfl (Or.inl rfl) (pc (ok_firstW T) hr4 (pa_cons (pv 1) pa_nil)))
      (pss_cons (ps_set (i := 4) nd rfl (Or.inl rfl) (pc (ok_inverse T) hr1 (pa_cons (pe_dget hu (pv 1) (pv 3) (fun _ _ => rfl)) (pa_cons (pv 2) pa_nil))))
      (pss_cons (ps_set (i := 5) nd rfl (Or.inl rfl) (pe_lst (pa_cons (pc (ok_scaled T) hr2 (pa_cons (pv 1) (pa_cons (pv 4) (pa_cons (pv 2) pa_nil)))) (pa_cons (pe_disp (pps_cons pe_str (pe_op op_sub (pv 2) (pv 4)) pps_nil) (by rfl) (by rfl) (fun z => by cases z) (by decide)) pa_nil))))
      (pss_cons (ps_asg (pc (ok_Red T) hr (pa_cons (pe_lst (pa_cons (pv 0) (pa_cons pe_dnewK pa_nil))) (pa_cons (pe_lst (pa_cons (pe_disp (pps_cons (pv 3) (pv 5) pps_nil) (by rfl) (by rfl) (fun z => by cases z) (by decide)) (pa_cons pe_dnewK pa_nil))) (pa_cons (pv 2) pa_nil)))) (pg_lst rfl (pgs_cons (pg_name (i := 6) nd rfl (Or.inl rfl)) (pgs_cons (pg_name (i := 7) nd rfl (Or.inl rfl)) pgs_nil))))
      (pss_one (ps_ret (pe_tup (pa_cons (pv 7) (pa_cons (pv 6) pa_nil))))))))), ?_⟩
    have gk : (kv g).map (·.1) = (g.map (·.1)).map Sum.inr := by
      unfold kv
      rw [List.map_map, List.map_map]
      rfl
    refine ⟨_, rfl, f, kv g, g.map (·.1), rfl, hf, gk, by simpa using hne, fun x hx => ?_, fun h hh hmin => ?_⟩
    · obtain ⟨p, hp, rfl⟩ := List.mem_map.mp hx
      have := (vg.wd p hp).2
      omega
    refine ⟨_, rfl, _, rfl, f, .int (num g h), rfl, .inl ⟨_, Sum.inr h, .inl hf, rfl, by rw [valV_yes (has_iff.mpr hh)]⟩, _, rfl, num g h, c, rfl, hck, fun turn ht0 htc ht => ?_⟩
    have hgn : 1 ≤ num g h ∧ num g h < c := by
      obtain ⟨p, hp, e⟩ := List.mem_map.mp hh
      obtain ⟨j, ej⟩ := List.getElem?_of_mem hp
      rw [← e, num_of vg.nd ej]
      exact vg.nu p hp
    obtain ⟨ht1, ht2⟩ := ht (by rw [Int.emod_eq_of_lt (by omega) hgn.2]; omega)
    refine ⟨_, rfl, _, rfl, _, rfl, f, turn, c, g, rfl, by omega, by omega, hf, vg.nd, vg.nu, by have := vg.ln; omega, fun H1 a1 s1 n1 e1 => ?_⟩
    refine fun a2 n2 => ⟨_, rfl, _, rfl, _, _, rfl, rfl, upd_same, kv [(("" : Str), c - turn)], rfl, Nat.le_of_ble_eq_true rfl, ?_⟩
    rw [upd_upd, show mergeK [] (kv [(("" : Str), c - turn)]) = kv [(("" : Str), c - turn)] from rfl]
    have s2 := s1.trans (same_upd (o := .dK (kv [(("" : Str), c - turn)])) n2)
    replace e1 := same_upd (o := .dK (kv [(("" : Str), c - turn)])) n2 _ _ e1
    have e2 : (upd H1 a2 (.dK (kv [(("" : Str), c - turn)]))) a2 = some (.dK (kv [(("" : Str), c - turn)])) := upd_same
    generalize upd H1 a2 (.dK (kv [(("" : Str), c - turn)])) = H2 at s2 e1 e2 ⊢
    refine ⟨by show 2 ≤ sizeLine; omega, fun C nC => ?_⟩
    have s3 := s2.trans (same_upd (o := .lst [.ref a1, .ref a2]) nC)
    replace e1 := same_upd (o := .lst [.ref a1, .ref a2]) nC _ _ e1
    replace e2 := same_upd (o := .lst [.ref a1, .ref a2]) nC _ _ e2
    have eC : (upd H2 C (.lst [.ref a1, .ref a2])) C = some (.lst [.ref a1, .ref a2]) := upd_same
    generalize upd H2 C (.lst [.ref a1, .ref a2]) = H3 at s3 e1 e2 eC ⊢
    refine ⟨_, rfl, fun q0 nq => ⟨by show 2 ≤ sizeLine; omega, fun Co nCo => ?_⟩⟩
    have s4 := s3.trans (same_upd (o := .dK []) nq)
    have t4 := same_upd (o := .dK []) nq
    have e4 : (upd H3 q0 (.dK [])) q0 = some (.dK []) := upd_same
    generalize upd H3 q0 (.dK []) = H4 at s4 t4 e4 nCo ⊢
    have t5 := same_upd (o := .lst [.ref d, .ref q0]) nCo
    have e5 : (upd H4 Co (.lst [.ref d, .ref q0])) Co = some (.lst [.ref d, .ref q0]) := upd_same
    generalize upd H4 Co (.lst [.ref d, .ref q0]) = H5 at t5 e5 ⊢
    refine fun D nD => ⟨_, rfl, _, rfl, upd_same, [((Sum.inr h : Key), V.ref C)], rfl, Nat.le_of_ble_eq_true rfl, ?_⟩
    rw [upd_upd, show mergeK [] [((Sum.inr h : Key), V.ref C)] = [((Sum.inr h : Key), V.ref C)] from rfl]
    have t6 := same_upd (o := .dK [((Sum.inr h : Key), V.ref C)]) nD
    have e6 : (upd H5 D (.dK [((Sum.inr h : Key), V.ref C)])) D = some (.dK [((Sum.inr h : Key), V.ref C)]) := upd_same
    generalize upd H5 D (.dK [((Sum.inr h : Key), V.ref C)]) = H6 at t6 e6 ⊢
    refine fun e0 ne0 => ⟨by show 2 ≤ sizeLine; omega, fun B nB => ?_⟩
    have t7 := same_upd (o := .dK []) ne0
    have e7 : (upd H6 e0 (.dK [])) e0 = some (.dK []) := upd_same
    generalize upd H6 e0 (.dK []) = H7 at t7 e7 nB ⊢
    have t8 := same_upd (o := .lst [.ref D, .ref e0]) nB
    have e8 : (upd H7 B (.lst [.ref D, .ref e0])) B = some (.lst [.ref D, .ref e0]) := upd_same
    generalize upd H7 B (.lst [.ref D, .ref e0]) = H8 at t8 e8 ⊢
    have t38 : Same H3 H8 := (((t4.trans t5).trans t6).trans t7).trans t8
    have s8 : Same H H8 := s3.trans t38
    have sn : Nd (scl turn g) := scl_nd vg.nd
    have nscl : ∀ x, num (scl turn g) x = turn * num g x := fun x => by rw [← tot_num sn, tot_scl, tot_num vg.nd]
    have tk : ∀ r ∈ tidyM c (scl turn g), r.1 ∈ g.map (·.1) := fun r hr => by
      obtain ⟨p, hp, e, _⟩ := tidy_keys hr
      unfold scl at hp
      obtain ⟨p', hp', rfl⟩ := List.mem_map.mp hp
      rw [e]
      exact List.mem_map.mpr ⟨p', hp', rfl⟩
    have wdk : ∀ x ∈ g.map (·.1), xyz x ∧ x.length ≤ mg := fun x hx => by
      obtain ⟨p, hp, rfl⟩ := List.mem_map.mp hx
      exact vg.wd p hp
    have hlh := (wdk h hh).2
    refine ⟨_, rfl, Co, B, D, [e0], c, M, U, [(d, l), (q0, [])], [dLead h C a1 a2 c turn g], rfl, ?_, fun H' r rs ops s9 nr er rl rnd rfr rt rop rz => ?_⟩
    · exact {
        hc := by omega
        hc7 := hc7
        cl := ⟨uw.len, uw.m, uw.wl, fun q hq p hp r hr b hb => by
          have : q = dLead h C a1 a2 c turn g := by simpa using hq
          subst this
          obtain ⟨u1, u2⟩ := uw.cl h hh hmin b hb
          have : p = (a1, tidyM c (scl turn g)) ∨ p = (a2, [(("" : Str), c - turn)]) := by simpa [dLead] using hp
          rcases this with rfl | rfl
          · exact u2 _ (tk r hr)
          · have : r = (("" : Str), c - turn) := by simpa using hr
            subst this
            rw [str_nil_l]
            exact u1⟩
        hCo := t8 _ _ (t7 _ _ (t6 _ _ e5))
        hB := e8
        len := rfl
        few' := by show 2 ≤ 1000; decide
        hes := fun e he => by
          have : e = e0 := by simpa using he
          subst this
          exact t8 _ _ e7
        ne := by simp
        hD := t8 _ _ (t7 _ _ e6)
        ht := fun p hp => by
          have : p = (d, l) ∨ p = (q0, []) := by simpa using hp
          rcases this with rfl | rfl
          · exact ⟨s8 _ _ hd, by have := vl.ln; show l.length ≤ 2500; omega⟩
          · exact ⟨t8 _ _ (t7 _ _ (t6 _ _ (t5 _ _ e4))), by show 0 ≤ 2500; decide⟩
        tg := fun p hp => by
          have : p = (d, l) ∨ p = (q0, []) := by simpa using hp
          rcases this with rfl | rfl
          · exact ⟨vl.nd, fun q hq => ⟨by have := (vl.nu q hq).1; omega, (vl.nu q hq).2⟩, fun x hx => uw.sub x hx⟩
          · exact ⟨List.nodup_nil, fun q hq => (by cases hq), fun x hx => (by cases hx)⟩
        col := fun q hq => by
          have : q = dLead h C a1 a2 c turn g := by simpa using hq
          subst this
          exact ⟨t38 _ _ eC, rfl, by show h.length ≤ 1000; omega⟩
        pc := fun q hq p hp => by
          have : q = dLead h C a1 a2 c turn g := by simpa using hq
          subst this
          have : p = (a1, tidyM c (scl turn g)) ∨ p = (a2, [(("" : Str), c - turn)]) := by simpa [dLead] using hp
          rcases this with rfl | rfl
          · refine ⟨t38 _ _ e1, fun r hr => tidy_rg (by omega) r hr, ?_, fun r hr => ⟨(wdk _ (tk r hr)).1, leR_len' (hmin _ (tk r hr))⟩⟩
            have := tidy_len (c := c) (l := scl turn g)
            rw [scl_len] at this
            have := vg.ln
            show (tidyM c (scl turn g)).length ≤ 1000000
            omega
          · refine ⟨t38 _ _ e2, fun r hr => ?_, by show 1 ≤ 1000000; decide, fun r hr => ?_⟩
            · have : r = (("" : Str), c - turn) := by simpa using hr
              subst this
              exact ⟨by show 1 ≤ c - turn; omega, by show c - turn < c; omega⟩
            · have : r = (("" : Str), c - turn) := by simpa using hr
              subst this
              exact ⟨fun c' hc' => (by cases hc'), Nat.zero_le _⟩
        led := fun q hq p e => by
          have : q = dLead h C a1 a2 c turn g := by simpa using hq
          subst this
          have : (a1, tidyM c (scl turn g)) = p := Option.some.inj e
          subst this
          refine ⟨tidy_nd sn, ?_, fun r hr => hmin _ (tk r hr)⟩
          show num (tidyM c (scl turn g)) h = 1
          rw [num_tidy sn, nscl, Int.mul_comm]
          exact ht1 }
    · obtain ⟨x0, x1, rfl⟩ : ∃ x0 x1, rs = [x0, x1] := by
        match rs, rl with
        | [x0, x1], _ => exact ⟨x0, x1, rfl⟩
      refine ⟨r, _, rfl, SqL.of er, rfl, ?_⟩
      refine ⟨_, _, rfl, _, _, rfl, rfl, ?_⟩
      obtain ⟨z1, z2, z3, z4⟩ := rt 0 (d, l) x0 rfl rfl
      obtain ⟨y1, y2, y3, y4⟩ := rt 1 (q0, []) x1 rfl rfl
      refine ⟨_, rfl, _, rfl, by show 2 ≤ sizeLine; omega, fun p np => ?_⟩
      have s10 := same_upd (o := .tup [.ref x1, .ref x0]) np
      refine q _ p x1 x0 C a1 a2 ops h turn ((s8.trans s9).trans s10) (back_none8 (s8.trans s9) np) upd_same (s10 _ _ z1) (s10 _ _ y1) hh hmin ht1 ht2 htc (fun o ho => by simpa using rop o ho) z2 z4 y2 y4 (rz (d, l) rfl)
end
end Fp

set_option Elab.async false
set_option linter.all false
set_option maxRecDepth 100000
set_option maxHeartbeats 4000000
namespace Fp
open PySem PySem.Spec PyProof.Rows L2
/-! ### what dividing tells, as sums -/
theorem tot_bwd_lin (b : Str) (k : Int) (l : Tb) (x : Str) : tot (bwd (b, k) l) x = k * tot (bwd (b, 1) l) x := by
  induction l with
  | nil => show tot [] x = k * tot [] x; rw [tot_nil, Int.mul_zero]
  | cons p r ih =>
    have e1 : bwd (b, k) (p :: r) = (p.1 ++ b, p.2 * k) :: bwd (b, k) r := rfl
    have e2 : bwd (b, 1) (p :: r) = (p.1 ++ b, p.2 * 1) :: bwd (b, 1) r := rfl
    rw [e1, e2, tot_cons, tot_cons, ih, Int.mul_add]
    by_cases e : p.1 ++ b = x
    · rw [if_pos e, if_pos e, Int.mul_one, Int.mul_comm k p.2]
    · rw [if_neg e, if_neg e, Int.mul_zero]
theorem tot_bwd_scl (b : Str) (k f : Int) (l : Tb) (x : Str) : tot (bwd (b, k) (scl f l)) x = (k * f) * tot (bwd (b, 1) l) x := by
  induction l with
  | nil => show tot [] x = (k * f) * tot [] x; rw [tot_nil, Int.mul_zero]
  | cons p r ih =>
    have e1 : bwd (b, k) (scl f (p :: r)) = (p.1 ++ b, (f * p.2) * k) :: bwd (b, k) (scl f r) := rfl
    have e2 : bwd (b, 1) (p :: r) = (p.1 ++ b, p.2 * 1) :: bwd (b, 1) r := rfl
    rw [e1, e2, tot_cons, tot_cons, ih, Int.mul_add]
    by_cases e : p.1 ++ b = x
    · rw [if_pos e, if_pos e]
      show (f * p.2 * k) + k * f * _ = k * f * (p.2 * 1) + k * f * _
      rw [Int.mul_one, Int.mul_comm (f * p.2) k, ← Int.mul_assoc]
    · rw [if_neg e, if_neg e, Int.mul_zero]
theorem prs_one (g : Tb) (b : Str) (k : Int) : prs g [(b, k)] = bwd (b, k) g := by
  induction g with
  | nil => rfl
  | cons p r ih =>
    rw [prs_cons, ih]
    rfl
theorem run_lk {c turn : Int} {h : Str} {C a1 a2 : Addr} {g : Tb} (hg : Nd g) : ∀ (ops : List Tk), (∀ o ∈ ops, o.q = dLead h C a1 a2 c turn g) → ∀ (t0 t1 : Tb), Nd t0 → Nd t1 → Lk c (runT c 0 ops t0 ++ prs g (runT c 1 ops t1)) (t0 ++ prs g t1)
  | [], _, t0, t1, _, _ => Lk.refl _ _
  | o :: ops, ho, t0, t1, h0, h1 => by
    have e := ho o List.mem_cons_self
    have o0 : opT c 0 t0 o = takeT c o.n o.b (tidyM c (scl turn g)) t0 := by
      unfold opT
      rw [e]
      rfl
    have o1 : opT c 1 t1 o = takeT c o.n o.b [(("" : Str), c - turn)] t1 := by
      unfold opT
      rw [e]
      rfl
    have r0 : runT c 0 (o :: ops) t0 = runT c 0 ops (opT c 0 t0 o) := rfl
    have r1 : runT c 1 (o :: ops) t1 = runT c 1 ops (opT c 1 t1 o) := rfl
    rw [r0, r1, o0, o1]
    refine (run_lk hg ops (fun o' h' => ho o' (List.mem_cons_of_mem _ h')) _ _ (takeT_nd _ _ h0) (takeT_nd _ _ h1)).trans ?_
    refine (Lk.app (lk_takeT h0) (Lk.prs_r g (lk_takeT h1))).trans fun x => ?_
    have s2 : scl (-1) (bwd (o.b, o.n) [(("" : Str), c - turn)]) = [(o.b, (-1) * ((c - turn) * o.n))] := by
      show [(("" : Str) ++ o.b, (-1) * ((c - turn) * o.n))] = _
      rw [str_nil_l]
    have k1 : tot (bwd (o.b, o.n) (tidyM c (scl turn g))) x % c = tot (bwd (o.b, o.n) (scl turn g)) x % c := by
      have := Lk.prs_l [(o.b, o.n)] (lk_tidy (c := c) (scl_nd (f := turn) hg)) x
      rw [prs_one, prs_one] at this
      exact this
    rw [s2, tot_app, tot_app, tot_scl, prs_app_r, tot_app, prs_one, tot_bwd_lin o.b (-1 * ((c - turn) * o.n)) g x, tot_app]
    rw [tot_bwd_scl] at k1
    generalize tot (bwd (o.b, 1) g) x = E at k1 ⊢
    generalize tot (bwd (o.b, o.n) (tidyM c (scl turn g))) x = W at k1 ⊢
    generalize tot t0 x = A
    generalize tot (prs g t1) x = B
    have k2 : (c : Int) ∣ (W - o.n * turn * E) := Int.dvd_of_emod_eq_zero (Int.emod_eq_emod_iff_emod_sub_eq_zero.mp k1)
    obtain ⟨z, hz⟩ := k2
    have k3 : A + -1 * W + (B + -1 * ((c - turn) * o.n) * E) = A + B + c * (-z - o.n * E) := by
      have : W = o.n * turn * E + c * z := by omega
      rw [this]
      rw [Int.sub_mul, Int.mul_sub, Int.mul_sub, Int.sub_mul, Int.mul_comm o.n turn]
      have a1 : -1 * (c * o.n) * E = -(c * (o.n * E)) := by rw [Int.mul_assoc, Int.neg_mul, Int.one_mul, Int.mul_assoc]
      have a2 : -1 * (turn * o.n) * E = -(turn * o.n * E) := by rw [Int.mul_assoc, Int.neg_mul, Int.one_mul]
      rw [a1, a2, Int.mul_neg]
      omega
    rw [k3, Int.add_mul_emod_self_left]
end Fp

set_option Elab.async false
set_option linter.all false
set_option maxRecDepth 100000
set_option maxHeartbeats 4000000
namespace Fp
open PySem PySem.Spec PyProof.Rows L2
/-! ### the first word of a product -/
/-- h leads g, its number has an inverse by the clock -/
structure Hd (c turn : Int) (h : Str) (g : Tb) : Prop where
  nd : Nd g
  mem : h ∈ g.map (·.1)
  min : ∀ y ∈ g.map (·.1), leR h y = true
  inv : (num g h * turn) % c = 1
/-- a table by the clock: each word once, no number nothing -/
structure Tt (c : Int) (r : Tb) : Prop where
  nd : Nd r
  rg : ∀ p ∈ r, 1 ≤ p.2 ∧ p.2 < c
theorem tot_first {h v : Str} {r : Tb} (hv : ∀ y ∈ r.map (·.1), leR v y = true) : ∀ {l : Tb}, Nd l → (∀ y ∈ l.map (·.1), leR h y = true) → tot (prs l r) (h ++ v) = num l h * tot r v
  | [], _, _ => by
    show tot [] (h ++ v) = 0 * _
    rw [tot_nil, Int.zero_mul]
  | p :: l, hn, hm => by
    have hn' : (p.1 :: l.map (·.1)).Nodup := hn
    obtain ⟨n1, n2⟩ := List.nodup_cons.mp hn'
    have ih := tot_first hv (l := l) n2 (fun y hy => hm y (List.mem_cons_of_mem _ hy))
    rw [tot_prs_cons, ih, num_cons]
    by_cases e : p.1 = h
    · rw [if_pos e]
      have z : num l h = 0 := by rw [← tot_num n2, tot_not (e ▸ n1)]
      rw [z, Int.zero_mul, Int.add_zero]
      rcases tot_fwd p r (h ++ v) with ⟨y, e1, e2⟩ | ⟨e1, _⟩
      · rw [e] at e1
        have : y = v := str_cancel e1
        rw [e2, this]
      · exact absurd (by rw [e]) (e1 v)
    · rw [if_neg e]
      have z : tot (fwd p r) (h ++ v) = 0 := by
        rcases tot_fwd p r (h ++ v) with ⟨y, e1, e2⟩ | ⟨_, e2⟩
        · rw [e2]
          by_cases hy : y ∈ r.map (·.1)
          · exfalso
            have l1 := leR_app_r (z := v) (hm p.1 List.mem_cons_self)
            have l2 := leR_app_l (z := p.1) (hv y hy)
            rw [e1] at l2
            have := leR_anti l1 l2
            exact e (str_cancel_r this).symm
          · rw [tot_not hy, Int.mul_zero]
        · exact e2
      rw [z, Int.zero_add]
theorem prs_key {l r : Tb} {x : Str} (h : tot (prs l r) x ≠ 0) : ∃ p ∈ l, ∃ q ∈ r, x = p.1 ++ q.1 := by
  by_cases hx : x ∈ (prs l r).map (·.1)
  · obtain ⟨e, he, rfl⟩ := List.mem_map.mp hx
    unfold prs at he
    obtain ⟨p, hp, he⟩ := List.mem_flatMap.mp he
    obtain ⟨q, hq, rfl⟩ := List.mem_map.mp he
    exact ⟨p, hp, q, hq, rfl⟩
  · exact absurd (tot_not hx) h
/-- the first of a row of words -/
theorem first_of : ∀ {l : List Str}, l ≠ [] → ∃ v ∈ l, ∀ y ∈ l, leR v y = true
  | [], h => absurd rfl h
  | [a], _ => ⟨a, List.mem_cons_self, fun y hy => by
    have : y = a := by simpa using hy
    subst this
    rcases leR_total.total y y with z | z <;> exact z⟩
  | a :: b :: l, _ => by
    obtain ⟨v, h1, h2⟩ := first_of (l := b :: l) (by simp)
    rcases leR_total.total a v with z | z
    · refine ⟨a, List.mem_cons_self, fun y hy => ?_⟩
      rcases List.mem_cons.mp hy with rfl | hy
      · rcases leR_total.total y y with z | z <;> exact z
      · exact leR_trans z (h2 y hy)
    · refine ⟨v, List.mem_cons_of_mem _ h1, fun y hy => ?_⟩
      rcases List.mem_cons.mp hy with rfl | hy
      · exact z
      · exact h2 y hy
/-- the first word of a product that is not nothing is the lead with a word behind; all its words are behind that one -/
theorem prs_first {c turn : Int} {h : Str} {g r : Tb} (hc : 2 ≤ c) (hg : Hd c turn h g) (hr : Tt c r) (hne : r ≠ []) : ∃ v, tot (prs g r) (h ++ v) % c ≠ 0 ∧ ∀ x, tot (prs g r) x ≠ 0 → leR (h ++ v) x = true := by
  obtain ⟨v, hv, hmin⟩ := first_of (l := r.map (·.1)) (by simpa using hne)
  refine ⟨v, fun z => ?_, fun x hx => ?_⟩
  · rw [tot_first hmin hg.nd hg.min, tot_num hr.nd] at z
    obtain ⟨p, hp, e⟩ := List.mem_map.mp hv
    obtain ⟨j, ej⟩ := List.getElem?_of_mem hp
    have hn := num_of hr.nd ej
    rw [e] at hn
    have h1 := hr.rg p hp
    have h2 : (num r v * (num g h * turn)) % c = num r v % c := by
      rw [Int.mul_emod, hg.inv, Int.mul_one, Int.emod_emod_of_dvd _ (Int.dvd_refl c)]
    have h3 : (num r v * (num g h * turn)) % c = 0 := by
      rw [show num r v * (num g h * turn) = (num g h * num r v) * turn by rw [← Int.mul_assoc, Int.mul_comm (num r v)], Int.mul_emod, z, Int.zero_mul, Int.zero_emod]
    rw [h3, hn, Int.emod_eq_of_lt (by omega) h1.2] at h2
    omega
  · obtain ⟨p, hp, q, hq, rfl⟩ := prs_key hx
    exact leR_trans (leR_app_r (z := v) (hg.min p.1 (List.mem_map.mpr ⟨p, hp, rfl⟩))) (leR_app_l (z := p.1) (hmin q.1 (List.mem_map.mpr ⟨q, hq, rfl⟩)))
end Fp
namespace Fp
open PySem PySem.Spec PyProof.Rows L2
theorem lk_add {c : Int} (l : Tb) : Lk c (tidyM c (addT l [])) l := fun x => by
  rw [tot_num (tidy_nd (nd_addT l [] (show Nd [] from List.nodup_nil))), num_tidy (nd_addT l [] (show Nd [] from List.nodup_nil)), num_addT, Int.emod_emod_of_dvd _ (Int.dvd_refl c)]
  show (num [] x + tot l x) % c = _
  rw [show num [] x = 0 from rfl, Int.zero_add]
theorem tt_add {c : Int} (hc : 0 < c) (l : Tb) : Tt c (tidyM c (addT l [])) := ⟨tidy_nd (nd_addT l [] (show Nd [] from List.nodup_nil)), tidy_rg hc⟩
theorem tt_nil {c : Int} {l : Tb} (h : Tt c l) (e : Lk c l []) : l = [] := by
  cases l with
  | nil => rfl
  | cons p r =>
    exfalso
    have h1 := e p.1
    have hn := num_of h.nd (i := 0) (p := p) rfl
    rw [tot_num h.nd, hn, tot_nil, Int.zero_emod] at h1
    have h2 := h.rg p List.mem_cons_self
    rw [Int.emod_eq_of_lt (by omega) h2.2] at h1
    omega
/-- a difference as a table -/
theorem diff_tt {c : Int} (hc : 0 < c) (q t : Tb) : ∃ r, Tt c r ∧ (∀ x, tot r x % c = (tot q x - tot t x) % c) := by
  refine ⟨_, tt_add hc (q ++ scl (-1) t), fun x => ?_⟩
  rw [lk_add (c := c) (q ++ scl (-1) t) x, tot_app, tot_scl]
  congr 1
  omega
/-- what is left begins nowhere with the lead: then there is but one quotient, and one rest -/
theorem div_one {c turn : Int} {h : Str} {g l T0 T1 q : Tb} (hc : 2 ≤ c) (hg : Hd c turn h g) (e : Lk c l (prs g T1 ++ T0)) (h0 : Tt c T0) (hb : ∀ x ∈ T0.map (·.1), ∀ v, x ≠ h ++ v) (f : Lk c l (prs g q)) : T0 = [] ∧ Lk c T1 q := by
  obtain ⟨r, hr, hd⟩ := diff_tt (c := c) (by omega) q T1
  have hlk : Lk c (r ++ T1) q := fun x => by
    rw [tot_app, Int.add_emod, hd x, ← Int.add_emod]
    congr 1
    omega
  have hp : Lk c (prs g r) T0 := fun x => by
    have a1 := Lk.prs_r g hlk x
    rw [prs_app_r, tot_app] at a1
    have a2 := (f.symm.trans e) x
    rw [tot_app] at a2
    have a3 : (tot (prs g r) x + tot (prs g T1) x) % c = (tot (prs g T1) x + tot T0 x) % c := a1.trans a2
    have a4 : (tot (prs g r) x + tot (prs g T1) x - tot (prs g T1) x) % c = (tot (prs g T1) x + tot T0 x - tot (prs g T1) x) % c := by rw [Int.sub_emod, a3, ← Int.sub_emod]
    rw [show tot (prs g r) x + tot (prs g T1) x - tot (prs g T1) x = tot (prs g r) x by omega, show tot (prs g T1) x + tot T0 x - tot (prs g T1) x = tot T0 x by omega] at a4
    exact a4
  by_cases hne : r = []
  · subst hne
    refine ⟨tt_nil h0 (fun x => ?_), hlk⟩
    rw [← hp x, prs_nil_r]
  · exfalso
    obtain ⟨v, hv, _⟩ := prs_first hc hg hr hne
    rw [hp (h ++ v)] at hv
    by_cases hk : (h ++ v) ∈ T0.map (·.1)
    · exact hb _ hk v rfl
    · rw [tot_not hk, Int.zero_emod] at hv
      exact hv rfl
/-- what is left leads with a word that does not begin with the lead: then nothing is a quotient -/
theorem div_none {c turn : Int} {h x : Str} {g l L q f : Tb} (hc : 2 ≤ c) (hg : Hd c turn h g) (e : Lk c l (prs g f ++ L)) (hL : Tt c L) (hx : x ∈ L.map (·.1)) (hmin : ∀ y ∈ L.map (·.1), leR x y = true) (hb : ∀ v, x ≠ h ++ v) : ¬ Lk c l (prs g q) := fun z => by
  obtain ⟨r, hr, hd⟩ := diff_tt (c := c) (by omega) q f
  have hlk : Lk c (r ++ f) q := fun x => by
    rw [tot_app, Int.add_emod, hd x, ← Int.add_emod]
    congr 1
    omega
  have hp : Lk c (prs g r) L := fun x => by
    have a1 := Lk.prs_r g hlk x
    rw [prs_app_r, tot_app] at a1
    have a2 := (z.symm.trans e) x
    rw [tot_app] at a2
    have a3 : (tot (prs g r) x + tot (prs g f) x) % c = (tot (prs g f) x + tot L x) % c := a1.trans a2
    have a4 : (tot (prs g r) x + tot (prs g f) x - tot (prs g f) x) % c = (tot (prs g f) x + tot L x - tot (prs g f) x) % c := by rw [Int.sub_emod, a3, ← Int.sub_emod]
    rw [show tot (prs g r) x + tot (prs g f) x - tot (prs g f) x = tot (prs g r) x by omega, show tot (prs g f) x + tot L x - tot (prs g f) x = tot L x by omega] at a4
    exact a4
  have hxn : tot L x % c ≠ 0 := by
    obtain ⟨p, hp', e'⟩ := List.mem_map.mp hx
    obtain ⟨j, ej⟩ := List.getElem?_of_mem hp'
    have hn := num_of hL.nd ej
    rw [e'] at hn
    have h2 := hL.rg p hp'
    rw [tot_num hL.nd, hn, Int.emod_eq_of_lt (by omega) h2.2]
    omega
  have hne : r ≠ [] := fun y => by
    subst y
    have := hp x
    rw [prs_nil_r, tot_nil, Int.zero_emod] at this
    exact hxn this.symm
  obtain ⟨v, hv, hall⟩ := prs_first hc hg hr hne
  have h1 : leR (h ++ v) x = true := hall x (fun y => hxn (by rw [← hp x, y, Int.zero_emod]))
  have h2 : leR x (h ++ v) = true := by
    rw [hp (h ++ v)] at hv
    by_cases hk : (h ++ v) ∈ L.map (·.1)
    · exact hmin _ hk
    · rw [tot_not hk, Int.zero_emod] at hv
      exact absurd rfl hv
  exact hb v (leR_anti h2 h1)
end Fp

set_option Elab.async false
set_option linter.all false
set_option maxRecDepth 100000
set_option maxHeartbeats 4000000
namespace Fp
open PySem PySem.Spec PyProof.Rows L2
theorem vt_again {c : Int} {m k : Nat} {l : Tb} (hc : 0 < c) (h : VT c m k l) : VT c m k (tidyM c l) ∧ Lk c (tidyM c l) l :=
  ⟨(vt_tidy hc h.nd h.wd).mono (Nat.le_refl _) h.ln, lk_tidy h.nd⟩
theorem canon_nil_iff {l : Tb} (h : Nd l) (hr : ∀ p ∈ l, 1 ≤ p.2) (hn : Nd (canon l)) (hr' : ∀ p ∈ canon l, 1 ≤ p.2) : canon l = [] ↔ l = [] := by
  have key : ∀ {a b : Tb}, Nd b → (∀ p ∈ b, 1 ≤ p.2) → (∀ x, num a x = num b x) → a = [] → b = [] := fun {a b} hb hp e z => by
    cases b with
    | nil => rfl
    | cons p r =>
      exfalso
      have h1 := num_of hb (i := 0) (p := p) rfl
      have h2 := e p.1
      rw [z, h1] at h2
      have h3 := hp p List.mem_cons_self
      have h4 : num [] p.1 = 0 := rfl
      omega
  exact ⟨key h hr (fun x => canon_num h x), key hn hr' (fun x => (canon_num h x).symm)⟩
theorem start_has {ws : List Str} {h v : Str} (hm : h ∈ ws) : (startOf ws (h ++ v)).isSome = true := by
  cases e : startOf ws (h ++ v) with
  | some s => rfl
  | none =>
    exfalso
    unfold startOf at e
    rw [List.findSome?_eq_none_iff] at e
    have hl : h.length ≤ (h ++ v).length := by rw [app_len]; omega
    have h1 := e h.length (List.mem_range.mpr (by omega))
    have h2 : cutS (h ++ v) none (some (h.length : Int)) = h := by
      refine PySem.W.str_of_cps ?_
      rw [cut_front_list hl, app_list, ← len_list h, List.take_left']
      rfl
    rw [h2, if_pos hm] at h1
    cases h1
/-! ### the lots of words that dividing keeps -/
theorem cut_app (a b : Str) : cutS (a ++ b) (some (a.length : Int)) none = b := by
  have hl : a.length ≤ (a ++ b).length := by rw [app_len]; omega
  have h2 : cutS (a ++ b) none (some (a.length : Int)) = a := by
    refine PySem.W.str_of_cps ?_
    rw [cut_front_list hl, app_list, ← len_list a, List.take_left']
    rfl
  have h3 := cut_both hl
  rw [h2] at h3
  exact str_cancel h3
/-- what stands at the end of a word -/
def ends (x : Str) : List Str := (List.range (x.length + 1)).map fun (n : Nat) => cutS x (some (n : Int)) none
theorem ends_mem {a b : Str} : b ∈ ends (a ++ b) := List.mem_map.mpr ⟨a.length, List.mem_range.mpr (by rw [app_len]; omega), cut_app a b⟩
theorem ends_app {x s : Str} (h : s ∈ ends x) : ∃ a, x = a ++ s := by
  obtain ⟨n, hn, rfl⟩ := List.mem_map.mp h
  have hn := List.mem_range.mp hn
  exact ⟨cutS x none (some (n : Int)), (cut_both (by omega)).symm⟩
theorem ends_len (x : Str) : (ends x).length = x.length + 1 := by
  unfold ends
  rw [List.length_map, List.length_range]
/-- the words of l, and pieces of g ahead of ends of these, none longer than m -/
def sufU (g l : Tb) (m : Nat) : List Str := l.map (·.1) ++ ((l.flatMap fun w => (ends w.1).flatMap fun s => (("" : Str) :: g.map (·.1)).map fun p => p ++ s).filter fun x => decide (x.length ≤ m))
theorem sufU_mem {g l : Tb} {m : Nat} {w p s : Str} (hw : w ∈ l.map (·.1)) (hs : s ∈ ends w) (hp : p = "" ∨ p ∈ g.map (·.1)) (h : (p ++ s).length ≤ m) : p ++ s ∈ sufU g l m := by
  obtain ⟨w', hw', rfl⟩ := List.mem_map.mp hw
  refine List.mem_append_right _ (List.mem_filter.mpr ⟨List.mem_flatMap.mpr ⟨w', hw', List.mem_flatMap.mpr ⟨s, hs, List.mem_map.mpr ⟨p, ?_, rfl⟩⟩⟩, decide_eq_true h⟩)
  rcases hp with rfl | hp
  · exact List.mem_cons_self
  · exact List.mem_cons_of_mem _ hp
theorem sum_le {α : Type} (f : α → Nat) (b : Nat) : ∀ l : List α, (∀ x ∈ l, f x ≤ b) → (l.map f).sum ≤ l.length * b
  | [], _ => Nat.zero_le _
  | x :: r, h => by
    have h1 := h x List.mem_cons_self
    have h2 := sum_le f b r fun y hy => h y (List.mem_cons_of_mem _ hy)
    rw [List.map_cons, List.sum_cons, List.length_cons, Nat.add_mul, Nat.one_mul]
    omega
theorem sufU_len {g l : Tb} {m : Nat} (hl : ∀ p ∈ l, p.1.length ≤ m) : (sufU g l m).length ≤ l.length + l.length * ((m + 1) * (g.length + 1)) := by
  unfold sufU
  rw [List.length_append, List.length_map]
  refine Nat.add_le_add_left (Nat.le_trans (List.length_filter_le _ _) ?_) _
  rw [List.length_flatMap]
  refine sum_le _ _ l fun w hw => ?_
  rw [List.length_flatMap]
  refine Nat.le_trans (sum_le _ (g.length + 1) (ends w.1) fun s _ => ?_) (Nat.mul_le_mul_right _ ?_)
  · rw [List.length_map, List.length_cons, List.length_map]
    exact Nat.le_refl _
  · rw [ends_len]
    exact Nat.add_le_add_right (hl w hw) 1
/-- as many letters: the one stands at the other's end -/
theorem end_of {h b p s : Str} (e : h ++ b = p ++ s) (hl : p.length ≤ h.length) : ∃ a, s = a ++ b := by
  have e2 : (h ++ b).cps.toList = (p ++ s).cps.toList := by rw [e]
  rw [app_list, app_list] at e2
  obtain ⟨a, h1, h2⟩ | ⟨a, h1, h2⟩ := List.append_eq_append_iff.mp e2
  · have : a = [] := by
      have := congrArg List.length h1
      rw [List.length_append, len_list, len_list] at this
      exact List.eq_nil_of_length_eq_zero (by omega)
    subst this
    refine ⟨"", ?_⟩
    rw [str_nil_l]
    refine PySem.W.str_of_cps ?_
    simpa using h2.symm
  · refine ⟨⟨⟨a⟩⟩, PySem.W.str_of_cps ?_⟩
    rw [app_list]
    exact h2
theorem sufU_le {c : Int} {m k mg kg : Nat} {g l : Tb} (vl : VT c m k l) (vg : VT c mg kg g) : (sufU g l m).length ≤ k + k * ((m + 1) * (kg + 1)) :=
  Nat.le_trans (sufU_len fun p hp => (vl.wd p hp).2) (Nat.add_le_add vl.ln (Nat.mul_le_mul vl.ln (Nat.mul_le_mul_left _ (Nat.add_le_add_right vg.ln 1))))
theorem uw_suf {c : Int} {m k mg kg : Nat} {g l : Tb} (vl : VT c m k l) (vg : VT c mg kg g) (hm : m ≤ 1000) (hn : k + k * ((m + 1) * (kg + 1)) ≤ 1000000) : UW g l m (sufU g l m) where
  len := by
    refine Nat.le_trans (sufU_len fun p hp => (vl.wd p hp).2) (Nat.le_trans ?_ hn)
    exact Nat.add_le_add vl.ln (Nat.mul_le_mul vl.ln (Nat.mul_le_mul_left _ (Nat.add_le_add_right vg.ln 1)))
  m := hm
  wl := fun x hx => by
    rcases List.mem_append.mp hx with hx | hx
    · obtain ⟨p, hp, rfl⟩ := List.mem_map.mp hx
      exact vl.wd p hp
    · obtain ⟨hx, hd⟩ := List.mem_filter.mp hx
      refine ⟨?_, of_decide_eq_true hd⟩
      obtain ⟨w, hw, hx⟩ := List.mem_flatMap.mp hx
      obtain ⟨s, hs, hx⟩ := List.mem_flatMap.mp hx
      obtain ⟨p, hp, rfl⟩ := List.mem_map.mp hx
      obtain ⟨a, ea⟩ := ends_app hs
      have h1 : xyz s := xyz_tail (a := a) (ea ▸ (vl.wd w hw).1)
      rcases List.mem_cons.mp hp with rfl | hp
      · rw [str_nil_l]
        exact h1
      · obtain ⟨p', hp', rfl⟩ := List.mem_map.mp hp
        exact xyz_app (vg.wd p' hp').1 h1
  sub := fun x hx => List.mem_append_left _ hx
  cl := fun h hh hmin b hb => by
    have key : ∃ w ∈ l.map (·.1), b ∈ ends w ∧ (h ++ b).length ≤ m := by
      rcases List.mem_append.mp hb with hb | hb
      · obtain ⟨p, hp, e⟩ := List.mem_map.mp hb
        exact ⟨h ++ b, hb, ends_mem, e ▸ (vl.wd p hp).2⟩
      · obtain ⟨hx, hd⟩ := List.mem_filter.mp hb
        obtain ⟨w, hw, hx⟩ := List.mem_flatMap.mp hx
        obtain ⟨s, hs, hx⟩ := List.mem_flatMap.mp hx
        obtain ⟨p, hp, e⟩ := List.mem_map.mp hx
        obtain ⟨a, ea⟩ := ends_app hs
        have hpl : p.length ≤ h.length := by
          rcases List.mem_cons.mp hp with rfl | hp
          · exact Nat.zero_le _
          · exact leR_len' (hmin p hp)
        obtain ⟨a', ea'⟩ := end_of e.symm hpl
        refine ⟨w.1, List.mem_map.mpr ⟨w, hw, rfl⟩, ?_, of_decide_eq_true hd⟩
        rw [ea, ea', ← str_assoc]
        exact ends_mem
    obtain ⟨w, hw, hbw, hlen⟩ := key
    rw [app_len] at hlen
    refine ⟨?_, fun y hy => sufU_mem hw hbw (.inr hy) ?_⟩
    · have := sufU_mem (g := g) (m := m) hw hbw (.inl rfl) (by rw [str_nil_l]; omega)
      rw [str_nil_l] at this
      exact this
    · rw [app_len]
      have := leR_len' (hmin y hy)
      omega
theorem uw_keys {g g' l l' : Tb} {M : Nat} {U : List Str} (h : UW g l M U) (hg : ∀ y, y ∈ g'.map (·.1) ↔ y ∈ g.map (·.1)) (hl : ∀ y, y ∈ l'.map (·.1) ↔ y ∈ l.map (·.1)) : UW g' l' M U :=
  ⟨h.len, h.m, h.wl, fun x hx => h.sub x ((hl x).mp hx), fun k hk hmin b hb => by
    obtain ⟨h1, h2⟩ := h.cl k ((hg k).mp hk) (fun y hy => hmin y ((hg y).mpr hy)) b hb
    exact ⟨h1, fun y hy => h2 y ((hg y).mp hy)⟩⟩
theorem canon_key {c : Int} {m k : Nat} {l : Tb} (v : VT c m k l) (y : Str) : y ∈ (canon l).map (·.1) ↔ y ∈ l.map (·.1) := by
  have v' := vt_canon v
  rw [rg_key v'.nd (fun p hp => (v'.nu p hp).1), rg_key v.nd (fun p hp => (v.nu p hp).1), canon_num v.nd]
section
variable {P : Program} {w : World} {K : PySem.W.Frag} {mg : Str → Option Value} {base : Heap}
def spRest (K : PySem.W.Frag) : Sp := fun vs H Q E => ∃ (a b : Addr) (c c' : Int) (g l : Tb) (m k mg kg M : Nat) (U : List Str), vs = [.ref a, .ref b] ∧ Bg K H a c mg kg g ∧ Bg K H b c' m k l ∧ isCk c ∧ k ≤ 2500 ∧ kg ≤ 100000 ∧ mg ≤ 1000 ∧
  (g = [] → E (.ref (He.ga K "IsNothing")) none H) ∧ (g ≠ [] → c ≠ c' → E (.ref (He.ga K "UnlikeClocks")) none H) ∧
  (g ≠ [] → c = c' → UW g l M U ∧ (∀ (H' : Hp) (r : Addr) (q : Tb), Same H H' → H r = none → Bg K H' r c M U.length q → Lk c l (prs g q) → Q (.ref r) H') ∧ (∀ H', Same H H' → (∀ q, ¬ Lk c l (prs g q)) → Q .non H'))
abbrev nRest : List Str := ["front", "bag", "quotient", "left"]
theorem sc_Rest : FnScope nRest ["front", "bag"] (defScope s_rest_behind) := ⟨rfl, rfl, rfl, by decide +kernel, rfl, by decide +kernel, by decide +kernel⟩
theorem ok_Rest (T : Top K mg) : OkX P w K mg base 8 "rest_behind" ["front", "bag"] (spRest K) := by
  obtain ⟨fd, F⟩ := fn_rest_behind T
  refine ⟨⟨fd, ?_, F.bindsN fun _ _ _ _ _ _ us hl => match us, hl with | [_, _], _ => rfl⟩, g_rest_behind T, F.kp⟩
  refine F.ok sc_Rest (fun vs H Q E h => ?_) (fun cdv A outer s H vs Q E hr h => ?_)
  · obtain ⟨a, b, c, c', g, l, m, k, mg, kg, M, U, rfl, _⟩ := h
    rfl
  · obtain ⟨a, b, c, c', g, l, m, k, mg, kg, M, U, rfl, h1, h2, hck, hk, hkg, hmg, q1, q2, q3⟩ := h
    have nd := sc_Rest.nd
    have hr1 : Room 1 _ := hr.mono (by decide)
    have hr6 : Room 6 _ := hr.mono (by decide)
    obtain ⟨hc2, hc7⟩ := ck_range hck
    refine ⟨_, pss_cons (ps_expr (pcX (takes_of rfl rfl rfl rfl) (ok_check_something T) hr1 (pa_cons (pv 0) pa_nil)))
      (pss_cons (ps_expr (pcX (takes_of rfl rfl rfl rfl) (ok_check_clocks T) hr1 (pa_cons (pv 0) (pa_cons (pv 1) pa_nil))))
      (pss_cons (ps_asg (pc (ok_Div T) hr6 (pa_cons (pc (ok_table_of T) hr1 (pa_cons (pv 1) pa_nil)) (pa_cons (pc (ok_table_of T) hr1 (pa_cons (pv 0) pa_nil)) (pa_cons (pe_fld (pv 1) rfl) pa_nil)))) (pg_tup rfl (pgs_cons (pg_name (i := 2) nd rfl (Or.inl rfl)) (pgs_cons (pg_name (i := 3) nd rfl (Or.inl rfl)) pgs_nil))))
      (pss_one (ps_ret (pe_ifExp (pt_truth (pv 3) (fun _ => rfl)) pe_non (pc (ok_bag_of T) hr (pa_cons (pe_fld (pv 1) rfl) (pa_cons (pv 2) pa_nil)))))))), ?_⟩
    have v1 := vt_canon h1.2
    have cn : canon g = [] ↔ g = [] := canon_nil_iff h1.2.nd (fun p hp => (h1.2.nu p hp).1) v1.nd (fun p hp => (v1.nu p hp).1)
    refine ⟨_, rfl, a, c, canon g, rfl, h1.1, fun hne => ?_, fun he => q1 (cn.mp he)⟩
    have hg0 : g ≠ [] := fun z => hne (cn.mpr z)
    refine ⟨_, rfl, _, rfl, a, b, c, c', _, _, rfl, h1.1, h2.1, fun hcc => ?_, fun hcc => q2 hg0 hcc⟩
    subst hcc
    obtain ⟨uw, q4, q5⟩ := q3 hg0 rfl
    have v1 := vt_canon h1.2
    have v2 := vt_canon h2.2
    obtain ⟨dx, t, eb, wb⟩ := id h2.1
    refine ⟨_, rfl, b, c, canon l, rfl, h2.1, v2.nd, fun D1 hD1 => ?_⟩
    have s1 := same_upd (o := .dK (kv (canon l))) hD1
    refine ⟨_, rfl, a, c, canon g, rfl, h1.1.same s1, v1.nd, fun D2 hD2 => ?_⟩
    have s2 := same_upd (o := .dK (kv (canon g))) hD2
    refine ⟨_, rfl, b, _, dx, _, _, rfl, s2 _ _ (s1 _ _ eb), cls_Bag T, na_Bag_clock T, flds_clock _ _, ?_⟩
    refine ⟨D1, D2, c, canon l, canon g, _, _, _, _, M, U, rfl, hck, s2 _ _ upd_same, upd_same, v2, v1, hk, hkg, hmg, hne, uw_keys uw (canon_key h1.2) (canon_key h2.2), fun H3 p qo le C a1 a2 ops h turn s3 np ep ele eqo hh hmin hinv ht1 htc hops n0 w0 n1 w1 hz => ?_⟩
    have s13 := (s1.trans s2).trans s3
    have hlk := run_lk v1.nd ops hops (canon l) [] v2.nd (show Nd [] from List.nodup_nil)
    generalize runT c 0 ops (canon l) = T0 at ele n0 w0 hz hlk
    generalize runT c 1 ops [] = T1 at eqo n1 w1 hlk
    have hlk2 : Lk c l (prs g (tidyM c T1) ++ tidyM c T0) := by
      have e1 : Lk c (canon l ++ prs (canon g) []) (canon l) := by
        rw [prs_nil_r, List.append_nil]
        exact Lk.refl _ _
      have e2 := (lk_canon h2.2.nd).symm.trans (hlk.trans e1).symm
      refine e2.trans fun x => ?_
      have e3 := Lk.app (Lk.prs (lk_canon h1.2.nd) (lk_tidy (c := c) n1).symm) (lk_tidy (c := c) n0).symm x
      rw [tot_app, tot_app] at e3
      rw [tot_app, tot_app, Int.add_comm]
      exact e3
    have ck : ∀ y, y ∈ (canon g).map (·.1) ↔ y ∈ g.map (·.1) := fun y => by
      rw [rg_key v1.nd (fun p hp => (v1.nu p hp).1), rg_key h1.2.nd (fun p hp => (h1.2.nu p hp).1), canon_num h1.2.nd]
    have hd : Hd c turn h g := ⟨h1.2.nd, (ck h).mp hh, fun y hy => hmin y ((ck y).mpr hy), by rw [canon_num h1.2.nd] at hinv; exact hinv⟩
    have h0 : Tt c (tidyM c T0) := ⟨tidy_nd n0, tidy_rg (by omega)⟩
    have hb : ∀ x ∈ (tidyM c T0).map (·.1), ∀ v, x ≠ h ++ v := fun x hx v e => by
      obtain ⟨p, hp, rfl⟩ := List.mem_map.mp hx
      obtain ⟨p', hp', e1, e2⟩ := tidy_keys hp
      have e3 : p.1 = p'.1 := by rw [e1]
      have h3 := hz p'.1 (List.mem_map.mpr ⟨p', hp', rfl⟩) (by rw [← e3, e]; exact start_has (List.mem_singleton.mpr rfl))
      obtain ⟨j, ej⟩ := List.getElem?_of_mem hp'
      rw [num_of n0 ej] at h3
      rw [h3, Int.zero_emod] at e2
      exact e2 rfl
    refine ⟨p, _, rfl, .inl (.inl ep), rfl, ?_⟩
    refine ⟨_, _, rfl, _, _, rfl, rfl, ?_⟩
    refine ⟨_, rfl, _, .inr (.inr ⟨_, ele, rfl⟩), ?_⟩
    cases et : tidyM c T0 with
    | nil =>
      refine iteF ?_
      rw [et, List.append_nil] at hlk2
      have half := tb_half n1 w1
      have tl := tidy_len (c := c) (l := T1)
      have ul := uw.len
      have um := uw.m
      have vt : VT c M U.length (tidyM c T1) := ⟨tidy_nd n1, tidy_rg (by omega), fun r hr => by
        obtain ⟨r', hr', e, _⟩ := tidy_keys hr
        rw [e]
        exact uw.wl _ (w1 r'.1 (List.mem_map.mpr ⟨r', hr', rfl⟩)), by omega⟩
      refine ⟨_, rfl, b, _, dx, _, _, rfl, s3 _ _ (s2 _ _ (s1 _ _ eb)), cls_Bag T, na_Bag_clock T, flds_clock _ _, ?_⟩
      refine ⟨_, rfl, c, qo, tidyM c T1, rfl, hck, eqo, tidy_nd n1, fun r hr => by have := (vt.wd r hr).2; omega, by omega, fun H4 r s4 n4 hb4 => ?_⟩
      obtain ⟨v3, v4⟩ := vt_again (show 0 < c by omega) vt
      exact q4 H4 r _ (s13.trans s4) (back_none8 s13 n4) ⟨hb4, v3⟩ (hlk2.trans (Lk.prs_r g v4.symm))
    | cons r0 rr =>
      refine iteT ?_
      refine q5 _ s13 fun q hq => ?_
      have := (div_one hc2 hd hlk2 h0 hb hq).1
      rw [et] at this
      cases this
end
end Fp

set_option Elab.async false
set_option linter.all false
set_option maxRecDepth 100000
set_option maxHeartbeats 4000000
namespace Fp
open PySem PySem.Spec PyProof.Rows L2
theorem tb_half12 {m : Nat} {t : Tb} (h : Nd t) (hw : ∀ x ∈ t.map (·.1), xyz x ∧ x.length ≤ m) : 2 * t.length < 3 ^ (m + 1) := by
  have h' : (t.map (·.1)).Nodup := h
  have := List.Nodup.length_le_of_subset h' (fun w hm => allW_mem m w (hw w hm).1 (hw w hm).2)
  rw [List.length_map] at this
  have := allW_half m
  omega
theorem ord_first {l : Tb} (h : l ≠ []) : ∃ x tl, ordW l = x :: tl ∧ x ∈ l.map (·.1) ∧ ∀ y ∈ l.map (·.1), leR x y = true := by
  cases e : ordW l with
  | nil =>
    have := ordW_len l
    rw [e] at this
    exact absurd (List.eq_nil_of_length_eq_zero this.symm) h
  | cons x tl =>
    have hs : (ordW l).Pairwise (fun a b => leR a b = true) := PySem.W.sort_pairwise leR_total _
    rw [e] at hs
    refine ⟨x, tl, rfl, ordW_mem.mp (e ▸ List.mem_cons_self), fun y hy => ?_⟩
    have hm : y ∈ ordW l := ordW_mem.mpr hy
    rw [e] at hm
    rcases List.mem_cons.mp hm with z | z
    · subst z
      rcases leR_total.total y y with z | z <;> exact z
    · exact (List.pairwise_cons.mp hs).1 _ z
/-- words behind some word of L -/
def muL (L : Tb) : Nat := ((allW 12).filter fun w => L.any fun p => leR p.1 w).length
theorem muL_lt {L L' : Tb} {x : Str} (hx : x ∈ L.map (·.1)) (hw : xyz x ∧ x.length ≤ 12) (hL : ∀ y ∈ L.map (·.1), leR x y = true) (h : ∀ y ∈ L'.map (·.1), leR x y = true ∧ x ≠ y) : muL L' < muL L := by
  unfold muL
  have hsub : ∀ w, (L'.any fun p => leR p.1 w) = true → (L.any fun p => leR p.1 w) = true := fun w hw' => by
    obtain ⟨p, hp, e⟩ := List.any_eq_true.mp hw'
    obtain ⟨q, hq, e2⟩ := List.mem_map.mp hx
    refine List.any_eq_true.mpr ⟨q, hq, ?_⟩
    rw [e2]
    exact leR_trans (h p.1 (List.mem_map.mpr ⟨p, hp, rfl⟩)).1 e
  have hxL : (L.any fun p => leR p.1 x) = true := by
    obtain ⟨q, hq, e2⟩ := List.mem_map.mp hx
    refine List.any_eq_true.mpr ⟨q, hq, ?_⟩
    rw [e2]
    rcases leR_total.total x x with z | z <;> exact z
  have hxL' : (L'.any fun p => leR p.1 x) = false := by
    cases e : L'.any fun p => leR p.1 x with
    | false => rfl
    | true =>
      obtain ⟨p, hp, e2⟩ := List.any_eq_true.mp e
      obtain ⟨z1, z2⟩ := h p.1 (List.mem_map.mpr ⟨p, hp, rfl⟩)
      exact absurd (leR_anti z1 e2) z2
  have hmem := allW_mem 12 x hw.1 hw.2
  rw [← List.countP_eq_length_filter, ← List.countP_eq_length_filter]
  clear hx hL h
  generalize allW 12 = W at hmem ⊢
  induction W with
  | nil => cases hmem
  | cons a r ih =>
    have mono : ∀ (r : List Str), r.countP (fun w => L'.any fun p => leR p.1 w) ≤ r.countP (fun w => L.any fun p => leR p.1 w) := fun r => List.countP_mono_left fun w _ => hsub w
    rw [List.countP_cons, List.countP_cons]
    rcases List.mem_cons.mp hmem with e | e
    · subst e
      rw [hxL, hxL']
      have := mono r
      simp
      omega
    · have h1 := ih e
      have h2 := hsub a
      cases e1 : L'.any fun p => leR p.1 a with
      | false =>
        rw [if_neg Bool.false_ne_true]
        split <;> omega
      | true =>
        rw [h2 e1]
        simp
        exact h1
theorem cut_le {z : Str} {k : Nat} : (cutS z none (some (k : Int))).length ≤ z.length := by
  rw [← len_list, ← len_list z]
  unfold cutS
  show (List.take _ (List.drop _ z.cps.toList)).length ≤ _
  rw [List.length_take, List.length_drop]
  omega
theorem key_prod {c : Int} {g : Tb} {v x : Str} {k : Nat} {m : Nat} (hc : 0 < c) (hg : VT c m k g) (hv : xyz v) (hx : x ∈ (prodM c g [(v, 1)]).map (·.1)) (hc2 : 2 ≤ c) : ∃ p ∈ g, x = p.1 ++ v := by
  have v2 : VT c v.length 1 [(v, 1)] := ⟨by show [v].Nodup; simp, fun q hq => by
    have : q = (v, (1 : Int)) := by simpa using hq
    subst this
    exact ⟨by show (1 : Int) ≤ 1; omega, by show (1 : Int) < c; omega⟩, fun q hq => by
    have : q = (v, (1 : Int)) := by simpa using hq
    subst this
    exact ⟨hv, Nat.le_refl _⟩, Nat.le_refl _⟩
  have vp := vt_prodM hc hg v2
  have h1 := (rg_key vp.nd (fun p hp => (vp.nu p hp).1) x).mp hx
  have h2 := lk_prod hc hg v2 x
  by_cases h3 : tot (prs g [(v, 1)]) x = 0
  · rw [tot_num vp.nd, h3, Int.zero_emod, num_mod hc vp] at h2
    exact absurd h2 h1
  · obtain ⟨p, hp, q, hq, e⟩ := prs_key h3
    have : q = (v, (1 : Int)) := by simpa using hq
    subst this
    exact ⟨p, hp, e⟩
def rInt1 : List V → Hp → VK → Prop := fun xs H Q => (∃ i, xs = [.int i] ∧ Q (.int i) H) ∨ ∃ k : Bool, xs = [.bl k] ∧ Q (.int (if k then 1 else 0)) H
section
variable {P : Program} {w : World} {K : PySem.W.Frag} {mg : Str → Option Value} {base : Heap}
def spLD : Sp := fun vs H Q _ => ∃ (c : Int) (f d : Addr) (g l : Tb), vs = [.int c, .ref f, .ref d] ∧ isCk c ∧ H f = some (.dK (kv g)) ∧ H d = some (.dK (kv l)) ∧ VT c 12 300 g ∧ VT c 12 300 l ∧ g ≠ [] ∧
  (∀ (H' : Hp) (r : Addr) (q : Tb), Same H H' → H r = none → H' r = some (.dK (kv q)) → VT c 12 1000000 q → Lk c l (prs g q) → Q (.ref r) H') ∧ (∀ H', Same H H' → (∀ q, ¬ Lk c l (prs g q)) → Q .non H')
abbrev nLD : List Str := ["_law_clock_here", "_law_front", "_law_bag", "_law_lead", "_law_left", "_law_found", "_law_word_here", "_law_number", "_law_k"]
end
end Fp

set_option Elab.async false
set_option linter.all false
set_option maxRecDepth 100000
set_option maxHeartbeats 4000000
namespace Fp
open PySem PySem.Spec PyProof.Rows L2
theorem scl_one (l : Tb) : scl 1 l = l := by
  unfold scl
  have : (fun p : Str × Int => ((p.1, 1 * p.2) : Str × Int)) = id := by
    funext p
    show ((p.1, 1 * p.2) : Str × Int) = p
    rw [Int.one_mul]
  rw [this, List.map_id]
theorem canon_len (l : Tb) : (canon l).length = l.length := by
  unfold canon
  rw [List.length_map, ordW_len]
/-- one table laid to another one, tidied -/
theorem vt_sum {c f : Int} {m k m' k' : Nat} {l l' : Tb} (hc : 0 < c) (h : VT c m k l) (h' : VT c m' k' l') : VT c (max m m') (k + k') (tidyM c (addT (scl f l') l)) ∧ Lk c (tidyM c (addT (scl f l') l)) (l ++ scl f l') := by
  have n1 := nd_addT (scl f l') l h.nd
  refine ⟨(vt_tidy (m := max m m') hc n1 fun p hp => ?_).mono (Nat.le_refl _) ?_, (lk_tidy n1).trans (lk_addT h.nd)⟩
  · rcases key_addT _ _ p hp with ⟨q, h1, h2⟩ | ⟨q, h1, h2⟩
    · rw [← h2]
      have := h.wd q h1
      exact ⟨this.1, by omega⟩
    · unfold scl at h1
      obtain ⟨r, h3, rfl⟩ := List.mem_map.mp h1
      rw [← h2]
      have := h'.wd r h3
      exact ⟨this.1, by show r.1.length ≤ _; omega⟩
  · have := len_addT (scl f l') l
    rw [scl_len] at this
    have := h.ln
    have := h'.ln
    omega
/-- one table behind another one, tidied -/
theorem vt_mul {c : Int} {m k m' k' : Nat} {l l' : Tb} (hc : 0 < c) (h : VT c m k l) (h' : VT c m' k' l') : VT c (m + m') (k * k') (tidyM c (multT l l')) ∧ Lk c (tidyM c (multT l l')) (prs l l') := by
  have n1 : Nd (multT l l') := nd_addT _ _ (show Nd [] from List.nodup_nil)
  have e : Lk c (multT l l') (prs l l') := lk_addT (a := []) (show Nd [] from List.nodup_nil)
  refine ⟨(vt_tidy (m := m + m') hc n1 fun p hp => ?_).mono (Nat.le_refl _) ?_, (lk_tidy n1).trans e⟩
  · rcases key_addT _ _ p hp with ⟨q, h1, h2⟩ | ⟨q, h1, h2⟩
    · cases h1
    · unfold prs at h1
      obtain ⟨r, h3, h4⟩ := List.mem_flatMap.mp h1
      obtain ⟨s, h5, rfl⟩ := List.mem_map.mp h4
      rw [← h2]
      have a1 := h.wd r h3
      have a2 := h'.wd s h5
      refine ⟨xyz_app a1.1 a2.1, ?_⟩
      show (r.1 ++ s.1).length ≤ _
      rw [len_app]
      omega
  · have := len_addT (prs l l') []
    rw [prs_len] at this
    have b4 : ([] : Tb).length = 0 := rfl
    have b5 : l.length * l'.length ≤ k * k' := Nat.mul_le_mul h.ln h'.ln
    unfold multT
    omega
section
variable {P : Program} {w : World} {K : PySem.W.Frag} {mg : Str → Option Value} {base : Heap}
def spTog (K : PySem.W.Frag) : Sp := fun vs H Q E => ∃ (a b : Addr) (c c' : Int) (m k m' k' : Nat) (l l' : Tb), vs = [.ref a, .ref b] ∧ Bg K H a c m k l ∧ Bg K H b c' m' k' l' ∧ isCk c ∧ m ≤ 1000 ∧ m' ≤ 1000 ∧ k + k' ≤ 400000 ∧
  (c = c' → ∀ H' r t, Same H H' → H r = none → Bg K H' r c (max m m') (k + k') t → Lk c t (l ++ l') → Q (.ref r) H') ∧ (c ≠ c' → E (.ref (He.ga K "UnlikeClocks")) none H)
abbrev nTog : List Str := ["one", "other"]
def spBeh (K : PySem.W.Frag) : Sp := fun vs H Q E => ∃ (a b : Addr) (c c' : Int) (m k m' k' : Nat) (l l' : Tb), vs = [.ref a, .ref b] ∧ Bg K H a c m k l ∧ Bg K H b c' m' k' l' ∧ isCk c ∧ m ≤ 1000 ∧ m' ≤ 1000 ∧ k * k' ≤ 900000 ∧
  (c = c' → ∀ H' r t, Same H H' → H r = none → Bg K H' r c (m + m') (k * k') t → Lk c t (prs l l') → Q (.ref r) H') ∧ (c ≠ c' → E (.ref (He.ga K "UnlikeClocks")) none H)
/-! ### powers -/
theorem vt_unit {c : Int} (hc : 2 ≤ c) (m : Nat) : VT c m 1 [("", 1)] := ⟨by show [(("" : Str))].Nodup; simp, fun q hq => by
    have : q = (("" : Str), (1 : Int)) := by simpa using hq
    subst this
    exact ⟨by decide, by show (1 : Int) < c; omega⟩, fun q hq => by
    have : q = (("" : Str), (1 : Int)) := by simpa using hq
    subst this
    exact ⟨by decide +kernel, Nat.zero_le _⟩, Nat.le_refl _⟩
end
end Fp

set_option Elab.async false
set_option linter.all false
set_option maxRecDepth 100000
set_option maxHeartbeats 4000000
namespace Fp
open PySem PySem.Spec PyProof.Rows L2
theorem vt_scl {c f : Int} {m k : Nat} {l : Tb} (hc : 0 < c) (h : VT c m k l) : VT c m k (tidyM c (scl f l)) ∧ Lk c (tidyM c (scl f l)) (scl f l) := by
  have n1 := scl_nd (f := f) h.nd
  refine ⟨(vt_tidy hc n1 fun p hp => ?_).mono (Nat.le_refl _) (by rw [scl_len]; exact h.ln), lk_tidy n1⟩
  unfold scl at hp
  obtain ⟨q, hq, rfl⟩ := List.mem_map.mp hp
  exact h.wd q hq
section
variable {P : Program} {w : World} {K : PySem.W.Frag} {mg : Str → Option Value} {base : Heap}
def spTimes (K : PySem.W.Frag) : Sp := fun vs H Q _ => ∃ (a : Addr) (n c : Int) (m k : Nat) (l : Tb), vs = [.ref a, .int n] ∧ Bg K H a c m k l ∧ isCk c ∧ m ≤ 100000 ∧ k ≤ 900000 ∧
  ∀ H' r t, Same H H' → H r = none → Bg K H' r c m k t → Lk c t (scl n l) → Q (.ref r) H'
abbrev nTimes : List Str := ["bag", "number"]
end
end Fp

set_option Elab.async false
set_option linter.all false
set_option maxRecDepth 100000
set_option maxHeartbeats 2000000
/-! a text told backward: s[::-1] -/
namespace L2
open PySem PySem.Spec PyProof.Rows
def revS (z : Str) : Str := ⟨z.cps.toList.reverse.toArray⟩
theorem revS_len (z : Str) : (revS z).length = z.length := by
  show (z.cps.toList.reverse.toArray).size = z.cps.size
  simp
theorem rev_ix (z : Str) : ((Builtin.Str.strSliceIndices none none (-1) z.length).filterMap (z.cps[·]?)).toArray = (revS z).cps := by
  show ((sliceRange ((z.cps.size : Int) - 1) (-1) (-1)).filterMap (z.cps[·]?)).toArray = _
  rw [PySem.W.krv_sliceRange, PySem.W.krv_range, List.filterMap_reverse, PySem.W.krv_all]
  rfl
def tRevS (te : TE) : TE := fun σ H Q => te σ H fun x H1 => ∃ z, x = .str z ∧ z.length ≤ sizeLine ∧ Q (.str (revS z)) H1
theorem pe_revS {X : Cx} {e : Expr} {te : TE} {k : Nat} {p1 p2 p3 pos : Pos} (he : PE X e te) : PE X (.Subscript e (.Slice none none (some (.UnaryOp .USub (.Constant (.int 1) k p1) p2)) p3) pos) (tRevS te) := by
  refine ⟨fun pins s σ H Q I h => ?_⟩
  refine Subscript_ (thn (he.run pins s σ H _ I h) fun v s1 ⟨x, H1, I1, r1, q1⟩ => ?_)
  obtain ⟨z, ex, hz, q⟩ := q1
  subst ex
  obtain ⟨t, rfl⟩ := r1
  have hst : PO X (some (.UnaryOp .USub (.Constant (.int 1) k p1) p2)) (tPart (tUn (rU fun i => .int (-i)) (tC (.int 1)))) := po_some (pe_un un_neg pe_int)
  refine wpAny_Slice (thn (po_none.run pins s1 σ H1 (fun o H2 => o = none ∧ H2 = H1) I1 ⟨rfl, rfl⟩) fun vl s2 ⟨l, H2, I2, pl, el, e2⟩ => ?_)
  subst el e2
  refine thn (po_none.run pins s2 σ H2 (fun o H3 => o = none ∧ H3 = H2) I2 ⟨rfl, rfl⟩) fun vu s3 ⟨u, H3, I3, pu, eu, e3⟩ => ?_
  subst eu e3
  refine thn (hst.run pins s3 σ H3 (fun o H4 => o = some (-1) ∧ H4 = H3) I3 ⟨1, rfl, -1, rfl, rfl, rfl⟩) fun vs s4 ⟨o, H4, I4, ps, eo, e4⟩ => ?_
  subst eo e4
  have I5 : Inv X pins σ H4 { s4 with heap := s4.heap.push { cls := .type "slice", data := .fields #[vl, vu, vs] } } := I4.kept (t' := s4.toks) fun b ob q => Heap.get?_push_of_some _ q
  obtain ⟨l, rfl, hl⟩ := IsPart.raw pl
  obtain ⟨u, rfl, hu⟩ := IsPart.raw pu
  obtain ⟨st, rfl, hst'⟩ := IsPart.raw ps
  show wpAny (model X.prog X.w) X.A (subscriptTail e (.Slice none none (some (.UnaryOp .USub (.Constant (.int 1) k p1) p2)) p3) (.str z t) (.ref s4.heap.objs.size)) (EP X pins σ Q) X.xe { s4 with heap := s4.heap.push { cls := .type "slice", data := .fields #[partValue l, partValue u, partValue st] } }
  refine tail_any (ops := [.str z t, .ref s4.heap.objs.size]) (typeIs_str _ z t) (F.slot_str_getitem.lookup) ?_ (by with_unfolding_all rfl)
  refine wpAny_getItem_str_slice (l := l) (u := u) (st := st) ⟨_, Heap.get?_push_size _ rfl, rfl, rfl⟩ (by rw [hst'] <;> rfl) ?_
  have e1 : (st.map (·.1)).getD 1 = -1 := by rw [hst'] <;> rfl
  show Made.post (if (((st.map (·.1)).getD 1) == 1 && (Builtin.Str.strSliceIndices (l.map (·.1)) (u.map (·.1)) ((st.map (·.1)).getD 1) z.length).length == z.length) = true then Made.val (.str z t)
    else Made.str ⟨((Builtin.Str.strSliceIndices (l.map (·.1)) (u.map (·.1)) ((st.map (·.1)).getD 1) z.length).filterMap (z.cps[·]?)).toArray⟩) (EP X pins σ Q) _
  rw [e1, hl, hu, if_neg (by simp), rev_ix]
  refine ⟨?_, .str _, H4, I5.tok _, ⟨_, rfl⟩, q⟩
  show (revS z).length ≤ sizeLine
  rw [revS_len]
  exact hz
end L2

set_option Elab.async false
set_option linter.all false
set_option maxRecDepth 100000
set_option maxHeartbeats 4000000
namespace Fp
open PySem PySem.Spec PyProof.Rows L2
/-! ### words told backward -/
theorem cps_app (u v : Str) : (u ++ v).cps.toList = u.cps.toList ++ v.cps.toList := by
  show (u.cps ++ v.cps).toList = _
  exact Array.toList_append
theorem revS_cps (u : Str) : (revS u).cps.toList = u.cps.toList.reverse := rfl
theorem revS_revS (u : Str) : revS (revS u) = u := PySem.W.str_of_cps (by rw [revS_cps, revS_cps, List.reverse_reverse])
theorem revS_app (u v : Str) : revS (u ++ v) = revS v ++ revS u := PySem.W.str_of_cps (by rw [revS_cps, cps_app, cps_app, revS_cps, revS_cps, List.reverse_append])
theorem revS_inj {u v : Str} (h : revS u = revS v) : u = v := by rw [← revS_revS u, h, revS_revS]
theorem xyz_rev {u : Str} (h : xyz u) : xyz (revS u) := fun c hc => h c (by rw [revS_cps] at hc; exact List.mem_reverse.mp hc)
def revT (l : Tb) : Tb := l.map fun p => (revS p.1, p.2)
theorem revT_cons (p : Str × Int) (l : Tb) : revT (p :: l) = (revS p.1, p.2) :: revT l := rfl
theorem revT_revT (l : Tb) : revT (revT l) = l := by
  unfold revT
  rw [List.map_map]
  have : ((fun p : Str × Int => ((revS p.1, p.2) : Str × Int)) ∘ fun p : Str × Int => ((revS p.1, p.2) : Str × Int)) = id := by
    funext p
    show ((revS (revS p.1), p.2) : Str × Int) = p
    rw [revS_revS]
  rw [this, List.map_id]
theorem revT_tot (l : Tb) (x : Str) : tot (revT l) x = tot l (revS x) := by
  induction l with
  | nil => rfl
  | cons p r ih =>
    rw [revT_cons, tot_cons, tot_cons, ih]
    by_cases h : p.1 = revS x
    · rw [if_pos h, if_pos (show revS p.1 = x by rw [h, revS_revS])]
    · rw [if_neg h, if_neg (show ¬ revS p.1 = x from fun z => h (by rw [← z, revS_revS]))]
theorem Lk.rev {c : Int} {l l' : Tb} (h : Lk c l l') : Lk c (revT l) (revT l') := fun x => by rw [revT_tot, revT_tot, h]
theorem revT_app (l m : Tb) : revT (l ++ m) = revT l ++ revT m := List.map_append
theorem revT_fwd (p : Str × Int) (m : Tb) : revT (fwd p m) = bwd (revS p.1, p.2) (revT m) := by
  unfold revT fwd bwd
  rw [List.map_map, List.map_map]
  apply List.map_congr_left
  intro q _
  show ((revS (p.1 ++ q.1), p.2 * q.2) : Str × Int) = (revS q.1 ++ revS p.1, q.2 * p.2)
  rw [revS_app, Int.mul_comm]
theorem revT_prs (l m : Tb) (x : Str) : tot (revT (prs l m)) x = tot (prs (revT m) (revT l)) x := by
  induction l with
  | nil =>
    show tot (revT []) x = tot (prs (revT m) []) x
    rw [prs_nil_r]
    rfl
  | cons p r ih =>
    rw [revT_cons, tot_prs_cons_r, prs_cons, revT_app, tot_app, ih]
    congr 1
    show tot (revT (fwd p m)) x = _
    rw [revT_fwd]
theorem revT_nd {l : Tb} (h : Nd l) : Nd (revT l) := by
  unfold Nd revT
  rw [List.map_map]
  show (l.map (revS ∘ fun p => p.1)).Nodup
  rw [← List.map_map]
  exact List.Pairwise.map revS (fun a b hab z => hab (revS_inj z)) h
theorem vt_rev {c : Int} {m k : Nat} {l : Tb} (h : VT c m k l) : VT c m k (revT l) :=
  ⟨revT_nd h.nd, fun p hp => by
    obtain ⟨q, hq, rfl⟩ := List.mem_map.mp hp
    exact h.nu q hq, fun p hp => by
    obtain ⟨q, hq, rfl⟩ := List.mem_map.mp hp
    refine ⟨xyz_rev (h.wd q hq).1, ?_⟩
    show (revS q.1).length ≤ m
    rw [revS_len]
    exact (h.wd q hq).2, by
    unfold revT
    rw [List.length_map]
    exact h.ln⟩
theorem revT_take {l : Tb} {i : Nat} {p : Str × Int} (e : l[i]? = some p) : revT (l.take (i + 1)) = revT (l.take i) ++ [(revS p.1, p.2)] := by
  rw [List.take_add_one, e, revT_app]
  rfl
/-! ### sums over words -/
end Fp

set_option Elab.async false
set_option linter.all false
set_option maxRecDepth 100000
set_option maxHeartbeats 2000000
/-! y = {k: v for ..}, y a name of the def -/
namespace L2
open PySem PySem.Spec PyProof.Rows
section
variable {X : Cx}
theorem sw_dict {ke ve : Expr} {cs : List Comprehension} {sco : Scope} {q qy : Pos} {nm : Str} {ln : Nat} {en : Env} (h1 : en.scope.kind = .function) (h2 : en.scope.names.lookup nm = some .local) (h3 : (qy.line == q.line) = true)
    (h4 : (sco.names.any fun (a, b) => a == nm && (b == .local || b == .cell)) = false) : swapsWith (.DictComp ke ve cs sco q) (some (.Name nm qy)) ln en = pure true := by
  have f1 : en.kindOf nm = some .local := h2
  have f2 : en.blockKind = .function := by unfold Env.blockKind; rw [h1] <;> rfl
  unfold swapsWith
  simp only [f1, f2, h4, h3, Expr.pos]
  rfl
theorem ps_setDc {j : Nat} {nm : Str} {qy : Pos} {ke ve tgt itr : Expr} {conds : List Expr} {sco : Scope} {mine : List (Str × Nat)} {q sq : Pos} {ti : TI} {tg : TG} {tc : TT} {t1 t2 : TE} (calm : X.calm = true) (nN : X.N.Nodup) (at_ : X.N[j]? = some nm) (loc : X.env.scope.names.lookup nm = some .local)
    (sw : swapsWith (.DictComp ke ve [⟨tgt, itr, conds, 0⟩] sco q) (some (.Name nm qy)) sq.line X.env = pure true) (pi : PI X tgt itr ti) (bo : BlkOk X.N X.env.scope sco mine)
    (g1 : ∀ (s : Shared) (H : Hp) (C : Addr) (cl : List (Str × Addr)) (fp : List Addr), PG (X.blk s H sco (compEnvC sco cl C X.env) fp) tgt tg) (g2 : ∀ (s : Shared) (H : Hp) (C : Addr) (cl : List (Str × Addr)) (fp : List Addr), PTs (X.blk s H sco (compEnvC sco cl C X.env) fp) conds tc)
    (g3 : ∀ (s : Shared) (H : Hp) (C : Addr) (cl : List (Str × Addr)) (fp : List Addr), PE (X.blk s H sco (compEnvC sco cl C X.env) fp) ke t1) (g4 : ∀ (s : Shared) (H : Hp) (C : Addr) (cl : List (Str × Addr)) (fp : List Addr), PE (X.blk s H sco (compEnvC sco cl C X.env) fp) ve t2)
    (fo : ∀ y, foldedSetIterable itr X.env y = pure y := by intro _; rfl) :
    PS X (.Assign [.Name nm qy] (.DictComp ke ve [⟨tgt, itr, conds, 0⟩] sco q) sq) (tAsg (tDc ti tg tc t1 t2 (mine.map (·.2))) (gName j)) := by
  constructor
  intro pn st sl hp ends inv rd
  rw [exec_Assign_Name_used _ _ _ _ sw]
  refine wpAny_bind (wpAny_standAt ?_)
  refine wpAny_bind ?_
  show wpAny _ X.A (do let _ ← comprehension (.DictComp ke ve [⟨tgt, itr, conds, 0⟩] sco q) sco X.env (firstIterPos [⟨tgt, itr, conds, 0⟩] q) newDict false (eval itr X.env) (some (assign (.Name nm qy) X.env))) _ _ st
  have rd' : tDc ti tg tc t1 t2 (mine.map (·.2)) sl hp (fun x H1 => gName j x sl H1 ends.nx) := rd
  refine wpAny_bind (thn (dc_core (Qf := fun _ st' => SP X pn ends .next st') calm nN inv pi bo g1 g2 g3 g4 fo rd' fun D C st1 mm hp1 inv1 q1 ns fr => ?_) fun _ st' hq => ?_)
  · show wpAny _ _ (assign (.Name nm qy) X.env (.ref D)) _ _ _
    refine wpAny_assign_Name (store_ok2 (v := V.ref D) inv1 nN at_ (.inl loc) rfl (fun st2 inv2 ⟨b, sb, hb⟩ => ?_) (.inr loc))
    obtain ⟨a0, a1, a2, a3, a4, a5⟩ := fr
    have cb : C ≠ b := by
      rcases hb with z | z
      · rw [z]
        exact a1
      · exact fun e => a4 nm b z e.symm
    refine ⟨mm, ns.sameBut sb cb, fun h3 sb3 => ⟨_, hp1, inv2.turned (t' := st2.toks) (fun b o nb e => (sb3.2 b nb).trans e) a0 a1 a3 a4 a5, q1⟩⟩
  · exact wpAny_pure (wpAny_pure hq)
end
end L2

set_option Elab.async false
set_option linter.all false
set_option maxRecDepth 100000
set_option maxHeartbeats 4000000
namespace Fp
open PySem PySem.Spec PyProof.Rows L2
section
variable {P : Program} {w : World} {K : PySem.W.Frag} {mg : Str → Option Value} {base : Heap}
theorem nd_prefix_has {l : Tb} (h : Nd l) {i : Nat} {p : Str × Int} (e : l[i]? = some p) : has (l.take i) p.1 = false := by
  cases z : has (l.take i) p.1 with
  | false => rfl
  | true =>
    exfalso
    have h1 : Nd (l.take (i + 1)) := by
      unfold Nd
      rw [List.map_take]
      exact (List.take_sublist _ _).nodup h
    unfold Nd at h1
    rw [List.take_add_one, e, List.map_append] at h1
    exact (List.nodup_append.mp h1).2.2 p.1 (has_iff.mp z) p.1 (by simp) rfl
def spMir (K : PySem.W.Frag) : Sp := fun vs H Q _ => ∃ (a : Addr) (c : Int) (m k : Nat) (l : Tb), vs = [.ref a] ∧ Bg K H a c m k l ∧ isCk c ∧ m ≤ 100000 ∧ k ≤ 1000000 ∧
  ∀ H' b t, Same H H' → H b = none → Bg K H' b c m k t → Lk c t (revT l) → Q (.ref b) H'
abbrev nMir : List Str := ["bag", "word", "number"]
theorem sc_mirrored : FnScope nMir ["bag"] (defScope s_mirrored) := ⟨rfl, rfl, rfl, by decide +kernel, rfl, by decide +kernel, by decide +kernel⟩
theorem ok_mirrored (T : Top K mg) : Ok P w K mg base 8 "mirrored" ["bag"] (spMir K) := by
  obtain ⟨fd, F⟩ := fn_mirrored T
  refine ⟨⟨fd, ?_, F.bindsN fun _ _ _ _ _ _ us hl => match us, hl with | [_], _ => rfl⟩, g_mirrored T, F.kp⟩
  refine F.ok sc_mirrored (fun vs H Q E h => ?_) (fun cdv A outer s H vs Q E hr h => ?_)
  · obtain ⟨a, c, m, k, l, rfl, _⟩ := h
    rfl
  · obtain ⟨a, c, m, k, l, rfl, hb, hck, hm, hk, q⟩ := h
    have nd := sc_mirrored.nd
    have hs : sizeLine = 16777216 := sizeLine_eq
    obtain ⟨hc2, hc7⟩ := ck_range hck
    have hc0 : 0 < c := by omega
    obtain ⟨dx, t, ea, wt⟩ := id hb.1
    have vc := vt_canon hb.2
    have vr := vt_rev vc
    obtain ⟨ps, o, e1, e2, e3⟩ := WordsAt.get wt
    refine ⟨_, PSs.nox (pss_one (ps_ret (pc (ok_bag_of T) hr (pa_cons (pe_fld (pv 0) rfl) (pa_cons (pe_dc (own := [("word", 1), ("number", 2)]) (g := gPair K 1 2) (tt := tYes) (tk := tRevS (tVar 1)) (tv := tVar 2) rfl nd (pi_tup (pe_fld (pv 0) rfl)) (blkOk_by (N := nMir) (sc := defScope s_mirrored) (by decide +kernel))
        (fun _ _ _ _ _ => pg_tup rfl (pgs_cons (pg_name (i := 1) nd rfl (Or.inl rfl)) (pgs_cons (pg_name (i := 2) nd rfl (Or.inl rfl)) pgs_nil)))
        (fun _ _ _ _ _ => by exact pts_nil) (fun _ _ _ _ _ => by exact pe_revS (pv 1)) (fun _ _ _ _ _ => pv 2)) pa_nil))))), ?_⟩
    refine ⟨_, rfl, a, _, dx, _, _, rfl, ea, cls_Bag T, na_Bag_clock T, flds_clock _ _, ?_⟩
    refine ⟨_, rfl, a, _, dx, _, _, rfl, ea, cls_Bag T, na_Bag_words T, flds_words _ _, ?_⟩
    refine ⟨t, rfl, ⟨_, .inl (.inr ⟨o, e1⟩)⟩, fun D hD => ?_⟩
    refine dc_it (walk_tup (xs := ps.map V.ref)) (fun i H' => H' D = some (.dK (kv (revT ((canon l).take i)))) ∧ Same H H') ⟨upd_same, same_upd hD⟩ (fun i H' _ hP => .inl (.inr ⟨o, hP.2 _ _ e1⟩)) ?_ ?_
    · rintro i x H1 H2 hi ⟨p1, p2⟩ ⟨rfl, e⟩
      rw [List.length_map, e2] at hi
      have ep : (canon l)[i]? = some (canon l)[i] := List.getElem?_eq_getElem hi
      generalize (canon l)[i] = p at ep
      obtain ⟨b, h1, h2⟩ := e3 i p ep
      rw [List.getElem?_map, h1] at e
      have e5 : V.ref b = x := Option.some.inj e
      subst e5
      have hp : p ∈ canon l := List.mem_of_getElem? ep
      have hw := (vc.wd p hp).2
      have hil : i < 1000000 := Nat.lt_of_lt_of_le hi (Nat.le_trans vc.ln hk)
      refine ⟨b, _, rfl, .inl (.inl (p2 _ _ h2)), rfl, ?_⟩
      refine ⟨_, _, rfl, _, _, rfl, rfl, rfl, ?_⟩
      have hh : has (revT ((canon l).take i)) (revS p.1) = false := by
        rw [← Bool.not_eq_true, has_iff]
        intro hm'
        obtain ⟨q0, h3, h4⟩ := List.mem_map.mp hm'
        obtain ⟨q1, h5, rfl⟩ := List.mem_map.mp h3
        have h6 : has ((canon l).take i) p.1 = true := has_iff.mpr (List.mem_map.mpr ⟨q1, h5, revS_inj h4⟩)
        rw [nd_prefix_has vc.nd ep] at h6
        cases h6
      refine ⟨_, rfl, _, rfl, by omega, _, rfl, _, Sum.inr (revS p.1), rfl, p1, ?_, ?_, fun y u z => ?_⟩
      · rw [kv_len]
        unfold revT
        rw [List.length_map, List.length_take]
        omega
      · rw [upd_same, putK_kv, revT_take ep]
        unfold putT
        rw [hh, if_neg Bool.false_ne_true]
      · rw [upd_ne (ne_of_none z hD)]
        exact p2 y u z
    · rintro H' ⟨p1, p2⟩
      rw [List.length_map, e2, List.take_length] at p1
      obtain ⟨w3, w4⟩ := vt_again hc0 vr
      refine ⟨c, D, _, rfl, hck, p1, vr.nd, fun p hp => Nat.le_trans (vr.wd p hp).2 (by omega), Nat.le_trans vr.ln (by omega), fun H4 b s4 n4 hb4 => ?_⟩
      exact q H4 b _ (p2.trans s4) (p2.free n4) ⟨hb4, w3⟩ (w4.trans (Lk.rev (lk_canon hb.2.nd)))
end
end Fp

set_option Elab.async false
set_option linter.all false
set_option maxRecDepth 100000
set_option maxHeartbeats 4000000
namespace L2
open PySem PySem.Spec PyProof.Rows
section
variable {X : Cx}
theorem PE.weak {e : Expr} {t t' : TE} (h : PE X e t) (w : ∀ σ H Q, t' σ H Q → t σ H Q) : PE X e t' := ⟨fun pins s σ H Q I hw => h.run pins s σ H Q I (w σ H Q hw)⟩
theorem PS.weak {e : Stmt} {t t' : TS} (h : PS X e t) (w : ∀ D σ H, t' D σ H → t D σ H) : PS X e t' := ⟨fun pins s σ H D I hw => h.run pins s σ H D I (w D σ H hw)⟩
theorem PSs.weak {e : List Stmt} {t t' : TS} (h : PSs X e t) (w : ∀ D σ H, t' D σ H → t D σ H) : PSs X e t' := ⟨fun pins s σ H D I hw => h.run pins s σ H D I (w D σ H hw)⟩
def rNeP (K : PySem.W.Frag) : R2 := fun x y H Q => ∃ d e, Dp K H x d ∧ Dp K H y e ∧ d.plain = true ∧ e.plain = true ∧ d.depth ≤ 64 ∧ Q (.bl (!PyData.eqv d e)) H
theorem op_neP (hu : X.A.units + 64 < cLine) : OpR X (compareOp .NotEq) (rNeP X.K) := by
  intro pins s σ H x y v u Q I rx ry h
  obtain ⟨d, e, hd, he, sd, se, hdp, q⟩ := h
  obtain ⟨as, r1⟩ := Dp.reads I d x v hd rx
  obtain ⟨bs, r2⟩ := Dp.reads I e y u he ry
  exact SeqAt.ne_plain r1 r2 sd se (by omega) ⟨.bl _, H, I, rfl, q⟩
end
end L2
namespace Fp
open PySem PySem.Spec PyProof.Rows L2
theorem head_of {c : Int} {m k : Nat} {g : Tb} (hck : isCk c) (vg : VT c m k g) (hne : g ≠ []) : ∃ turn h, Hd c turn h g := by
  obtain ⟨hc2, hc7⟩ := ck_range hck
  obtain ⟨h, tl, eo, hh, hmin⟩ := ord_first hne
  have hgn : 1 ≤ num g h ∧ num g h < c := by
    obtain ⟨p, hp, e⟩ := List.mem_map.mp hh
    obtain ⟨j, ej⟩ := List.getElem?_of_mem hp
    rw [← e, num_of vg.nd ej]
    exact vg.nu p hp
  obtain ⟨nsv, _, hinv⟩ := inv_get hck
  obtain ⟨tn, _, _, _, hti⟩ := hinv (num g h).toNat (by omega)
  have hti := (hti (by omega)).1
  rw [Int.toNat_of_nonneg (by omega)] at hti
  exact ⟨tn, h, vg.nd, hh, hmin, hti⟩
/-- one quotient only -/
theorem quot_one {c : Int} {m k : Nat} {g l q r : Tb} (hck : isCk c) (vg : VT c m k g) (hne : g ≠ []) (e : Lk c l (prs g q)) (f : Lk c l (prs g r)) : Lk c q r := by
  obtain ⟨turn, h, hd⟩ := head_of hck vg hne
  refine (div_one (T0 := []) (ck_range hck).1 hd (by rw [List.append_nil]; exact e) ⟨List.nodup_nil, fun p hp => by cases hp⟩ (fun x hx => by cases hx) f).2
theorem revT_prs_lk {c : Int} (l m : Tb) : Lk c (revT (prs l m)) (prs (revT m) (revT l)) := fun x => by rw [revT_prs]
theorem revT_ne {l : Tb} (h : l ≠ []) : revT l ≠ [] := fun z => h (by
  have := congrArg revT z
  rw [revT_revT] at this
  exact this)
/-- not nothing by the clock -/
theorem lk_ne {c : Int} {m k m' k' : Nat} {l t : Tb} (hc : 0 < c) (vl : VT c m k l) (vt : VT c m' k' t) (e : Lk c t l) (h : l ≠ []) : t ≠ [] := fun z => by
  have e2 := lk_same hc vt vl e
  subst z
  have := congrArg List.length e2
  rw [canon_len, canon_len] at this
  exact h (List.eq_nil_of_length_eq_zero this.symm)
theorem quot_one_r {c : Int} {m k : Nat} {g l q r : Tb} (hck : isCk c) (vg : VT c m k g) (hne : g ≠ []) (e : Lk c l (prs q g)) (f : Lk c l (prs r g)) : Lk c q r := by
  have h := quot_one hck (vt_rev vg) (revT_ne hne) ((Lk.rev e).trans (revT_prs_lk q g)) ((Lk.rev f).trans (revT_prs_lk r g))
  have := Lk.rev h
  rw [revT_revT, revT_revT] at this
  exact this
section
variable {P : Program} {w : World} {K : PySem.W.Frag} {mg : Str → Option Value} {base : Heap}
theorem Bg.as {H : Hp} {b : Addr} {c : Int} {m k m' k' : Nat} {l l' : Tb} (hc : 0 < c) (h : Bg K H b c m k l) (v : VT c m' k' l') (e : Lk c l l') : Bg K H b c m' k' l' := ⟨lk_same hc h.2 v e ▸ h.1, v⟩
theorem rest_rd {H : Hp} {a b : Addr} {c : Int} {g l : Tb} {m k mg kg : Nat} {Q : VK} {E : XK} (h1 : Bg K H a c mg kg g) (h2 : Bg K H b c m k l) (hck : isCk c) (hk : k ≤ 2500) (hkg : kg ≤ 100000) (hmg : mg ≤ 1000) (hm : m ≤ 1000) (hn : k + k * ((m + 1) * (kg + 1)) ≤ 1000000) (hne : g ≠ [])
    (q1 : ∀ (H' : Hp) (r : Addr) (q : Tb), Same H H' → H r = none → Bg K H' r c m (k + k * ((m + 1) * (kg + 1))) q → Lk c l (prs g q) → Q (.ref r) H') (q2 : ∀ H', Same H H' → (∀ q, ¬ Lk c l (prs g q)) → Q .non H') : spRest K [.ref a, .ref b] H Q E :=
  ⟨a, b, c, c, g, l, m, k, mg, kg, m, sufU g l m, rfl, h1, h2, hck, hk, hkg, hmg, fun z => absurd z hne, fun _ z => absurd rfl z, fun _ _ => ⟨uw_suf h2.2 h1.2 hm hn, fun H' r q s n hb hq => q1 H' r q s n (hb.mono (Nat.le_refl _) (sufU_le h2.2 h1.2)) hq, q2⟩⟩
theorem rest_some {H : Hp} {a b : Addr} {c : Int} {g l q0 : Tb} {m k mg kg m0 k0 : Nat} {Q : VK} {E : XK} (h1 : Bg K H a c mg kg g) (h2 : Bg K H b c m k l) (hck : isCk c) (hk : k ≤ 2500) (hkg : kg ≤ 100000) (hmg : mg ≤ 1000) (hm : m ≤ 1000) (hn : k + k * ((m + 1) * (kg + 1)) ≤ 1000000) (hne : g ≠ [])
    (v0 : VT c m0 k0 q0) (e : Lk c l (prs g q0)) (q1 : ∀ (H' : Hp) (r : Addr), Same H H' → H r = none → Bg K H' r c m0 k0 q0 → Q (.ref r) H') : spRest K [.ref a, .ref b] H Q E :=
  rest_rd h1 h2 hck hk hkg hmg hm hn hne (fun H' r q s n hb hq => q1 H' r s n (hb.as (by have := (ck_range hck).1; omega) v0 (quot_one hck h1.2 hne hq e))) fun H' s hno => absurd e (hno q0)
def spAhead (K : PySem.W.Frag) : Sp := fun vs H Q _ => ∃ (a b : Addr) (c : Int) (l g : Tb) (m k mg kg : Nat), vs = [.ref a, .ref b] ∧ Bg K H a c m k l ∧ Bg K H b c mg kg g ∧ isCk c ∧ k ≤ 2500 ∧ kg ≤ 100000 ∧ mg ≤ 1000 ∧ m ≤ 1000 ∧ k + k * ((m + 1) * (kg + 1)) ≤ 1000000 ∧ g ≠ [] ∧
  (∀ (H' : Hp) (r : Addr) (q : Tb), Same H H' → H r = none → Bg K H' r c m (k + k * ((m + 1) * (kg + 1))) q → Lk c l (prs q g) → Q (.ref r) H') ∧ (∀ H', Same H H' → (∀ q, ¬ Lk c l (prs q g)) → Q .non H')
abbrev nAhead : List Str := ["bag", "back", "found"]
theorem sc_Ahead : FnScope nAhead ["bag", "back"] (defScope s_rest_ahead) := ⟨rfl, rfl, rfl, by decide +kernel, rfl, by decide +kernel, by decide +kernel⟩
theorem ok_Ahead (T : Top K mg) : Ok P w K mg base 9 "rest_ahead" ["bag", "back"] (spAhead K) := by
  obtain ⟨fd, F⟩ := fn_rest_ahead T
  refine ⟨⟨fd, ?_, F.bindsN fun _ _ _ _ _ _ us hl => match us, hl with | [_, _], _ => rfl⟩, g_rest_ahead T, F.kp⟩
  refine F.ok sc_Ahead (fun vs H Q E h => ?_) (fun cdv A outer s H vs Q E hr h => ?_)
  · obtain ⟨a, b, c, l, g, m, k, mg, kg, rfl, _⟩ := h
    rfl
  · obtain ⟨a, b, c, l, g, m, k, mg, kg, rfl, h1, h2, hck, hk, hkg, hmg, hm, hn, hne, q1, q2⟩ := h
    have nd := sc_Ahead.nd
    obtain ⟨hc2, hc7⟩ := ck_range hck
    have hc0 : 0 < c := by omega
    refine ⟨_, PSs.nox (pss_cons (ps_set (i := 2) nd rfl (Or.inl rfl) (pcL (ok_Rest T) hr (pa_cons (pc (ok_mirrored T) hr (pa_cons (pv 1) pa_nil)) (pa_cons (pc (ok_mirrored T) hr (pa_cons (pv 0) pa_nil)) pa_nil))))
      (pss_one (ps_ret (pe_ifExp (pt_cmp (pc_isN (pv 2)) rfl) pe_non (pc (ok_mirrored T) hr (pa_cons (pv 2) pa_nil)))))), ?_⟩
    refine ⟨_, rfl, b, c, mg, kg, g, rfl, h2, hck, by omega, by omega, fun H1 b1 t1 s1 n1 g1 k1 => ?_⟩
    refine ⟨_, rfl, a, c, m, k, l, rfl, h1.same s1, hck, by omega, by omega, fun H2 b2 t2 s2 n2 g2 k2 => ?_⟩
    have s12 := s1.trans s2
    dsimp only [tNil, List.append_nil]
    refine rest_rd (g1.same s2) g2 hck hk hkg hmg hm hn (lk_ne hc0 (vt_rev h2.2) g1.2 k1 (revT_ne hne)) (fun H3 r q s3 n3 hb hq => ?_) (fun H3 s3 hno => ?_)
    · refine ⟨_, rfl, false, rfl, iteF ?_⟩
      refine ⟨_, rfl, r, c, m, _, q, rfl, hb, hck, by omega, by omega, fun H4 r4 t4 s4 n4 g4 k4 => ?_⟩
      have hq' : Lk c l (prs t4 g) := by
        have e1 := Lk.rev (k2.symm.trans (hq.trans (Lk.prs_l q k1)))
        rw [revT_revT] at e1
        have e2 := e1.trans (revT_prs_lk (revT g) q)
        rw [revT_revT] at e2
        exact e2.trans (Lk.prs_l g k4.symm)
      exact q1 H4 r4 t4 ((s12.trans s3).trans s4) (back_none8 (s12.trans s3) n4) g4 hq'
    · refine ⟨_, rfl, true, rfl, iteT ?_⟩
      refine q2 H3 (s12.trans s3) fun q hq => hno (revT q) ?_
      exact k2.trans ((Lk.rev hq).trans ((revT_prs_lk q g).trans (Lk.prs_l _ k1.symm)))
theorem rest_none {H : Hp} {a b : Addr} {c : Int} {g l : Tb} {m k mg kg : Nat} {Q : VK} {E : XK} (h1 : Bg K H a c mg kg g) (h2 : Bg K H b c m k l) (hck : isCk c) (hk : k ≤ 2500) (hkg : kg ≤ 100000) (hmg : mg ≤ 1000) (hm : m ≤ 1000) (hn : k + k * ((m + 1) * (kg + 1)) ≤ 1000000) (hne : g ≠ [])
    (no : ∀ q, ¬ Lk c l (prs g q)) (q2 : ∀ H', Same H H' → Q .non H') : spRest K [.ref a, .ref b] H Q E :=
  rest_rd h1 h2 hck hk hkg hmg hm hn hne (fun H' r q s n hb hq => absurd hq (no q)) fun H' s _ => q2 H' s
theorem ahead_some {H : Hp} {a b : Addr} {c : Int} {g l q0 : Tb} {m k mg kg m0 k0 : Nat} {Q : VK} {E : XK} (h1 : Bg K H a c m k l) (h2 : Bg K H b c mg kg g) (hck : isCk c) (hk : k ≤ 2500) (hkg : kg ≤ 100000) (hmg : mg ≤ 1000) (hm : m ≤ 1000) (hn : k + k * ((m + 1) * (kg + 1)) ≤ 1000000) (hne : g ≠ [])
    (v0 : VT c m0 k0 q0) (e : Lk c l (prs q0 g)) (q1 : ∀ (H' : Hp) (r : Addr), Same H H' → H r = none → Bg K H' r c m0 k0 q0 → Q (.ref r) H') : spAhead K [.ref a, .ref b] H Q E :=
  ⟨a, b, c, l, g, m, k, mg, kg, rfl, h1, h2, hck, hk, hkg, hmg, hm, hn, hne, fun H' r q s n hb hq => q1 H' r s n (hb.as (by have := (ck_range hck).1; omega) v0 (quot_one_r hck h2.2 hne hq e)), fun H' s hno => absurd e (hno q0)⟩
theorem ahead_none {H : Hp} {a b : Addr} {c : Int} {g l : Tb} {m k mg kg : Nat} {Q : VK} {E : XK} (h1 : Bg K H a c m k l) (h2 : Bg K H b c mg kg g) (hck : isCk c) (hk : k ≤ 2500) (hkg : kg ≤ 100000) (hmg : mg ≤ 1000) (hm : m ≤ 1000) (hn : k + k * ((m + 1) * (kg + 1)) ≤ 1000000) (hne : g ≠ [])
    (no : ∀ q, ¬ Lk c l (prs q g)) (q2 : ∀ H', Same H H' → Q .non H') : spAhead K [.ref a, .ref b] H Q E :=
  ⟨a, b, c, l, g, m, k, mg, kg, rfl, h1, h2, hck, hk, hkg, hmg, hm, hn, hne, fun H' r q s n hb hq => absurd hq (no q), fun H' s _ => q2 H' s⟩
end
end Fp

set_option Elab.async false
set_option linter.all false
set_option maxRecDepth 100000
set_option maxHeartbeats 4000000
namespace Fp
open PySem PySem.Spec PyProof.Rows L2
/-! ### first words by the clock -/
structure Ld (c : Int) (l : Tb) (w : Str) : Prop where
  ne : tot l w % c ≠ 0
  le : ∀ x, tot l x % c ≠ 0 → leR w x = true
theorem Ld.lk {c : Int} {l l' : Tb} {w : Str} (h : Ld c l w) (e : Lk c l l') : Ld c l' w := ⟨by rw [← e w]; exact h.ne, fun x hx => h.le x (by rw [e x]; exact hx)⟩
theorem Ld.uniq {c : Int} {l : Tb} {w w' : Str} (h : Ld c l w) (h' : Ld c l w') : w = w' := leR_anti (h.le _ h'.ne) (h'.le _ h.ne)
theorem Ld.no {c : Int} {w : Str} (h : Ld c [] w) : False := h.ne (by rw [tot_nil, Int.zero_emod])
theorem leR_self (w : Str) : leR w w = true := by
  rcases leR_total.total w w with z | z <;> exact z
theorem leR_longer {a b : Str} (h : b.length < a.length) : leR a b = true := leR_iff.mpr (.inl h)
theorem ld_ex {c : Int} (hc : 0 < c) (l : Tb) : Lk c l [] ∨ ∃ w, Ld c l w := by
  have ht := tt_add hc l
  have hl := lk_add (c := c) l
  generalize tidyM c (addT l []) = t at ht hl
  by_cases e : t = []
  · subst e
    exact .inl hl.symm
  · obtain ⟨v, hv, hmin⟩ := first_of (l := t.map (·.1)) (by simpa using e)
    refine .inr ⟨v, Ld.lk ⟨?_, fun x hx => ?_⟩ hl⟩
    · obtain ⟨p, hp, e⟩ := List.mem_map.mp hv
      obtain ⟨j, ej⟩ := List.getElem?_of_mem hp
      have hn := num_of ht.nd ej
      have h1 := ht.rg p hp
      rw [tot_num ht.nd, ← e, hn, Int.emod_eq_of_lt (by omega) h1.2]
      omega
    · by_cases hk : x ∈ t.map (·.1)
      · exact hmin x hk
      · rw [tot_not hk, Int.zero_emod] at hx
        exact absurd rfl hx
theorem inv_of {c : Int} (hck : isCk c) {n : Int} (h : n % c ≠ 0) : ∃ t, (n * t) % c = 1 := by
  obtain ⟨hc2, hc7⟩ := ck_range hck
  obtain ⟨ns, _, hinv⟩ := inv_get hck
  have h1 := Int.emod_nonneg n (show c ≠ 0 by omega)
  have h2 := Int.emod_lt_of_pos n (show 0 < c by omega)
  obtain ⟨t, _, _, _, ht⟩ := hinv (n % c).toNat (by omega)
  refine ⟨t, ?_⟩
  have := (ht (by omega)).1
  rw [Int.toNat_of_nonneg h1] at this
  have h3 : (n * t) % c = ((n % c) * t) % c := by rw [Int.mul_emod n t, Int.mul_emod (n % c) t, Int.emod_emod_of_dvd n (Int.dvd_refl c)]
  exact h3.trans this
theorem ld_prs {c : Int} (hck : isCk c) {a b : Tb} {u v : Str} (ha : Ld c a u) (hb : Ld c b v) : Ld c (prs a b) (u ++ v) := by
  obtain ⟨hc2, hc7⟩ := ck_range hck
  have hc0 : 0 < c := by omega
  have ta := tt_add hc0 a
  have la := lk_add (c := c) a
  have tb := tt_add hc0 b
  have lb := lk_add (c := c) b
  refine Ld.lk ?_ (Lk.prs la lb)
  replace ha := ha.lk la.symm
  replace hb := hb.lk lb.symm
  generalize tidyM c (addT a []) = a' at ta ha
  generalize tidyM c (addT b []) = b' at tb hb
  have key : ∀ {t : Tb} {w : Str}, Tt c t → Ld c t w → w ∈ t.map (·.1) ∧ ∀ y ∈ t.map (·.1), leR w y = true := fun {t w} ht hw => by
    refine ⟨?_, fun y hy => hw.le y ?_⟩
    · by_cases hk : w ∈ t.map (·.1)
      · exact hk
      · have := hw.ne
        rw [tot_not hk, Int.zero_emod] at this
        exact absurd rfl this
    · obtain ⟨p, hp, e⟩ := List.mem_map.mp hy
      obtain ⟨j, ej⟩ := List.getElem?_of_mem hp
      have hn := num_of ht.nd ej
      have h1 := ht.rg p hp
      rw [tot_num ht.nd, ← e, hn, Int.emod_eq_of_lt (by omega) h1.2]
      omega
  obtain ⟨ka, ma⟩ := key ta ha
  obtain ⟨kb, mb⟩ := key tb hb
  have na : num a' u % c ≠ 0 := by rw [← tot_num ta.nd]; exact ha.ne
  have nb : tot b' v % c ≠ 0 := hb.ne
  obtain ⟨t, ht⟩ := inv_of hck na
  refine ⟨fun z => nb ?_, fun x hx => ?_⟩
  · rw [tot_first mb ta.nd ma] at z
    have h2 : (tot b' v * (num a' u * t)) % c = tot b' v % c := by
      rw [Int.mul_emod, ht, Int.mul_one, Int.emod_emod_of_dvd _ (Int.dvd_refl c)]
    rw [← h2, show tot b' v * (num a' u * t) = (num a' u * tot b' v) * t by rw [← Int.mul_assoc, Int.mul_comm (tot b' v)], Int.mul_emod, z, Int.zero_mul, Int.zero_emod]
  · have hx' : tot (prs a' b') x ≠ 0 := fun z => hx (by rw [z, Int.zero_emod])
    obtain ⟨p, hp, q, hq, rfl⟩ := prs_key hx'
    exact leR_trans (leR_app_r (z := v) (ma p.1 (List.mem_map.mpr ⟨p, hp, rfl⟩))) (leR_app_l (z := p.1) (mb q.1 (List.mem_map.mpr ⟨q, hq, rfl⟩)))
theorem ld_of {c : Int} {w : Str} {n : Int} {r : Tb} (h1 : 1 ≤ n) (h2 : n < c) (hr : ∀ p ∈ r, p.1.length < w.length) : Ld c ((w, n) :: r) w := by
  have hn : w ∉ r.map (·.1) := fun z => by
    obtain ⟨p, hp, e⟩ := List.mem_map.mp z
    have := hr p hp
    rw [e] at this
    omega
  refine ⟨?_, fun x hx => ?_⟩
  · rw [tot_cons, if_pos rfl, tot_not hn, Int.add_zero, Int.emod_eq_of_lt (by omega) h2]
    omega
  · by_cases e : w = x
    · rw [e]
      exact leR_self x
    · rw [tot_cons, if_neg e, Int.zero_add] at hx
      by_cases hk : x ∈ r.map (·.1)
      · obtain ⟨p, hp, rfl⟩ := List.mem_map.mp hk
        exact leR_longer (hr p hp)
      · rw [tot_not hk, Int.zero_emod] at hx
        exact absurd rfl hx
/-- a shorter word more -/
theorem ld_more {c : Int} {l : Tb} {w z : Str} {n : Int} (h : Ld c l w) (hz : z.length < w.length) : Ld c (l ++ [(z, n)]) w := by
  have hne : z ≠ w := fun e => by rw [e] at hz; omega
  refine ⟨?_, fun x hx => ?_⟩
  · rw [tot_app, tot_cons, if_neg hne, tot_nil]
    simpa using h.ne
  · by_cases e : z = x
    · subst e
      exact leR_longer hz
    · rw [tot_app, tot_cons, if_neg e, tot_nil] at hx
      exact h.le x (by simpa using hx)
theorem no_quot {c : Int} (hck : isCk c) {g l : Tb} {u w : Str} (hg : Ld c g u) (hl : Ld c l w) (hw : ∀ v, w ≠ u ++ v) (q : Tb) : ¬ Lk c l (prs g q) := fun e => by
  rcases ld_ex (show 0 < c by have := (ck_range hck).1; omega) q with h | ⟨v, h⟩
  · have := hl.lk (e.trans (Lk.prs_r g h))
    rw [prs_nil_r] at this
    exact this.no
  · exact hw v ((hl.lk e).uniq (ld_prs hck hg h))
theorem ld_rev_of {c : Int} {w : Str} {n : Int} {r : Tb} (h1 : 1 ≤ n) (h2 : n < c) (hr : ∀ p ∈ r, p.1.length < w.length) : Ld c (revT ((w, n) :: r)) (revS w) := by
  have hl : ∀ x : Str, (revS x).length = x.length := fun x => by rw [← len_list, ← len_list, revS_cps, List.length_reverse]
  rw [revT_cons]
  refine ld_of h1 h2 fun p hp => ?_
  obtain ⟨q, hq, rfl⟩ := List.mem_map.mp hp
  show (revS q.1).length < (revS w).length
  rw [hl, hl]
  exact hr q hq
theorem revS_len (x : Str) : (revS x).length = x.length := by rw [← len_list, ← len_list, revS_cps, List.length_reverse]
theorem str_ne {a b : Str} (h : a.cps.toList ≠ b.cps.toList) : a ≠ b := fun e => h (by rw [e])
theorem short4 {α : Type} {l : List α} (h : l.length ≤ 4) : l = [] ∨ (∃ a, l = [a]) ∨ (∃ a b, l = [a, b]) ∨ (∃ a b d, l = [a, b, d]) ∨ ∃ a b d e, l = [a, b, d, e] := by
  match l, h with
  | [], _ => exact .inl rfl
  | [a], _ => exact .inr (.inl ⟨a, rfl⟩)
  | [a, b], _ => exact .inr (.inr (.inl ⟨a, b, rfl⟩))
  | [a, b, d], _ => exact .inr (.inr (.inr (.inl ⟨a, b, d, rfl⟩)))
  | [a, b, d, e], _ => exact .inr (.inr (.inr (.inr ⟨a, b, d, e, rfl⟩)))
  | a :: b :: d :: e :: f :: r, h => simp at h
/-- the words of the long ones never begin alike -/
theorem front_no (r s : Str) (hr : r.length ≤ 3) (X v : Str) : (r ++ "xyyxy") ++ X ≠ ("yxxyx" ++ s) ++ v := str_ne (by
  rw [app_list, app_list, app_list, app_list]
  have h : r.cps.toList.length ≤ 4 := by rw [len_list]; omega
  have h3 : r.cps.toList.length ≤ 3 := by rw [len_list]; omega
  show (r.cps.toList ++ [120, 121, 121, 120, 121]) ++ X.cps.toList ≠ ([121, 120, 120, 121, 120] ++ s.cps.toList) ++ v.cps.toList
  generalize r.cps.toList = l at h h3
  rcases short4 h with rfl | ⟨a, rfl⟩ | ⟨a, b, rfl⟩ | ⟨a, b, d, rfl⟩ | ⟨a, b, d, e, rfl⟩
  · simp
  · simp
  · simp
  · simp
  · simp at h3)
theorem back_no (s : Str) (hs : s.length ≤ 4) (X v : Str) : ("xxxxxx" : Str) ++ X ≠ revS ("yxxyx" ++ s) ++ v := str_ne (by
  rw [revS_app, app_list, app_list, app_list, revS_cps s, revS_cps "yxxyx"]
  have h : s.cps.toList.reverse.length ≤ 4 := by rw [List.length_reverse, len_list]; omega
  show [120, 120, 120, 120, 120, 120] ++ X.cps.toList ≠ (s.cps.toList.reverse ++ [120, 121, 120, 120, 121]) ++ v.cps.toList
  generalize s.cps.toList.reverse = l at h
  rcases short4 h with rfl | ⟨a, rfl⟩ | ⟨a, b, rfl⟩ | ⟨a, b, d, rfl⟩ | ⟨a, b, d, e, rfl⟩ <;> simp)
theorem prs_scl (f : Int) (l m : Tb) : prs l (scl f m) = scl f (prs l m) := by
  induction l with
  | nil => rfl
  | cons p r ih =>
    rw [prs_cons, prs_cons, ih]
    unfold scl
    rw [List.map_append, List.map_map, List.map_map]
    congr 1
    refine List.map_congr_left fun q _ => ?_
    show ((p.1 ++ q.1, p.2 * (f * q.2)) : Str × Int) = (p.1 ++ q.1, f * (p.2 * q.2))
    rw [← Int.mul_assoc, Int.mul_comm p.2 f, Int.mul_assoc]
theorem tot_prs_scl (f : Int) (l m : Tb) (x : Str) : tot (prs l (scl f m)) x = f * tot (prs l m) x := by rw [prs_scl, tot_scl]
section
variable {c : Int} {r s : Str} {n : Int}
abbrev oneT (r : Str) (n : Int) : Tb := [(r ++ "xyyxy", 1), ("x", 1), ("", n)]
abbrev twoT (s : Str) : Tb := [("yxxyx" ++ s, 1), ("yy", 1)]
abbrev endT : Tb := [("xxxxxx", 1), ("y", 1)]
theorem len5 (r : Str) : (r ++ "xyyxy").length = r.length + 5 := by rw [app_len]; rfl
theorem len5' (s : Str) : ("yxxyx" ++ s).length = 5 + s.length := by rw [app_len]; rfl
theorem one_ld (hc : 2 ≤ c) : Ld c (oneT r n) (r ++ "xyyxy") := ld_of (by decide) (by omega) fun p hp => by
  rw [len5]
  have : p = (("x" : Str), (1 : Int)) ∨ p = (("" : Str), n) := by simpa using hp
  rcases this with rfl | rfl
  · show 1 < r.length + 5; omega
  · show 0 < r.length + 5; omega
theorem two_ld (hc : 2 ≤ c) : Ld c (twoT s) ("yxxyx" ++ s) := ld_of (by decide) (by omega) fun p hp => by
  rw [len5']
  have : p = (("yy" : Str), (1 : Int)) := by simpa using hp
  subst this
  show 2 < 5 + s.length; omega
theorem two_rld (hc : 2 ≤ c) : Ld c (revT (twoT s)) (revS ("yxxyx" ++ s)) := ld_rev_of (by decide) (by omega) fun p hp => by
  rw [len5']
  have : p = (("yy" : Str), (1 : Int)) := by simpa using hp
  subst this
  show 2 < 5 + s.length; omega
theorem one_rld (hc : 2 ≤ c) : Ld c (revT (oneT r n)) (revS (r ++ "xyyxy")) := ld_rev_of (by decide) (by omega) fun p hp => by
  rw [len5]
  have : p = (("x" : Str), (1 : Int)) ∨ p = (("" : Str), n) := by simpa using hp
  rcases this with rfl | rfl
  · show 1 < r.length + 5; omega
  · show 0 < r.length + 5; omega
theorem end_ld (hc : 2 ≤ c) : Ld c endT "xxxxxx" := ld_of (by decide) (by omega) fun p hp => by
  have : p = (("y" : Str), (1 : Int)) := by simpa using hp
  subst this
  decide
theorem end_rld (hc : 2 ≤ c) : Ld c (revT endT) "xxxxxx" := by
  have : Ld c (revT endT) (revS "xxxxxx") := ld_rev_of (by decide) (by omega) fun p hp => by
    have : p = (("y" : Str), (1 : Int)) := by simpa using hp
    subst this
    decide
  rwa [show revS "xxxxxx" = "xxxxxx" from by decide +kernel] at this
/-- two is no front of one two end -/
theorem long_a (hck : isCk c) (hr : r.length ≤ 3) (q : Tb) : ¬ Lk c (prs (oneT r n) (prs (twoT s) endT)) (prs (twoT s) q) :=
  have hc := (ck_range hck).1
  no_quot hck (two_ld hc) (ld_prs hck (one_ld hc) (ld_prs hck (two_ld hc) (end_ld hc))) (fun v => front_no r s hr _ v) q
/-- a z more is no product with one ahead -/
theorem long_b (hck : isCk c) (q : Tb) : ¬ Lk c (prs (oneT r n) (prs (twoT s) endT) ++ ([(("z" : Str), (1 : Int))] : Tb)) (prs (oneT r n) q) := fun e => by
  have hc := (ck_range hck).1
  have e2 : Lk c ([(("z" : Str), (1 : Int))] : Tb) (prs (oneT r n) (q ++ scl (-1) (prs (twoT s) endT))) := fun x => by
    have h1 := e x
    rw [tot_app] at h1
    rw [prs_app_r, tot_app, tot_prs_scl]
    have h2 : (tot (prs (oneT r n) (prs (twoT s) endT)) x + tot [(("z" : Str), (1 : Int))] x - tot (prs (oneT r n) (prs (twoT s) endT)) x) % c = (tot (prs (oneT r n) q) x - tot (prs (oneT r n) (prs (twoT s) endT)) x) % c := by rw [Int.sub_emod, h1, ← Int.sub_emod]
    rw [show tot (prs (oneT r n) (prs (twoT s) endT)) x + tot [(("z" : Str), (1 : Int))] x - tot (prs (oneT r n) (prs (twoT s) endT)) x = tot [(("z" : Str), (1 : Int))] x by omega] at h2
    rw [h2]
    congr 1
    omega
  refine no_quot hck (one_ld hc) (ld_of (r := []) (by decide) (by omega) fun p hp => by cases hp) (fun v z => ?_) _ e2
  have := congrArg Str.length z
  rw [app_len, len5] at this
  have h1 : ("z" : Str).length = 1 := rfl
  omega
/-- nor one with two behind -/
theorem long_c (hck : isCk c) (hs : s.length ≤ 4) (q : Tb) : ¬ Lk c (prs (oneT r n) (prs (twoT s) endT) ++ ([(("z" : Str), (1 : Int))] : Tb)) (prs q (twoT s)) := fun e => by
  have hc := (ck_range hck).1
  have e2 := (Lk.rev e).trans (revT_prs_lk q (twoT s))
  rw [revT_app] at e2
  have e3 : Lk c (prs (prs (revT endT) (revT (twoT s))) (revT (oneT r n)) ++ revT [(("z" : Str), (1 : Int))]) (prs (revT (twoT s)) (revT q)) := by
    refine (Lk.app ?_ (Lk.refl _ _)).trans e2
    exact ((revT_prs_lk (oneT r n) (prs (twoT s) endT)).trans (Lk.prs_l _ (revT_prs_lk (twoT s) endT))).symm
  rw [prs_assoc] at e3
  have h1 := ld_prs hck (end_rld hc) (ld_prs hck (two_rld (s := s) hc) (one_rld (r := r) (n := n) hc))
  refine no_quot hck (two_rld hc) (ld_more (z := revS "z") (n := 1) h1 ?_) (fun v => back_no s hs _ v) _ e3
  rw [app_len]
  show 1 < 6 + _
  omega
end
end Fp

set_option Elab.async false
set_option linter.all false
set_option maxRecDepth 100000
set_option maxHeartbeats 4000000
namespace Fp
open PySem PySem.Spec PyProof.Rows L2
/-! ### == and != of bags -/
section
variable {X : Cx}
theorem opEq (T : Top X.K X.mg) (hr : Room 1 X.A) : OpR X (compareOp .Eq) (rOwnEq X.K (He.ga X.K "Bag") (spEqB X.K)) := by
  obtain ⟨fd, F, b⟩ := ok_eq (P := X.prog) (w := X.w) (base := X.base) T
  exact op_ownEq F (m_Bag___eq__ T).at_ (m_Bag___eq__ T).fn b hr
theorem opNe (T : Top X.K X.mg) (hr : Room 2 X.A) : OpR X (compareOp .NotEq) (rOwnNe X.K (He.ga X.K "Bag") (spEqB X.K)) := by
  obtain ⟨fd, F, b⟩ := ok_eq (P := X.prog) (w := X.w) (base := X.base) T
  exact op_ownNe F (x_ne T) (m_Bag___eq__ T).at_ (m_Bag___eq__ T).fn (x_mro T) b hr
end
section
variable {P : Program} {w : World} {K : PySem.W.Frag} {mg : Str → Option Value} {base : Heap}
theorem nf_own (C : Addr) : PySem.W.notFirst K C (.ref C) = true := by simp [PySem.W.notFirst]
theorem rd_eq (T : Top K mg) {H : Hp} {a b : Addr} {c c' : Int} {L M : Tb} {Q : VK} (ha : BagAt K H a c L) (hb : BagAt K H b c' M) (q : Q (.bl (decide (c = c' ∧ L = M))) H) : rOwnEq K (He.ga K "Bag") (spEqB K) (.ref a) (.ref b) H Q := by
  obtain ⟨dx, t, h1, h2⟩ := id ha
  obtain ⟨dy, t', h3, h4⟩ := id hb
  exact ⟨a, dx, _, .ref (He.ga K "Bag"), rfl, h1, .base (.ins h3 (cls_Bag T) (x_class T) (x_get T) (x_takes T) (x_mro T)), nf_own _, a, .ref b, c, L, rfl, ha, .inl ⟨b, c', M, rfl, hb, _, rfl, q⟩⟩
theorem rd_ne (T : Top K mg) {H : Hp} {a b : Addr} {c c' : Int} {L M : Tb} {Q : VK} (ha : BagAt K H a c L) (hb : BagAt K H b c' M) (q : Q (.bl (!decide (c = c' ∧ L = M))) H) : rOwnNe K (He.ga K "Bag") (spEqB K) (.ref a) (.ref b) H Q := by
  obtain ⟨dx, t, h1, h2⟩ := id ha
  obtain ⟨dy, t', h3, h4⟩ := id hb
  exact ⟨a, dx, _, .ref (He.ga K "Bag"), rfl, h1, .base (.ins h3 (cls_Bag T) (x_class T) (x_get T) (x_takes T) (x_mro T)), nf_own _, a, .ref b, c, L, rfl, ha, .inl ⟨b, c', M, rfl, hb, _, rfl, q⟩⟩

theorem vt_ld {c : Int} {m k : Nat} {l : Tb} (hc : 0 < c) (v : VT c m k l) (h : l ≠ []) : ∃ u, Ld c l u := by
  rcases ld_ex hc l with e | e
  · have := lk_same hc v (vt_nil c m) e
    have := congrArg List.length this
    rw [canon_len, canon_len] at this
    exact absurd (List.eq_nil_of_length_eq_zero this) h
  · exact e
theorem prod_ne {c : Int} {m k m' k' : Nat} {l l' : Tb} (hck : isCk c) (v : VT c m k l) (v' : VT c m' k' l') (h : l ≠ []) (h' : l' ≠ []) : prodM c l l' ≠ [] := fun z => by
  have hc0 : 0 < c := by have := (ck_range hck).1; omega
  obtain ⟨u, hu⟩ := vt_ld hc0 v h
  obtain ⟨u', hu'⟩ := vt_ld hc0 v' h'
  have := (ld_prs hck hu hu').lk (lk_prod hc0 v v').symm
  rw [z] at this
  exact this.no
/-- something: a drawn table of few words, or a product of two small ones -/
def tSth : TS := fun D σ H => ∃ (h ca d : Addr) (c : Int) (l : Tb), σ = [some (.ref h), some (.int c), some (.ref d)] ∧ HandAt ca H h ∧ isCk c ∧ H d = some (.dK (kv l)) ∧ VT c 2 3 l ∧
  ∀ H' d' l', HandAt ca H' h → But h H H' → H' d' = some (.dK (kv l')) → VT c 4 9 l' → l' ≠ [] → D.nx [some (.ref h), some (.int c), some (.ref d')] H'
def spSth : Sp := fun vs H Q _ => ∃ (h ca : Addr) (c : Int), vs = [.ref h, .int c] ∧ HandAt ca H h ∧ isCk c ∧ ∀ H' d l, HandAt ca H' h → But h H H' → H' d = some (.dK (kv l)) → VT c 4 9 l → l ≠ [] → Q (.ref d) H'
abbrev nSth : List Str := ["_law_hand_here", "_law_clock_here", "_law_words_here"]
end
end Fp

set_option Elab.async false
set_option linter.all false
set_option maxRecDepth 100000
set_option maxHeartbeats 4000000
namespace Fp
open PySem PySem.Spec PyProof.Rows L2
theorem prs_scl_l (f : Int) (l m : Tb) : prs (scl f l) m = scl f (prs l m) := by
  induction l with
  | nil => rfl
  | cons p r ih =>
    have e : scl f (p :: r) = (p.1, f * p.2) :: scl f r := rfl
    rw [e, prs_cons, prs_cons, ih]
    unfold scl
    rw [List.map_append, List.map_map]
    congr 1
    refine List.map_congr_left fun q _ => ?_
    show ((p.1 ++ q.1, f * p.2 * q.2) : Str × Int) = (p.1 ++ q.1, f * (p.2 * q.2))
    rw [Int.mul_assoc]
theorem ld_scl {c : Int} (hck : isCk c) {l : Tb} {u : Str} {n : Int} (h : Ld c l u) (h1 : 1 ≤ n) (h2 : n < c) : Ld c (scl n l) u := by
  have hn : n % c ≠ 0 := by rw [Int.emod_eq_of_lt (by omega) h2]; omega
  obtain ⟨t, ht⟩ := inv_of hck hn
  refine ⟨fun z => h.ne ?_, fun x hx => h.le x fun z => hx ?_⟩
  · rw [tot_scl] at z
    have e1 : (tot l u * (n * t)) % c = tot l u % c := by rw [Int.mul_emod, ht, Int.mul_one, Int.emod_emod_of_dvd _ (Int.dvd_refl c)]
    rw [← e1, show tot l u * (n * t) = (n * tot l u) * t by rw [← Int.mul_assoc, Int.mul_comm (tot l u)], Int.mul_emod, z, Int.zero_mul, Int.zero_emod]
  · rw [tot_scl, Int.mul_emod, z, Int.mul_zero, Int.zero_emod]
/-- a bag or None -/
def OptB (K : PySem.W.Frag) (H : Hp) (c : Int) (m k : Nat) (x : V) (Pr : Tb → Prop) : Prop := (x = .non ∧ ∀ q, ¬ Pr q) ∨ ∃ r q, x = .ref r ∧ Bg K H r c m k q ∧ Pr q
theorem OptB.same {K : PySem.W.Frag} {H H' : Hp} {c : Int} {m k : Nat} {x : V} {Pr : Tb → Prop} (h : OptB K H c m k x Pr) (s : Same H H') : OptB K H' c m k x Pr := by
  rcases h with h | ⟨r, q, h1, h2, h3⟩
  · exact .inl h
  · exact .inr ⟨r, q, h1, h2.same s, h3⟩
theorem OptB.imp {K : PySem.W.Frag} {H : Hp} {c : Int} {m k : Nat} {x : V} {Pr Pr' : Tb → Prop} (h : OptB K H c m k x Pr) (e : ∀ q, Pr q ↔ Pr' q) : OptB K H c m k x Pr' := by
  rcases h with ⟨h1, h2⟩ | ⟨r, q, h1, h2, h3⟩
  · exact .inl ⟨h1, fun q z => h2 q ((e q).mpr z)⟩
  · exact .inr ⟨r, q, h1, h2, (e q).mp h3⟩
/-- a table or None -/
def OptD (H : Hp) (c : Int) (x : V) (Pr : Tb → Prop) : Prop := (x = .non ∧ ∀ q, ¬ Pr q) ∨ ∃ r q, x = .ref r ∧ H r = some (.dK (kv q)) ∧ VT c 12 1000000 q ∧ Pr q
theorem OptD.imp {H : Hp} {c : Int} {x : V} {Pr Pr' : Tb → Prop} (h : OptD H c x Pr) (e : ∀ q, Pr q ↔ Pr' q) : OptD H c x Pr' := by
  rcases h with ⟨h1, h2⟩ | ⟨r, q, h1, h2, h4, h3⟩
  · exact .inl ⟨h1, fun q z => h2 q ((e q).mpr z)⟩
  · exact .inr ⟨r, q, h1, h2, h4, (e q).mp h3⟩
theorem ld_opt {H : Hp} {f d : Addr} {c : Int} {g l : Tb} {Q : VK} {E : XK} (hck : isCk c) (hf : H f = some (.dK (kv g))) (hd : H d = some (.dK (kv l))) (vg : VT c 12 300 g) (vl : VT c 12 300 l) (hne : g ≠ [])
    (q : ∀ (H' : Hp) (x : V), Same H H' → OptD H' c x (fun q => Lk c l (prs g q)) → Q x H') : spLD [.int c, .ref f, .ref d] H Q E :=
  ⟨c, f, d, g, l, rfl, hck, hf, hd, vg, vl, hne, fun H' r t s n e v h => q H' (.ref r) s (.inr ⟨r, t, rfl, e, v, h⟩), fun H' s h => q H' .non s (.inl ⟨rfl, h⟩)⟩
section
variable {K : PySem.W.Frag}
theorem rest_opt {H : Hp} {a b : Addr} {c : Int} {g l : Tb} {m k mg kg : Nat} {Q : VK} {E : XK} (h1 : Bg K H a c mg kg g) (h2 : Bg K H b c m k l) (hck : isCk c) (hk : k ≤ 2500) (hkg : kg ≤ 100000) (hmg : mg ≤ 1000) (hm : m ≤ 1000) (hn : k + k * ((m + 1) * (kg + 1)) ≤ 1000000) (hne : g ≠ [])
    (q : ∀ (H' : Hp) (x : V), Same H H' → OptB K H' c m (k + k * ((m + 1) * (kg + 1))) x (fun q => Lk c l (prs g q)) → Q x H') : spRest K [.ref a, .ref b] H Q E :=
  rest_rd h1 h2 hck hk hkg hmg hm hn hne (fun H' r t s n hb hq => q H' (.ref r) s (.inr ⟨r, t, rfl, hb, hq⟩)) fun H' s hno => q H' .non s (.inl ⟨rfl, hno⟩)
theorem ahead_opt {H : Hp} {a b : Addr} {c : Int} {g l : Tb} {m k mg kg : Nat} {Q : VK} {E : XK} (h1 : Bg K H a c m k l) (h2 : Bg K H b c mg kg g) (hck : isCk c) (hk : k ≤ 2500) (hkg : kg ≤ 100000) (hmg : mg ≤ 1000) (hm : m ≤ 1000) (hn : k + k * ((m + 1) * (kg + 1)) ≤ 1000000) (hne : g ≠ [])
    (q : ∀ (H' : Hp) (x : V), Same H H' → OptB K H' c m (k + k * ((m + 1) * (kg + 1))) x (fun q => Lk c l (prs q g)) → Q x H') : spAhead K [.ref a, .ref b] H Q E :=
  ⟨a, b, c, l, g, m, k, mg, kg, rfl, h1, h2, hck, hk, hkg, hmg, hm, hn, hne, fun H' r t s n hb hq => q H' (.ref r) s (.inr ⟨r, t, rfl, hb, hq⟩), fun H' s hno => q H' .non s (.inl ⟨rfl, hno⟩)⟩
end
theorem lk_sub {c : Int} {a b d : Tb} (h : Lk c (a ++ b) d) : Lk c a (d ++ scl (-1) b) := fun x => by
  have h1 := h x
  rw [tot_app] at h1
  rw [tot_app, tot_scl]
  have h2 : (tot a x + tot b x - tot b x) % c = (tot d x - tot b x) % c := by rw [Int.sub_emod, h1, ← Int.sub_emod]
  rw [show tot a x + tot b x - tot b x = tot a x by omega] at h2
  rw [h2]
  congr 1
  omega
theorem lk_prs_add {c : Int} (g q p : Tb) : Lk c (prs g (q ++ p)) (prs g q ++ prs g p) := fun x => by rw [prs_app_r]
/-- a sum with a multiple: both are there, or both are not -/
theorem sum_opt {c : Int} {g o w p : Tb} (hw : Lk c w (prs g p)) : (∀ q, Lk c o (prs g q) → Lk c (o ++ w) (prs g (q ++ p))) ∧ (∀ q, Lk c (o ++ w) (prs g q) → Lk c o (prs g (q ++ scl (-1) p))) := by
  refine ⟨fun q h => (Lk.app h hw).trans (lk_prs_add g q p).symm, fun q h => ?_⟩
  refine (lk_sub h).trans ?_
  refine Lk.trans (Lk.app (Lk.refl _ _) ?_) (lk_prs_add g q _).symm
  rw [prs_scl]
  exact Lk.scl (-1) hw
/-- the bags of a turn -/
structure WA (K : PySem.W.Frag) (ca h R b1 b2 b3 bw r0 : Addr) (c : Int) (t1 t2 t3 tw : Tb) (H : Hp) : Prop where
  hh : HandAt ca H h
  nR : R ≠ h
  n0 : r0 ≠ h
  eR : ∃ r1 r2, H R = some (.lst [.ref r0, .ref r1, .ref r2])
  e0 : H r0 = some (.dK (kv t1))
  g1 : Bg K H b1 c 4 9 t1
  g2 : Bg K H b2 c 4 9 t2
  g3 : Bg K H b3 c 4 9 t3
  gw : Bg K H bw c 12 729 tw
theorem WA.same {K : PySem.W.Frag} {ca h R b1 b2 b3 bw r0 : Addr} {c : Int} {t1 t2 t3 tw : Tb} {H H' : Hp} (z : WA K ca h R b1 b2 b3 bw r0 c t1 t2 t3 tw H) (s : Same H H') : WA K ca h R b1 b2 b3 bw r0 c t1 t2 t3 tw H' := by
  obtain ⟨r1, r2, e⟩ := z.eR
  exact ⟨z.hh.same s, z.nR, z.n0, ⟨r1, r2, s _ _ e⟩, s _ _ z.e0, z.g1.same s, z.g2.same s, z.g3.same s, z.gw.same s⟩
theorem Bg.but {K : PySem.W.Frag} {H H' : Hp} {b h : Addr} {c : Int} {m k : Nat} {l : Tb} (g : Bg K H b c m k l) (s : But h H H') (hl : ∃ xs, H h = some (.lst xs)) : Bg K H' b c m k l := ⟨g.1.but s hl, g.2⟩
theorem WA.but {K : PySem.W.Frag} {ca h R b1 b2 b3 bw r0 : Addr} {c : Int} {t1 t2 t3 tw : Tb} {H H' : Hp} (z : WA K ca h R b1 b2 b3 bw r0 c t1 t2 t3 tw H) (s : But h H H') (hh : HandAt ca H' h) : WA K ca h R b1 b2 b3 bw r0 c t1 t2 t3 tw H' := by
  obtain ⟨r1, r2, e⟩ := z.eR
  have hl := z.hh.lst
  exact ⟨hh, z.nR, z.n0, ⟨r1, r2, s _ _ e z.nR⟩, s _ _ z.e0 z.n0, z.g1.but s hl, z.g2.but s hl, z.g3.but s hl, z.gw.but s hl⟩
end Fp

set_option Elab.async false
set_option linter.all false
set_option maxRecDepth 100000
set_option maxHeartbeats 4000000
namespace Fp
open PySem PySem.Spec PyProof.Rows L2
/-! ### beginnings -/
theorem snoc_ind {α : Type} {P : List α → Prop} (h0 : P []) (h1 : ∀ l a, P l → P (l ++ [a])) (l : List α) : P l := by
  have key : ∀ r : List α, P r.reverse := fun r => by
    induction r with
    | nil => exact h0
    | cons a r ih =>
      rw [List.reverse_cons]
      exact h1 _ _ ih
  have := key l.reverse
  rw [List.reverse_reverse] at this
  exact this
theorem nodup_flat {α β : Type} {f : α → List β} : ∀ {l : List α}, (∀ x ∈ l, (f x).Nodup) → l.Pairwise (fun a b => ∀ x ∈ f a, x ∉ f b) → (l.flatMap f).Nodup
  | [], _, _ => List.nodup_nil
  | a :: r, h, hp => by
    obtain ⟨h1, h2⟩ := List.pairwise_cons.mp hp
    rw [List.flatMap_cons]
    refine List.nodup_append.mpr ⟨h a List.mem_cons_self, nodup_flat (fun x hx => h x (List.mem_cons_of_mem _ hx)) h2, fun x hx y hy e => ?_⟩
    subst e
    obtain ⟨b, hb, hy⟩ := List.mem_flatMap.mp hy
    exact h1 b hb x hx hy
def W (cs : List Nat) : Str := ⟨cs.toArray⟩
theorem W_cps (w : Str) : W w.cps.toList = w := PySem.W.str_of_cps (by simp [W])
theorem cps_W (cs : List Nat) : (W cs).cps.toList = cs := by simp [W]
theorem W_inj {a b : List Nat} (h : W a = W b) : a = b := by rw [← cps_W a, h, cps_W]
theorem W_app (a b : List Nat) : W a ++ W b = W (a ++ b) := PySem.W.str_of_cps (by rw [app_list, cps_W, cps_W, cps_W])
theorem W_len (a : List Nat) : (W a).length = a.length := by rw [← len_list, cps_W]
theorem W_nil : W [] = "" := rfl
/-- the numbers of the beginnings, together -/
def preL (l : Tb) (cs : List Nat) : Int := ((List.range (cs.length + 1)).map fun i => num l (W (cs.take i))).sum
theorem preL_nil (l : Tb) : preL l [] = num l "" := by
  show (num l (W []) + 0 : Int) = _
  rw [Int.add_zero]
  rfl
theorem preL_snoc (l : Tb) (cs : List Nat) (b : Nat) : preL l (cs ++ [b]) = preL l cs + num l (W (cs ++ [b])) := by
  unfold preL
  have h1 : (cs ++ [b]).length + 1 = (cs.length + 1) + 1 := by rw [List.length_append]; rfl
  rw [h1, List.range_succ, List.map_append, List.sum_append]
  congr 1
  · congr 1
    refine List.map_congr_left fun i hi => ?_
    have := List.mem_range.mp hi
    rw [List.take_append_of_le_length (by omega)]
  · show (num l (W ((cs ++ [b]).take (cs.length + 1))) + 0 : Int) = _
    rw [Int.add_zero, List.take_of_length_le (by rw [List.length_append]; exact Nat.le_refl _)]
theorem num_long {l : Tb} {L : Nat} (h : ∀ p ∈ l, p.1.length ≤ L) {x : Str} (hx : L < x.length) : num l x = 0 := num_not fun z => by
  obtain ⟨p, hp, rfl⟩ := List.mem_map.mp z
  have := h p hp
  omega
theorem preL_long {l : Tb} {L : Nat} (h : ∀ p ∈ l, p.1.length ≤ L) (cs : List Nat) (hc : L ≤ cs.length) : ∀ ds : List Nat, preL l (cs ++ ds) = preL l cs := by
  refine snoc_ind ?_ fun ds b ih => ?_
  · rw [List.append_nil]
  · rw [← List.append_assoc, preL_snoc, ih, num_long h (by rw [W_len, List.length_append, List.length_append]; show L < cs.length + ds.length + 1; omega), Int.add_zero]
abbrev oneM : Tb := [(("" : Str), (1 : Int))]
def AT (al : List Nat) : Tb := al.map fun a => (W [a], 1)
/-- one less the letters, one less a table -/
abbrev BT (al : List Nat) : Tb := oneM ++ scl (-1) (AT al)
abbrev C1 (l : Tb) : Tb := oneM ++ scl (-1) l
theorem tot_last (q : Tb) (a b : Nat) (cs : List Nat) : tot (prs q [(W [a], 1)]) (W (cs ++ [b])) = if b = a then tot q (W cs) else 0 := by
  induction q with
  | nil => rw [show prs [] [(W [a], (1 : Int))] = [] from rfl, tot_nil]; split <;> rfl
  | cons p r ih =>
    rw [prs_cons, tot_app, ih, tot_cons]
    show (if p.1 ++ W [a] = W (cs ++ [b]) then p.2 * 1 else 0) + 0 + _ = _
    rw [Int.add_zero, Int.mul_one]
    have key : p.1 ++ W [a] = W (cs ++ [b]) ↔ p.1 = W cs ∧ b = a := by
      rw [← W_cps p.1, W_app]
      constructor
      · intro e
        have := List.append_inj' (W_inj e) rfl
        exact ⟨by rw [this.1], (List.cons.inj this.2).1.symm⟩
      · rintro ⟨e1, rfl⟩
        rw [W_inj e1]
    by_cases hb : b = a
    · rw [if_pos hb, if_pos hb]
      by_cases hp : p.1 = W cs
      · rw [if_pos (key.mpr ⟨hp, hb⟩), if_pos hp]
      · rw [if_neg (fun z => hp (key.mp z).1), if_neg hp]
    · rw [if_neg hb, if_neg hb, if_neg (fun z => hb (key.mp z).2), Int.add_zero]
theorem tot_last0 (q : Tb) (a : Nat) : tot (prs q [(W [a], 1)]) "" = 0 := by
  refine tot_not fun z => ?_
  obtain ⟨e, he, h0⟩ := List.mem_map.mp z
  unfold prs at he
  obtain ⟨p, hp, he⟩ := List.mem_flatMap.mp he
  have : e = (p.1 ++ W [a], p.2 * 1) := by simpa using he
  subst this
  have := congrArg Str.length h0
  rw [app_len, W_len] at this
  have h1 : ("" : Str).length = 0 := rfl
  have h2 : ([a] : List Nat).length = 1 := rfl
  omega
theorem AT_cons (a : Nat) (r : List Nat) : AT (a :: r) = ([(W [a], 1)] : Tb) ++ AT r := rfl
theorem tot_AT (q : Tb) (b : Nat) (cs : List Nat) : ∀ al : List Nat, al.Nodup → tot (prs q (AT al)) (W (cs ++ [b])) = if b ∈ al then tot q (W cs) else 0
  | [], _ => by
    rw [show AT [] = [] from rfl, prs_nil_r, tot_nil]
    simp
  | a :: r, h => by
    obtain ⟨h1, h2⟩ := List.nodup_cons.mp h
    rw [AT_cons, prs_app_r, tot_app, tot_last, tot_AT q b cs r h2]
    by_cases hb : b = a
    · subst hb
      rw [if_pos rfl, if_neg h1, if_pos List.mem_cons_self, Int.add_zero]
    · rw [if_neg hb, Int.zero_add]
      by_cases hr : b ∈ r
      · rw [if_pos hr, if_pos (List.mem_cons_of_mem _ hr)]
      · rw [if_neg hr, if_neg (fun z => by rcases List.mem_cons.mp z with z | z; exact hb z; exact hr z)]
theorem tot_AT0 (q : Tb) : ∀ al : List Nat, tot (prs q (AT al)) "" = 0
  | [] => by rw [show AT [] = [] from rfl, prs_nil_r, tot_nil]
  | a :: r => by rw [AT_cons, prs_app_r, tot_app, tot_last0, tot_AT0 q r]; rfl
theorem tot_BT (q : Tb) (x : Str) (al : List Nat) : tot (prs q (BT al)) x = tot q x - tot (prs q (AT al)) x := by
  rw [prs_app_r, tot_app, prs_one_r, tot_prs_scl]
  omega
theorem tot_C1 {l : Tb} (hn : Nd l) (x : Str) : tot (C1 l) x = (if x = "" then 1 else 0) - num l x := by
  rw [tot_app, tot_scl, tot_num hn, tot_cons, tot_nil]
  by_cases h : x = ""
  · subst h
    rw [if_pos rfl]
    show (1 : Int) + 0 + -1 * _ = 1 - _
    omega
  · rw [if_neg h, if_neg (fun z => h z.symm)]
    omega
/-- full: the numbers of the beginnings of all words of L letters come together to 1 -/
def FullAt (c : Int) (al : List Nat) (l : Tb) (L : Nat) : Prop := ∀ cs : List Nat, (∀ b ∈ cs, b ∈ al) → cs.length = L → preL l cs % c = 1
structure OverT (al : List Nat) (L : Nat) (l : Tb) : Prop where
  ov : ∀ p ∈ l, ∀ b ∈ p.1.cps.toList, b ∈ al
  ln : ∀ p ∈ l, p.1.length ≤ L
theorem modc {c a b : Int} (h : a % c = b % c) (d : Int) : (d - a) % c = (d - b) % c := by rw [Int.sub_emod, h, ← Int.sub_emod]
/-- what a quotient has at a word is one less the numbers of its beginnings -/
theorem quot_pre {c : Int} {al : List Nat} {l q : Tb} (hn : Nd l) (ha : al.Nodup) (e : Lk c (C1 l) (prs q (BT al))) : ∀ cs : List Nat, (∀ b ∈ cs, b ∈ al) → tot q (W cs) % c = (1 - preL l cs) % c := by
  refine snoc_ind (P := fun cs => (∀ b ∈ cs, b ∈ al) → tot q (W cs) % c = (1 - preL l cs) % c) ?_ fun cs b ih => ?_
  · intro _
    have := e ""
    rw [tot_BT, tot_AT0, tot_C1 hn, if_pos rfl, Int.sub_zero] at this
    rw [W_nil, preL_nil]
    exact this.symm
  · intro h
    have ih := ih fun d hd => h d (List.mem_append_left _ hd)
    have hb : b ∈ al := h b (by simp)
    have h1 := e (W (cs ++ [b]))
    have hne : W (cs ++ [b]) ≠ "" := fun z => by
      have := congrArg Str.length z
      rw [W_len, List.length_append] at this
      have h2 : ("" : Str).length = 0 := rfl
      have h3 : ([b] : List Nat).length = 1 := rfl
      omega
    rw [tot_BT, tot_AT q b cs al ha, if_pos hb, tot_C1 hn, if_neg hne] at h1
    rw [preL_snoc]
    have h2 : (tot q (W (cs ++ [b])) - tot q (W cs) + tot q (W cs)) % c = (0 - num l (W (cs ++ [b])) + (1 - preL l cs)) % c := by
      rw [Int.add_emod, ← h1, ih, ← Int.add_emod]
    rw [show tot q (W (cs ++ [b])) - tot q (W cs) + tot q (W cs) = tot q (W (cs ++ [b])) by omega] at h2
    rw [h2]
    congr 1
    omega
theorem key_bound (q : Tb) : ∃ M, ∀ p ∈ q, p.1.length ≤ M := by
  induction q with
  | nil => exact ⟨0, fun p hp => by cases hp⟩
  | cons p r ih =>
    obtain ⟨M, h⟩ := ih
    refine ⟨max M p.1.length, fun y hy => ?_⟩
    rcases List.mem_cons.mp hy with rfl | hy
    · omega
    · have := h y hy
      omega
theorem tot_long {q : Tb} {M : Nat} (h : ∀ p ∈ q, p.1.length ≤ M) {x : Str} (hx : M < x.length) : tot q x = 0 := tot_not fun z => by
  obtain ⟨p, hp, rfl⟩ := List.mem_map.mp z
  have := h p hp
  omega
theorem full_of_quot {c : Int} {al : List Nat} {l q : Tb} {L : Nat} (hc : 2 ≤ c) (hn : Nd l) (ha : al.Nodup) (hal : al ≠ []) (ho : OverT al L l) (e : Lk c (C1 l) (prs q (BT al))) : FullAt c al l L := fun cs hcs hlen => by
  obtain ⟨a0, r, rfl⟩ : ∃ a r, al = a :: r := by
    cases al with
    | nil => exact absurd rfl hal
    | cons a r => exact ⟨a, r, rfl⟩
  obtain ⟨M, hM⟩ := key_bound q
  have h1 := quot_pre hn ha e (cs ++ List.replicate (M + 1) a0) fun b hb => by
    rcases List.mem_append.mp hb with hb | hb
    · exact hcs b hb
    · rw [List.eq_of_mem_replicate hb]
      exact List.mem_cons_self
  rw [tot_long hM (by rw [W_len, List.length_append, List.length_replicate]; omega), preL_long ho.ln cs (by omega)] at h1
  have h2 : (1 : Int) % c = 1 := Int.emod_eq_of_lt (by decide) (by omega)
  rw [Int.zero_emod] at h1
  have h3 : (1 - (1 - preL l cs)) % c = (1 - 0) % c := by rw [Int.sub_emod, ← h1, Int.sub_emod 1 0, Int.zero_emod]
  rw [show (1 : Int) - (1 - preL l cs) = preL l cs by omega, Int.sub_zero, h2] at h3
  exact h3
/-- all words of n letters -/
def allL (al : List Nat) : Nat → List (List Nat)
  | 0 => [[]]
  | n + 1 => (allL al n).flatMap fun cs => al.map fun a => cs ++ [a]
theorem allL_mem (al : List Nat) : ∀ (n : Nat) (cs : List Nat), cs ∈ allL al n ↔ (∀ b ∈ cs, b ∈ al) ∧ cs.length = n
  | 0, cs => by
    show cs ∈ [[]] ↔ _
    rw [List.mem_singleton]
    constructor
    · rintro rfl
      exact ⟨fun b hb => (by cases hb), rfl⟩
    · rintro ⟨_, h⟩
      exact List.eq_nil_of_length_eq_zero h
  | n + 1, cs => by
    show cs ∈ (allL al n).flatMap _ ↔ _
    rw [List.mem_flatMap]
    constructor
    · rintro ⟨ds, hd, h⟩
      obtain ⟨a, ha, rfl⟩ := List.mem_map.mp h
      obtain ⟨h1, h2⟩ := (allL_mem al n ds).mp hd
      refine ⟨fun b hb => ?_, by rw [List.length_append, h2]; rfl⟩
      rcases List.mem_append.mp hb with hb | hb
      · exact h1 b hb
      · have : b = a := by simpa using hb
        subst this
        exact ha
    · rintro ⟨h1, h2⟩
      obtain ⟨ds, b, rfl⟩ : ∃ ds b, cs = ds ++ [b] := by
        revert h2
        refine snoc_ind (P := fun cs => cs.length = n + 1 → ∃ ds b, cs = ds ++ [b]) (fun h => by cases h) (fun ds b _ _ => ⟨ds, b, rfl⟩) cs
      refine ⟨ds, (allL_mem al n ds).mpr ⟨fun d hd => h1 d (List.mem_append_left _ hd), ?_⟩, List.mem_map.mpr ⟨b, h1 b (by simp), rfl⟩⟩
      rw [List.length_append] at h2
      have h3 : ([b] : List Nat).length = 1 := rfl
      omega
theorem allL_nd (al : List Nat) (ha : al.Nodup) : ∀ n, (allL al n).Nodup
  | 0 => by simp [allL]
  | n + 1 => by
    show ((allL al n).flatMap _).Nodup
    refine nodup_flat (fun cs _ => ?_) ?_
    · exact List.Pairwise.map _ (fun a b hne z => hne (by simpa using z)) ha
    · refine List.Pairwise.imp ?_ (allL_nd al ha n)
      intro a b hne x hx hy
      obtain ⟨u, _, e1⟩ := List.mem_map.mp hx
      obtain ⟨v, _, e2⟩ := List.mem_map.mp hy
      exact hne (List.append_inj' (e1.trans e2.symm) rfl).1
/-- all words of fewer than n letters -/
def lowL (al : List Nat) (n : Nat) : List (List Nat) := (List.range n).flatMap (allL al)
theorem lowL_mem (al : List Nat) (n : Nat) (cs : List Nat) : cs ∈ lowL al n ↔ (∀ b ∈ cs, b ∈ al) ∧ cs.length < n := by
  unfold lowL
  rw [List.mem_flatMap]
  constructor
  · rintro ⟨k, hk, h⟩
    obtain ⟨h1, h2⟩ := (allL_mem al k cs).mp h
    exact ⟨h1, h2 ▸ List.mem_range.mp hk⟩
  · rintro ⟨h1, h2⟩
    exact ⟨cs.length, List.mem_range.mpr h2, (allL_mem al _ cs).mpr ⟨h1, rfl⟩⟩
theorem lowL_nd (al : List Nat) (ha : al.Nodup) (n : Nat) : (lowL al n).Nodup := by
  refine nodup_flat (fun k _ => allL_nd al ha k) ?_
  refine List.Pairwise.imp ?_ (List.nodup_range (n := n))
  intro a b hne x hx hy
  exact hne (((allL_mem al a x).mp hx).2.symm.trans ((allL_mem al b x).mp hy).2)
theorem tot_map {l : List (List Nat)} (hn : l.Nodup) (f : List Nat → Int) (cs : List Nat) : tot (l.map fun d => (W d, f d)) (W cs) = if cs ∈ l then f cs else 0 := by
  induction l with
  | nil => rw [List.map_nil, tot_nil]; simp
  | cons d r ih =>
    obtain ⟨h1, h2⟩ := List.nodup_cons.mp hn
    rw [List.map_cons, tot_cons, ih h2]
    by_cases e : d = cs
    · subst e
      rw [if_pos rfl, if_neg h1, if_pos List.mem_cons_self, Int.add_zero]
    · rw [if_neg (fun z => e (W_inj z)), Int.zero_add]
      by_cases hr : cs ∈ r
      · rw [if_pos hr, if_pos (List.mem_cons_of_mem _ hr)]
      · rw [if_neg hr, if_neg (fun z => by rcases List.mem_cons.mp z with z | z; exact e z.symm; exact hr z)]
theorem full_long {c : Int} {al : List Nat} {l : Tb} {L : Nat} (ho : OverT al L l) (h : FullAt c al l L) {cs : List Nat} (hcs : ∀ b ∈ cs, b ∈ al) (hl : L ≤ cs.length) : preL l cs % c = 1 := by
  have h1 := h (cs.take L) (fun b hb => hcs b (List.mem_of_mem_take hb)) (by rw [List.length_take]; omega)
  have h2 := preL_long ho.ln (cs.take L) (by rw [List.length_take]; omega) (cs.drop L)
  rw [List.take_append_drop] at h2
  rw [h2]
  exact h1
theorem quot_of_full {c : Int} {al : List Nat} {l : Tb} {L : Nat} (hc : 2 ≤ c) (hn : Nd l) (ha : al.Nodup) (ho : OverT al L l) (h : FullAt c al l L) : ∃ q, Lk c (C1 l) (prs q (BT al)) := by
  refine ⟨(lowL al L).map fun d => (W d, 1 - preL l d), fun x => ?_⟩
  have h12 : (1 : Int) % c = 1 := Int.emod_eq_of_lt (by decide) (by omega)
  generalize hq : ((lowL al L).map fun d => (W d, 1 - preL l d) : Tb) = q
  have val : ∀ cs, (∀ b ∈ cs, b ∈ al) → tot q (W cs) % c = (1 - preL l cs) % c := fun cs hcs => by
    rw [← hq, tot_map (lowL_nd al ha L)]
    by_cases hl : cs.length < L
    · rw [if_pos ((lowL_mem al L cs).mpr ⟨hcs, hl⟩)]
    · rw [if_neg (fun z => hl ((lowL_mem al L cs).mp z).2)]
      have h1 := full_long ho h hcs (by omega)
      rw [Int.sub_emod, h1, h12]
      rfl
  have zero : ∀ cs, (¬ ∀ b ∈ cs, b ∈ al) → tot q (W cs) = 0 := fun cs hcs => by
    rw [← hq, tot_map (lowL_nd al ha L), if_neg (fun z => hcs ((lowL_mem al L cs).mp z).1)]
  have lz : ∀ cs, (¬ ∀ b ∈ cs, b ∈ al) → num l (W cs) = 0 := fun cs hcs => num_not fun z => hcs fun b hb => by
    obtain ⟨p, hp, e⟩ := List.mem_map.mp z
    exact ho.ov p hp b (by rw [e, cps_W]; exact hb)
  rw [← W_cps x]
  generalize x.cps.toList = cs
  refine snoc_ind (P := fun cs => tot (C1 l) (W cs) % c = tot (prs q (BT al)) (W cs) % c) ?_ (fun cs b _ => ?_) cs
  · rw [W_nil, tot_BT, tot_AT0, tot_C1 hn, if_pos rfl, Int.sub_zero]
    have := val [] (fun b hb => by cases hb)
    rw [preL_nil, W_nil] at this
    exact this.symm
  · have hne : W (cs ++ [b]) ≠ "" := fun z => by
      have := congrArg Str.length z
      rw [W_len, List.length_append] at this
      have h2 : ("" : Str).length = 0 := rfl
      have h3 : ([b] : List Nat).length = 1 := rfl
      omega
    rw [tot_BT, tot_AT q b cs al ha, tot_C1 hn, if_neg hne]
    by_cases hb : b ∈ al
    · rw [if_pos hb]
      by_cases hcs : ∀ d ∈ cs, d ∈ al
      · have v1 := val cs hcs
        have v2 := val (cs ++ [b]) fun d hd => by
          rcases List.mem_append.mp hd with hd | hd
          · exact hcs d hd
          · have : d = b := by simpa using hd
            subst this
            exact hb
        rw [Int.sub_emod (tot q (W (cs ++ [b]))), v2, v1, ← Int.sub_emod, preL_snoc]
        congr 1
        omega
      · rw [zero cs hcs, zero _ (fun z => hcs fun d hd => z d (List.mem_append_left _ hd)), lz _ (fun z => hcs fun d hd => z d (List.mem_append_left _ hd))]
    · rw [if_neg hb, zero _ (fun z => hb (z b (by simp))), lz _ (fun z => hb (z b (by simp)))]
end Fp

set_option Elab.async false
set_option linter.all false
set_option maxRecDepth 100000
set_option maxHeartbeats 4000000
namespace Fp
open PySem PySem.Spec PyProof.Rows L2
/-! ### the tape: what is drawn from -/
def TapeAt (ca : Addr) (H : Hp) (h : Addr) : Prop := ∃ (cs : List Int) (a l sd : Int), H h = some (.lst [.ref ca, .int a, .int l, .int sd]) ∧ H ca = some (.lst (cs.map V.int)) ∧ 0 ≤ a ∧ 0 ≤ l
theorem TapeAt.ne {H : Hp} {h ca : Addr} {cs : List Int} {a l sd : Int} (h1 : H h = some (.lst [.ref ca, .int a, .int l, .int sd])) (h2 : H ca = some (.lst (cs.map V.int))) : ca ≠ h := by
  refine ne_of h2 h1 fun z => ?_
  injection z with z
  cases cs with
  | nil => cases z
  | cons c r =>
    rw [List.map_cons] at z
    injection z with z1
    cases z1
theorem TapeAt.lst {ca : Addr} {H : Hp} {h : Addr} (x : TapeAt ca H h) : ∃ xs, H h = some (.lst xs) := by
  obtain ⟨cs, a, l, sd, h1, _⟩ := x
  exact ⟨_, h1⟩
theorem TapeAt.cells {ca : Addr} {H : Hp} {h : Addr} (x : TapeAt ca H h) : ∃ xs, H ca = some (.lst xs) := by
  obtain ⟨cs, a, l, sd, h1, h2, _⟩ := x
  exact ⟨_, h2⟩
theorem TapeAt.same {ca : Addr} {H H' : Hp} {h : Addr} (x : TapeAt ca H h) (k : Same H H') : TapeAt ca H' h := by
  obtain ⟨cs, a, l, sd, h1, h2, r⟩ := x
  exact ⟨cs, a, l, sd, k _ _ h1, k _ _ h2, r⟩
theorem TapeAt.off {ca : Addr} {H H' : Hp} {h d : Addr} (x : TapeAt ca H h) (k : But d H H') (h1 : h ≠ d) (h2 : ca ≠ d) : TapeAt ca H' h := by
  obtain ⟨cs, a, l, sd, g1, g2, r⟩ := x
  exact ⟨cs, a, l, sd, k _ _ g1 h1, k _ _ g2 h2, r⟩
theorem TapeAt.neD {ca : Addr} {H : Hp} {h d : Addr} {kvs : List (Key × V)} (x : TapeAt ca H h) (hd : H d = some (.dK kvs)) : d ≠ h := by
  obtain ⟨xs, hx⟩ := x.lst
  exact ne_of hd hx (by intro z; cases z)
/-- a new thing stands apart from the tape -/
theorem TapeAt.fresh {ca : Addr} {H : Hp} {h d : Addr} (x : TapeAt ca H h) (hd : H d = none) : d ≠ h ∧ d ≠ ca := by
  obtain ⟨xs, hx⟩ := x.lst
  obtain ⟨ys, hy⟩ := x.cells
  exact ⟨(ne_of_none hx hd).symm, (ne_of_none hy hd).symm⟩
section
variable {P : Program} {w : World} {K : PySem.W.Frag} {mg : Str → Option Value} {base : Heap}
def spTape (K : PySem.W.Frag) : Sp := fun vs H Q _ => ∃ (a : Addr) (ns : List Int), vs = [.ref a] ∧ SqL K H a (ns.map V.int) ∧ ∀ H' h ca, Same H H' → TapeAt ca H' h → Q (.ref h) H'
abbrev nTape : List Str := ["_law_script"]
theorem sc_tape : FnScope nTape ["_law_script"] (defScope s__law_tape) := ⟨rfl, rfl, rfl, by decide +kernel, rfl, by decide +kernel, by decide +kernel⟩
theorem ok_tape (T : Top K mg) : Ok P w K mg base 1 "_law_tape" ["_law_script"] (spTape K) := by
  obtain ⟨fd, F⟩ := fn__law_tape T
  refine ⟨⟨fd, ?_, F.bindsN fun _ _ _ _ _ _ us hl => match us, hl with | [_], _ => rfl⟩, g__law_tape T, F.kp⟩
  refine F.ok sc_tape (fun vs H Q E h => ?_) (fun cdv A outer s H vs Q E hr h => ?_)
  · obtain ⟨a, ns, rfl, _⟩ := h
    rfl
  · obtain ⟨a, ns, rfl, hS, q⟩ := h
    have nd := sc_tape.nd
    have hs : sizeLine = 16777216 := sizeLine_eq
    refine ⟨_, PSs.nox (pss_one (ps_ret (pe_lst (pa_cons (pe_callTy call_list_of (by rfl) (f_list T) (by decide +kernel) (pa_cons (pv 0) pa_nil)) (pa_cons pe_int (pa_cons pe_int (pa_cons pe_int pa_nil))))))), ?_⟩
    refine ⟨_, rfl, a, _, rfl, .inl hS, fun l hl => ?_⟩
    have s1 := same_upd (o := .lst (ns.map V.int)) hl
    refine ⟨by show 4 ≤ sizeLine; omega, fun p np => ?_⟩
    have e1 : (upd H l (.lst (ns.map V.int))) l = some (.lst (ns.map V.int)) := upd_same
    exact q _ p l (s1.trans (same_upd np)) ⟨ns, 0, 0, 11, upd_same, (by rw [upd_ne (ne_of_none e1 np)]; exact e1), by decide, by decide⟩
def spTDraw : Sp := fun vs H Q _ => ∃ (h ca : Addr) (n : Int), vs = [.ref h, .int n] ∧ 0 < n ∧ n < 1073741824 ∧ TapeAt ca H h ∧ ∀ (r : Int) (H' : Hp), 0 ≤ r → r < n → TapeAt ca H' h → But h H H' → Q (.int r) H'
abbrev nTDraw : List Str := ["_law_tape_here", "_law_many", "_law_cell", "_law_digit", "_law_mixed"]
theorem sc_tdraw : FnScope nTDraw ["_law_tape_here", "_law_many"] (defScope s__law_draw) := ⟨rfl, rfl, rfl, by decide +kernel, rfl, by decide +kernel, by decide +kernel⟩
theorem ok_tdraw (T : Top K mg) : Ok P w K mg base 1 "_law_draw" ["_law_tape_here", "_law_many"] spTDraw := by
  obtain ⟨fd, F⟩ := fn__law_draw T
  refine ⟨⟨fd, ?_, F.bindsN fun _ _ _ _ _ _ us hl => match us, hl with | [_, _], _ => rfl⟩, g__law_draw T, F.kp⟩
  refine F.ok sc_tdraw (fun vs H Q E h => ?_) (fun cdv A outer s H vs Q E hr h => ?_)
  · obtain ⟨h, ca, n, rfl, _⟩ := h
    rfl
  · obtain ⟨h, ca, n, rfl, hn0, hn1, hh, q⟩ := h
    have nd := sc_tdraw.nd
    refine ⟨_, PSs.nox (pss_cons (ps_if (PW.pt (pw_and (pt_cmpR op_eq (pe_ix ix_list (pv 0) pe_int (fun _ _ => rfl)) pe_int (nomark _)) (pw_and1 (pt_cmpR op_lt (pe_ix ix_list (pv 0) pe_int (fun _ _ => rfl)) (pe_callB call_len (by rfl) (f_len T) PySem.boot_len (pa_cons (pe_ix ix_list (pv 0) pe_int (fun _ _ => rfl)) pa_nil)) (nomark _)))))
        (pss_cons (ps_set (i := 2) nd rfl (Or.inl rfl) (pe_ix ix_list (pe_ix ix_list (pv 0) pe_int (fun _ _ => rfl)) (pe_ix ix_list (pv 0) pe_int (fun _ _ => rfl)) (fun _ _ => rfl)))
        (pss_cons (ps_asg (pe_op op_add (pe_ix ix_list (pv 0) pe_int (fun _ _ => rfl)) pe_int) (pg_sub (pv 0) pe_int set_list))
        (pss_cons (ps_if (pt_cmpR op_ge (pv 2) (pe_op op_pow pe_int pe_int) (nomark _)) (pss_one (ps_asg (pv 2) (pg_sub (pv 0) pe_int set_list))) pss_nil)
        (pss_one (ps_asg (pe_op op_mod (pe_callTy call_int1 (by rfl) (f_int T) boot_int (pa_cons (pe_op op_add (pe_op op_mul (pe_ix ix_list (pv 0) pe_int (fun _ _ => rfl)) pe_int) (pe_op op_mod (pe_callTy call_int1 (by rfl) (f_int T) boot_int (pa_cons (pv 2) pa_nil)) pe_int)) pa_nil)) pe_int) (pg_sub (pv 0) pe_int set_list)))))) pss_nil)
      (pss_cons (ps_if (pt_cmpR op_gt (pe_ix ix_list (pv 0) pe_int (fun _ _ => rfl)) pe_int (nomark _))
        (pss_cons (ps_set (i := 3) nd rfl (Or.inl rfl) (pe_op op_mod (pe_callTy call_int1 (by rfl) (f_int T) boot_int (pa_cons (pe_ix ix_list (pv 0) pe_int (fun _ _ => rfl)) pa_nil)) (pv 1)))
        (pss_cons (ps_asg (pe_op op_fdiv (pe_ix ix_list (pv 0) pe_int (fun _ _ => rfl)) (pv 1)) (pg_sub (pv 0) pe_int set_list))
        (pss_one (ps_ret (pv 3))))) pss_nil)
      (pss_cons (ps_asg (pe_op op_mod (pe_callTy call_int1 (by rfl) (f_int T) boot_int (pa_cons (pe_op op_add (pe_op op_mul (pe_ix ix_list (pv 0) pe_int (fun _ _ => rfl)) pe_int) pe_int) pa_nil)) pe_int) (pg_sub (pv 0) pe_int set_list))
      (pss_cons (ps_set (i := 4) nd rfl (Or.inl rfl) (pe_op op_mod (pe_callTy call_int1 (by rfl) (f_int T) boot_int (pa_cons (pe_op op_mul (pe_ix ix_list (pv 0) pe_int (fun _ _ => rfl)) (pe_op op_add (pe_op op_fdiv (pe_ix ix_list (pv 0) pe_int (fun _ _ => rfl)) pe_int) pe_int)) pa_nil)) pe_int))
      (pss_one (ps_ret (pe_op op_mod (pe_callTy call_int1 (by rfl) (f_int T) boot_int (pa_cons (pe_op op_fdiv (pv 4) pe_int) pa_nil)) (pv 1)))))))), ?_⟩
    obtain ⟨cs, a, l, sd, h1, h2, h5, h6⟩ := id hh
    have hne := TapeAt.ne h1 h2
    obtain ⟨k, rfl⟩ : ∃ k : Nat, a = k := ⟨a.toNat, (Int.toNat_of_nonneg h5).symm⟩
    refine ⟨_, rfl, h, _, 2, _, rfl, rfl, SqL.of h1, rfl, rfl, _, rfl, ?_⟩
    by_cases hl0 : l = 0
    case' neg =>
      rw [decide_eq_false (show ¬ V.int l = V.int 0 from fun z => hl0 (by injection z))]
      refine iteF ?_
      have hk := hh
      have kb := But.refl h H
    case' pos =>
      rw [decide_eq_true (show V.int l = V.int 0 by rw [hl0])]
      refine iteT ?_
      refine ⟨_, rfl, h, _, 1, _, rfl, rfl, SqL.of h1, rfl, _, rfl, h, _, 0, _, rfl, rfl, SqL.of h1, rfl, _, _, rfl, .inl ⟨_, SqL.of h2, rfl⟩, _, _, rfl, rfl, _, rfl, ?_⟩
      refine ite2 (fun ha => ?_) (fun ha => ?_)
    case' pos.refine_2 =>
      have hk := hh
      have kb := But.refl h H
    case' pos.refine_1 =>
      have ha2 : k < cs.length := by
        have := of_decide_eq_true ha
        rw [List.length_map] at this
        omega
      have ek : (cs.map V.int)[k]? = some (.int cs[k]) := by
        rw [List.getElem?_map, List.getElem?_eq_getElem ha2]
        rfl
      generalize cs[k] = cell at ek
      refine ⟨_, rfl, h, _, 0, _, rfl, rfl, SqL.of h1, rfl, _, rfl, h, _, 1, _, rfl, rfl, SqL.of h1, rfl, ca, _, _, _, rfl, rfl, SqL.of h2, atI_nat ek, ?_⟩
      refine ⟨_, rfl, h, _, 1, _, rfl, rfl, SqL.of h1, rfl, _, _, rfl, rfl, _, rfl, h, _, 1, 1, rfl, rfl, h1, rfl, ?_⟩
      refine ⟨_, rfl, _, _, rfl, rfl, ⟨by decide, by decide, by decide⟩, _, _, rfl, rfl, _, rfl, ?_⟩
      refine ite2 (fun hg => ?_) (fun hg => ?_)
    case' pos.refine_1.refine_2 =>
      have e1 : (upd H h (.lst [.ref ca, .int ((k : Int) + 1), .int l, .int sd])) h = some (.lst [.ref ca, .int ((k : Int) + 1), .int l, .int sd]) := upd_same
      have e2 : (upd H h (.lst [.ref ca, .int ((k : Int) + 1), .int l, .int sd])) ca = some (.lst (cs.map V.int)) := by rw [upd_ne hne]; exact h2
      have kc : But h H (upd H h (.lst [.ref ca, .int ((k : Int) + 1), .int l, .int sd])) := but_upd
      have hl1 : 0 ≤ l := h6
      refine ⟨_, rfl, h, _, 3, _, rfl, rfl, SqL.of upd_same, rfl, _, _, rfl, rfl, .inr ⟨by decide, by decide⟩, _, rfl, .inl ⟨_, rfl, _, _, rfl, rfl, (by show (0 : Int) < _; decide), _, _, rfl, rfl, .inl ⟨_, rfl, _, _, rfl, rfl, (by show (0 : Int) < _; decide), _, rfl, h, _, 3, 3, rfl, rfl, upd_same, rfl, ?_⟩⟩⟩
      have hk : TapeAt ca (upd (upd H h (.lst [.ref ca, .int ((k : Int) + 1), .int l, .int sd])) h (.lst [.ref ca, .int ((k : Int) + 1), .int l, .int ((sd * 48271 + cell % 2147483629) % 2147483647)])) h := ⟨cs, _, _, _, upd_same, by rw [upd_ne hne]; exact e2, by omega, hl1⟩
      have kb : But h H (upd (upd H h (.lst [.ref ca, .int ((k : Int) + 1), .int l, .int sd])) h (.lst [.ref ca, .int ((k : Int) + 1), .int l, .int ((sd * 48271 + cell % 2147483629) % 2147483647)])) := kc.trans but_upd
    case' pos.refine_1.refine_1 =>
      refine ⟨_, rfl, _, rfl, h, _, 2, 2, rfl, rfl, upd_same, rfl, ?_⟩
      have e1 : (upd (upd H h (.lst [.ref ca, .int ((k : Int) + 1), .int l, .int sd])) h (.lst [.ref ca, .int ((k : Int) + 1), .int cell, .int sd])) h = some (.lst [.ref ca, .int ((k : Int) + 1), .int cell, .int sd]) := upd_same
      have e2 : (upd (upd H h (.lst [.ref ca, .int ((k : Int) + 1), .int l, .int sd])) h (.lst [.ref ca, .int ((k : Int) + 1), .int cell, .int sd])) ca = some (.lst (cs.map V.int)) := by rw [upd_ne hne, upd_ne hne]; exact h2
      have kc : But h H (upd (upd H h (.lst [.ref ca, .int ((k : Int) + 1), .int l, .int sd])) h (.lst [.ref ca, .int ((k : Int) + 1), .int cell, .int sd])) := but_upd.trans but_upd
      have hl1 : 0 ≤ cell := by
        have hg : (10 : Int) ^ 18 ≤ cell := of_decide_eq_true hg
        exact Int.le_trans (by decide) hg
      refine ⟨_, rfl, h, _, 3, _, rfl, rfl, SqL.of upd_same, rfl, _, _, rfl, rfl, .inr ⟨by decide, by decide⟩, _, rfl, .inl ⟨_, rfl, _, _, rfl, rfl, (by show (0 : Int) < _; decide), _, _, rfl, rfl, .inl ⟨_, rfl, _, _, rfl, rfl, (by show (0 : Int) < _; decide), _, rfl, h, _, 3, 3, rfl, rfl, upd_same, rfl, ?_⟩⟩⟩
      have hk : TapeAt ca (upd (upd (upd H h (.lst [.ref ca, .int ((k : Int) + 1), .int l, .int sd])) h (.lst [.ref ca, .int ((k : Int) + 1), .int cell, .int sd])) h (.lst [.ref ca, .int ((k : Int) + 1), .int cell, .int ((sd * 48271 + cell % 2147483629) % 2147483647)])) h := ⟨cs, _, _, _, upd_same, by rw [upd_ne hne]; exact e2, by omega, hl1⟩
      have kb : But h H (upd (upd (upd H h (.lst [.ref ca, .int ((k : Int) + 1), .int l, .int sd])) h (.lst [.ref ca, .int ((k : Int) + 1), .int cell, .int sd])) h (.lst [.ref ca, .int ((k : Int) + 1), .int cell, .int ((sd * 48271 + cell % 2147483629) % 2147483647)])) := kc.trans but_upd
    all_goals
      obtain ⟨cs1, a1, l1, sd1, g1, g2, g5, g6⟩ := hk
      have gne := TapeAt.ne g1 g2
      refine ⟨_, rfl, h, _, 2, _, rfl, rfl, SqL.of g1, rfl, _, _, rfl, rfl, _, rfl, ?_⟩
      refine ite2 (fun hc => ?_) (fun hc => ?_)
      · refine ⟨_, rfl, h, _, 2, _, rfl, rfl, SqL.of g1, rfl, .inl ⟨_, rfl, _, rfl, _, _, rfl, rfl, hn0, _, rfl, h, _, 2, _, rfl, rfl, SqL.of g1, rfl, _, rfl, _, _, rfl, rfl, ⟨hn0, hn1⟩, _, rfl, h, _, 2, 2, rfl, rfl, g1, rfl, _, rfl, ?_⟩⟩
        exact q _ _ (Int.emod_nonneg _ (by omega)) (Int.emod_lt_of_pos _ hn0) ⟨cs1, a1, l1 / n, sd1, upd_same, by rw [upd_ne gne]; exact g2, g5, Int.ediv_nonneg g6 (Int.le_of_lt hn0)⟩ (kb.trans but_upd)
      · refine ⟨_, rfl, h, _, 3, _, rfl, rfl, SqL.of g1, rfl, _, _, rfl, rfl, .inr ⟨by decide, by decide⟩, _, _, rfl, rfl, .inl ⟨_, rfl, _, _, rfl, rfl, (by show (0 : Int) < _; decide), _, rfl, h, _, 3, 3, rfl, rfl, g1, rfl, ?_⟩⟩
        refine ⟨_, rfl, h, _, 3, _, rfl, rfl, SqL.of upd_same, rfl, _, rfl, h, _, 3, _, rfl, rfl, SqL.of upd_same, rfl, _, _, rfl, rfl, ⟨by decide, by decide⟩, _, _, rfl, rfl, _, _, rfl, rfl, .inl ⟨Int.lt_of_lt_of_le (by decide) (Int.emod_nonneg _ (by decide)), Int.lt_trans (Int.emod_lt_of_pos _ (by decide)) (by decide)⟩, .inl ⟨_, rfl, _, _, rfl, rfl, (by show (0 : Int) < _; decide), ?_⟩⟩
        refine ⟨_, rfl, _, _, rfl, rfl, ⟨by decide, by decide⟩, .inl ⟨_, rfl, _, rfl, _, _, rfl, rfl, hn0, ?_⟩⟩
        exact q _ _ (Int.emod_nonneg _ (by omega)) (Int.emod_lt_of_pos _ hn0) ⟨cs1, a1, l1, _, upd_same, by rw [upd_ne gne]; exact g2, g5, g6⟩ (kb.trans but_upd)
end
end Fp

set_option Elab.async false
set_option linter.all false
set_option maxRecDepth 100000
set_option maxHeartbeats 4000000
namespace Fp
open PySem PySem.Spec PyProof.Rows L2 TL
def over (z r : Str) : Prop := ∀ b ∈ r.cps.toList, b ∈ z.cps.toList
theorem over_xyz {z r : Str} (hz : xyz z) (h : over z r) : xyz r := fun c hc => hz c (h c hc)
theorem join_over (z : Str) : ∀ ys : List Str, (∀ y ∈ ys, ∃ c, y = ⟨#[c]⟩ ∧ c ∈ z.cps.toList) → over z (PySem.Txt.join "" ys) ∧ (PySem.Txt.join "" ys).length = ys.length := by
  intro ys
  have h0 : ∀ zs : List Str, (∀ y ∈ zs, ∃ c, y = ⟨#[c]⟩ ∧ c ∈ z.cps.toList) → (∀ c ∈ joinL [] (zs.map tl), c ∈ z.cps.toList) ∧ (joinL [] (zs.map tl)).length = zs.length := by
    intro zs
    induction zs with
    | nil => intro _; exact ⟨fun c hc => (by cases hc), rfl⟩
    | cons y r ih =>
      intro h
      obtain ⟨c, rfl, hc⟩ := h y List.mem_cons_self
      obtain ⟨i1, i2⟩ := ih fun z hz => h z (List.mem_cons_of_mem _ hz)
      cases r with
      | nil =>
        refine ⟨fun d hd => ?_, rfl⟩
        have : d = c := by simpa [joinL, tl] using hd
        rw [this]
        exact hc
      | cons z r =>
        have e : joinL [] ((⟨#[c]⟩ :: z :: r : List Str).map tl) = c :: joinL [] ((z :: r).map tl) := rfl
        rw [e]
        refine ⟨fun d hd => ?_, by rw [List.length_cons, i2]; rfl⟩
        rcases List.mem_cons.mp hd with rfl | hd
        · exact hc
        · exact i1 d hd
  intro h
  obtain ⟨h1, h2⟩ := h0 ys h
  have e : tl (PySem.Txt.join "" ys) = joinL [] (ys.map tl) := by
    rw [join_eq, tl_join]
    rfl
  refine ⟨fun c hc => h1 c ?_, ?_⟩
  · rw [← e]
    exact hc
  · rw [len_tl, e, h2]
section
variable {P : Program} {w : World} {K : PySem.W.Frag} {mg : Str → Option Value} {base : Heap}
def spTCk : Sp := fun vs H Q _ => ∃ h ca : Addr, vs = [.ref h] ∧ TapeAt ca H h ∧ ∀ H' c, TapeAt ca H' h → But h H H' → isCk c → Q (.int c) H'
theorem sc_tck : FnScope ["_law_tape_here"] ["_law_tape_here"] (defScope s__law_clock) := ⟨rfl, rfl, rfl, by decide +kernel, rfl, by decide +kernel, by decide +kernel⟩
theorem ok_tck (T : Top K mg) : Ok P w K mg base 2 "_law_clock" ["_law_tape_here"] spTCk := by
  obtain ⟨fd, F⟩ := fn__law_clock T
  refine ⟨⟨fd, ?_, F.bindsN fun _ _ _ _ _ _ us hl => match us, hl with | [_], _ => rfl⟩, g__law_clock T, F.kp⟩
  refine F.ok sc_tck (fun vs H Q E h => ?_) (fun cdv A outer s H vs Q E hr h => ?_)
  · obtain ⟨h, ca, rfl, _⟩ := h
    rfl
  · obtain ⟨h, ca, rfl, hh, q⟩ := h
    refine ⟨_, PSs.nox (pss_one (ps_ret (pe_ix ix_list (pe_lst (pa_cons pe_int (pa_cons pe_int (pa_cons pe_int (pa_cons pe_int (pa_cons pe_int (pa_cons pe_int pa_nil))))))) (pc (ok_tdraw T) hr (pa_cons (pv 0) (pa_cons pe_int pa_nil))) (fun _ _ => rfl)))), ?_⟩
    refine ⟨by show 6 ≤ sizeLine; rw [sizeLine_eq]; decide, fun L hL => ?_⟩
    have hne := (hh.fresh hL).1.symm
    refine ⟨_, rfl, h, ca, 6, rfl, by decide, by decide, hh.same (same_upd hL), fun r H1 hr0 hr1 h1 k1 => ?_⟩
    obtain ⟨n, rfl⟩ : ∃ n : Nat, r = n := ⟨r.toNat, (Int.toNat_of_nonneg hr0).symm⟩
    have hn : n < 6 := by omega
    have e : ∃ c : Int, isCk c ∧ [V.int 2, V.int 3, V.int 2, V.int 3, V.int 5, V.int 7][n]? = some (V.int c) := by
      have : n = 0 ∨ n = 1 ∨ n = 2 ∨ n = 3 ∨ n = 4 ∨ n = 5 := by omega
      rcases this with rfl | rfl | rfl | rfl | rfl | rfl
      · exact ⟨2, .inl rfl, rfl⟩
      · exact ⟨3, .inr (.inl rfl), rfl⟩
      · exact ⟨2, .inl rfl, rfl⟩
      · exact ⟨3, .inr (.inl rfl), rfl⟩
      · exact ⟨5, .inr (.inr (.inl rfl)), rfl⟩
      · exact ⟨7, .inr (.inr (.inr rfl)), rfl⟩
    obtain ⟨c, hc, ec⟩ := e
    refine ⟨L, _, _, _, rfl, rfl, .inl (.inl (k1 _ _ upd_same hne.symm)), atI_nat ec, ?_⟩
    exact q H1 c h1 (fun b o z n => k1 b o (same_upd hL b o z) n) hc
def spTWrd : Sp := fun vs H Q _ => ∃ (h ca : Addr) (z : Str) (m : Nat), vs = [.ref h, .str z, .int m] ∧ TapeAt ca H h ∧ 1 ≤ z.length ∧ z.length ≤ 1000 ∧ m ≤ 1000 ∧ ∀ H' r, TapeAt ca H' h → But h H H' → over z r → r.length ≤ m → Q (.str r) H'
abbrev nTWrd : List Str := ["_law_tape_here", "_law_letters", "_law_most", "_law_k"]
theorem sc_twrd : FnScope nTWrd ["_law_tape_here", "_law_letters", "_law_most"] (defScope s__law_word) := ⟨rfl, rfl, rfl, by decide +kernel, rfl, by decide +kernel, by decide +kernel⟩
theorem ok_twrd (T : Top K mg) : Ok P w K mg base 3 "_law_word" ["_law_tape_here", "_law_letters", "_law_most"] spTWrd := by
  obtain ⟨fd, F⟩ := fn__law_word T
  refine ⟨⟨fd, ?_, F.bindsN fun _ _ _ _ _ _ us hl => match us, hl with | [_, _, _], _ => rfl⟩, g__law_word T, F.kp⟩
  refine F.ok sc_twrd (fun vs H Q E h => ?_) (fun cdv A outer s H vs Q E hr h => ?_)
  · obtain ⟨h, ca, z, m, rfl, _⟩ := h
    rfl
  · obtain ⟨h, ca, z, m, rfl, hh, hz1, hz2, hm, q⟩ := h
    have nd := sc_twrd.nd
    have hs : sizeLine = 16777216 := sizeLine_eq
    have hr1 : Room 1 _ := hr.mono (by decide)
    refine ⟨_, PSs.nox (pss_one (ps_ret (pe_join pe_str (pe_lc (own := [("_law_k", 3)]) (g := gName 3) (tt := tYes) rfl nd (pi_range1 (by rfl) (f_range T) (pa_cons (pc (ok_tdraw T) hr1 (pa_cons (pv 0) (pa_cons (pe_op op_add (pv 2) pe_int) pa_nil))) pa_nil))
      (blkOk_by (N := nTWrd) (sc := defScope s__law_word) (by decide +kernel)) (fun _ _ _ _ _ => pg_name (i := 3) nd rfl (Or.inl rfl)) (fun _ _ _ _ _ => pts_nil)
      (fun _ _ _ _ _ => pe_item_str (pv 1) (pc (ok_tdraw T) hr1 (pa_cons (pv 0) (pa_cons (pe_callB call_len_str (by rfl) (f_len T) PySem.boot_len (pa_cons (pv 1) pa_nil)) pa_nil))) (fun _ _ => rfl)))))), ?_⟩
    refine ⟨⟨_, rfl⟩, ?_⟩
    refine ⟨_, rfl, _, rfl, _, _, rfl, rfl, h, ca, (m : Int) + 1, rfl, by omega, by omega, hh, fun r1 H1 hr0 hr2 hh1 k1 => ?_⟩
    refine ⟨r1, rfl, by omega, by omega, fun D hD => ?_⟩
    obtain ⟨nDh, nDc⟩ := hh1.fresh hD
    refine lc_it walk_range (fun i H' => (∃ ys : List Str, H' D = some (.lst (ys.map V.str)) ∧ ys.length = i ∧ ∀ y ∈ ys, ∃ c, y = ⟨#[c]⟩ ∧ c ∈ z.cps.toList) ∧ TapeAt ca H' h ∧ But h H1 H')
      ⟨⟨[], upd_same, rfl, fun y hy => (by cases hy)⟩, hh1.same (same_upd hD), But.of (same_upd hD)⟩ (fun _ _ _ _ => trivial) ?_ ?_
    · rintro i x H2 H3 hi ⟨⟨ys, p1, p2, p3⟩, p4, p5⟩ ⟨rfl, rfl⟩
      refine ⟨rfl, ?_⟩
      refine ⟨_, rfl, _, rfl, _, rfl, z, rfl, by omega, h, ca, (z.length : Int), rfl, by omega, by omega, p4, fun r2 H4 hr3 hr4 hh4 k4 => ?_⟩
      obtain ⟨n, rfl⟩ : ∃ n : Nat, r2 = n := ⟨r2.toNat, (Int.toNat_of_nonneg hr3).symm⟩
      have hn : n < z.cps.size := by
        have : z.length = z.cps.size := rfl
        omega
      refine ⟨z, _, z.cps[n], rfl, rfl, by omega, by omega, hr4, ?_, ?_⟩
      · rw [Int.toNat_natCast, Array.getElem?_eq_getElem hn]
      · refine ⟨_, k4 _ _ p1 nDh, ?_, ⟨ys ++ [⟨#[z.cps[n]]⟩], ?_, ?_, ?_⟩, ?_, ?_⟩
        · rw [List.length_map]
          omega
        · rw [upd_same, List.map_append]
          rfl
        · rw [List.length_append, p2]
          rfl
        · intro y hy
          rcases List.mem_append.mp hy with hy | hy
          · exact p3 y hy
          · have : y = ⟨#[z.cps[n]]⟩ := by simpa using hy
            exact ⟨_, this, by simp⟩
        · exact hh4.off (d := D) but_upd nDh.symm nDc.symm
        · intro b o z' n'
          have nb : b ≠ D := ne_of_none z' hD
          rw [upd_ne nb]
          exact k4 b o (p5 b o z' n') n'
    · rintro H' ⟨⟨ys, p1, p2, p3⟩, p4, p5⟩
      obtain ⟨j1, j2⟩ := join_over z ys p3
      refine ⟨_, D, ys, rfl, rfl, .inl (.inl (.inl p1)), ?_, ?_⟩
      · have e : (ys.map (·.length)).sum = ys.length := by
          clear p1 p2 j1 j2
          induction ys with
          | nil => rfl
          | cons y r ih =>
            obtain ⟨c, rfl, _⟩ := p3 y List.mem_cons_self
            rw [List.map_cons, List.sum_cons, ih fun w hw => p3 w (List.mem_cons_of_mem _ hw), List.length_cons]
            show 1 + r.length = _
            omega
        rw [e]
        show ys.length + ys.length * 0 ≤ _
        omega
      · exact q H' _ p4 (fun b o z' n' => p5 b o (k1 b o z' n') n') j1 (by omega)
theorem over_put {z : Str} {m : Nat} {l : Tb} {x : Str} {n : Int} (h : OverT z.cps.toList m l) (hx : over z x) (hl : x.length ≤ m) : OverT z.cps.toList m (putT l x n) :=
  ⟨fun p hp => by
    rcases mem_put hp with rfl | hp
    · exact hx
    · exact h.ov p hp, fun p hp => by
    rcases mem_put hp with rfl | hp
    · exact hl
    · exact h.ln p hp⟩
def spTSome : Sp := fun vs H Q _ => ∃ (h ca : Addr) (c : Int) (z : Str) (m k : Nat), vs = [.ref h, .int c, .str z, .int m, .int k] ∧ TapeAt ca H h ∧ 2 ≤ c ∧ c ≤ 7 ∧ xyz z ∧ 1 ≤ z.length ∧ z.length ≤ 1000 ∧ m ≤ 1000 ∧ k ≤ 1000 ∧
  ∀ H' d l, TapeAt ca H' h → But h H H' → H d = none → H' d = some (.dK (kv l)) → VT c m k l → OverT z.cps.toList m l → Q (.ref d) H'
abbrev nTSome : List Str := ["_law_tape_here", "_law_clock_here", "_law_letters", "_law_most", "_law_many", "_law_found", "_law_k"]
theorem sc_tsome : FnScope nTSome ["_law_tape_here", "_law_clock_here", "_law_letters", "_law_most", "_law_many"] (defScope s__law_some) := ⟨rfl, rfl, rfl, by decide +kernel, rfl, by decide +kernel, by decide +kernel⟩
theorem ok_tsome (T : Top K mg) : Ok P w K mg base 4 "_law_some" ["_law_tape_here", "_law_clock_here", "_law_letters", "_law_most", "_law_many"] spTSome := by
  obtain ⟨fd, F⟩ := fn__law_some T
  refine ⟨⟨fd, ?_, F.bindsN fun _ _ _ _ _ _ us hl => match us, hl with | [_, _, _, _, _], _ => rfl⟩, g__law_some T, F.kp⟩
  refine F.ok sc_tsome (fun vs H Q E h => ?_) (fun cdv A outer s H vs Q E hr h => ?_)
  · obtain ⟨h, ca, c, z, m, k, rfl, _⟩ := h
    rfl
  · obtain ⟨h, ca, c, z, m, k, rfl, hh, hc2, hc7, hz, hz1, hz2, hm, hk, q⟩ := h
    have nd := sc_tsome.nd
    have hu := hu_of hr
    have hs : sizeLine = 16777216 := sizeLine_eq
    have hr1 : Room 1 _ := hr.mono (by decide)
    refine ⟨_, PSs.nox (pss_cons (ps_set (i := 5) nd rfl (Or.inl rfl) pe_dnewK)
      (pss_cons (ps_for PassesOwn.never rfl (pi_range1 (by rfl) (f_range T) (pa_cons (pc (ok_tdraw T) hr1 (pa_cons (pv 0) (pa_cons (pe_op op_add (pv 4) pe_int) pa_nil))) pa_nil)) (pg_name (i := 6) nd rfl (Or.inl rfl))
        (pss_one (ps_dput hu (pv 5) (pc (ok_twrd T) hr (pa_cons (pv 0) (pa_cons (pv 2) (pa_cons (pv 3) pa_nil)))) (pe_op op_add pe_int (pc (ok_tdraw T) hr1 (pa_cons (pv 0) (pa_cons (pe_op op_sub (pv 1) pe_int) pa_nil)))) rfl)))
      (pss_one (ps_ret (pv 5))))), ?_⟩
    refine fun F0 hF => ?_
    obtain ⟨nFh, nFc⟩ := hh.fresh hF
    refine ⟨_, rfl, _, rfl, _, _, rfl, rfl, h, ca, (k : Int) + 1, rfl, by omega, by omega, hh.same (same_upd hF), fun r1 H1 hr0 hr2 hh1 k1 => ?_⟩
    refine ⟨r1, rfl, by omega, by omega, ?_⟩
    refine for_it walk_range (fun i σ H' => (∃ v, σ = [some (.ref h), some (.int c), some (.str z), some (.int m), some (.int k), some (.ref F0), v]) ∧ (∃ l, H' F0 = some (.dK (kv l)) ∧ VT c m i l ∧ OverT z.cps.toList m l) ∧ TapeAt ca H' h ∧ But h H H')
      ⟨⟨none, rfl⟩, ⟨[], k1 _ _ upd_same nFh, vt_nil c m, ⟨fun p hp => (by cases hp), fun p hp => (by cases hp)⟩⟩, hh1, fun b o e n => k1 b o (same_upd hF b o e) n⟩ (fun _ _ _ _ _ => trivial) ?_ ?_
    · rintro i x σ H2 H3 hi ⟨⟨v, rfl⟩, ⟨l, p1, p2, p6⟩, p3, p4⟩ ⟨rfl, rfl⟩
      refine ⟨_, rfl, _, rfl, _, _, rfl, rfl, h, ca, c - 1, rfl, by omega, by omega, p3, fun r2 H4 g0 g1 hh4 k4 => ?_⟩
      refine ⟨_, _, rfl, rfl, _, rfl, _, rfl, _, rfl, _, rfl, h, ca, z, m, rfl, hh4, hz1, hz2, hm, fun H5 x5 hh5 k5 hx5 hl5 => ?_⟩
      have e5 : H5 F0 = some (.dK (kv l)) := k5 _ _ (k4 _ _ p1 nFh) nFh
      have hlen := p2.ln
      refine ⟨F0, _, rfl, DPut.k (k := Sum.inr x5) e5 (by rw [kv_len]; omega), ?_⟩
      refine ⟨⟨_, rfl⟩, ⟨putT l x5 (1 + r2), ?_, vt_put p2 (over_xyz hz hx5) hl5 (by omega) (by omega), over_put p6 hx5 hl5⟩, hh5.off but_upd nFh.symm nFc.symm, fun b o e n => ?_⟩
      · rw [upd_same, putK_kv]
      · rw [upd_ne (ne_of_none e hF)]
        exact k5 b o (k4 b o (p4 b o e n) n) n
    · rintro σ H' ⟨⟨v, rfl⟩, ⟨l, p1, p2, p6⟩, p3, p4⟩
      refine ⟨_, rfl, ?_⟩
      exact q H' F0 l p3 p4 hF p1 (p2.mono (Nat.le_refl _) (by omega)) p6
def spFlag : Sp := fun vs H Q _ => ∃ a b : Bool, vs = [.bl a, .bl b] ∧ Q (.bl (decide (a = b))) H
abbrev nFlag : List Str := ["_law_told", "_law_due_here"]
/-- the greatest length, -1 for nothing -/
structure LongOf (l : Tb) (m : Int) : Prop where
  lo : -1 ≤ m
  le : ∀ p ∈ l, (p.1.length : Int) ≤ m
  at_ : m = -1 ∨ ∃ p ∈ l, (p.1.length : Int) = m
theorem unlockT {H H' : Hp} {d : Addr} {o : HO} (hd : H d = some o) (k : But d H H') : Same H (upd H' d o) := fun b x e => by
  by_cases n : b = d
  · rw [n, upd_same, ← hd, ← n, e]
  · rw [upd_ne n]
    exact k b x e n
def spLong : Sp := fun vs H Q _ => ∃ (d : Addr) (l : Tb), vs = [.ref d] ∧ H d = some (.dK (kv l)) ∧ (∀ p ∈ l, p.1.length ≤ 1000) ∧ l.length ≤ 1000000 ∧ ∀ H' m, Same H H' → LongOf l m → Q (.int m) H'
abbrev nLong : List Str := ["_law_words", "_law_word_here"]
end
end Fp

set_option Elab.async false
set_option linter.all false
set_option maxRecDepth 100000
set_option maxHeartbeats 4000000
namespace Fp
open PySem PySem.Spec PyProof.Rows L2
/-! ### reckoned by the clock at each step -/
def addC (c : Int) (es a : Tb) : Tb := es.foldl (fun acc p => putT acc p.1 ((num acc p.1 + p.2) % c)) a
def cleanT (l : Tb) : Tb := l.filter fun p => p.2 != 0
theorem clean_nd {l : Tb} (h : Nd l) : Nd (cleanT l) := by
  unfold Nd cleanT
  have h' : (l.map (·.1)).Nodup := h
  exact (List.filter_sublist.map _).nodup h'
theorem clean_take {l : Tb} {i : Nat} {p : Str × Int} (e : l[i]? = some p) : cleanT (l.take (i + 1)) = if p.2 ≠ 0 then cleanT (l.take i) ++ [p] else cleanT (l.take i) := by
  unfold cleanT
  rw [List.take_add_one, e, List.filter_append]
  by_cases h : p.2 = 0
  · rw [if_neg (fun z => z h)]
    simp [h]
  · rw [if_pos h]
    simp [h]
theorem clean_tot (l : Tb) (x : Str) : tot (cleanT l) x = tot l x := by
  induction l with
  | nil => rfl
  | cons p r ih =>
    unfold cleanT at ih ⊢
    by_cases h : p.2 = 0
    · rw [List.filter_cons_of_neg (by simp [h]), ih, tot_cons, h]
      simp
    · rw [List.filter_cons_of_pos (by simp [h]), tot_cons, tot_cons, ih]
theorem addC_app (c : Int) (a b x : Tb) : addC c (a ++ b) x = addC c b (addC c a x) := by
  unfold addC
  rw [List.foldl_append]
theorem addC_take {c : Int} {es : Tb} {i : Nat} {p : Str × Int} (e : es[i]? = some p) (a : Tb) : addC c (es.take (i + 1)) a = putT (addC c (es.take i) a) p.1 ((num (addC c (es.take i) a) p.1 + p.2) % c) := by
  rw [List.take_add_one, e, addC_app]
  rfl
theorem addC_len (c : Int) : ∀ (es a : Tb), (addC c es a).length ≤ a.length + es.length
  | [], a => Nat.le_refl _
  | p :: r, a => by
    have h1 := addC_len c r (putT a p.1 ((num a p.1 + p.2) % c))
    have h2 := putT_len a p.1 ((num a p.1 + p.2) % c)
    have e : addC c (p :: r) a = addC c r (putT a p.1 ((num a p.1 + p.2) % c)) := rfl
    rw [e, List.length_cons]
    omega
theorem addC_nd (c : Int) : ∀ (es a : Tb), Nd a → Nd (addC c es a)
  | [], a, h => h
  | p :: r, a, h => addC_nd c r _ (nd_put h p.1 _)
theorem addC_rg {c : Int} (hc : 0 < c) : ∀ (es a : Tb), (∀ p ∈ a, 0 ≤ p.2 ∧ p.2 < c) → ∀ p ∈ addC c es a, 0 ≤ p.2 ∧ p.2 < c
  | [], a, h => h
  | p :: r, a, h => addC_rg hc r _ (put_rg h ⟨Int.emod_nonneg _ (by omega), Int.emod_lt_of_pos _ hc⟩)
theorem addC_key (c : Int) : ∀ (es a : Tb) (q : Str × Int), q ∈ addC c es a → (∃ p ∈ a, p.1 = q.1) ∨ ∃ p ∈ es, p.1 = q.1
  | [], a, q, h => .inl ⟨q, h, rfl⟩
  | p :: r, a, q, h => by
    rcases addC_key c r _ q h with ⟨y, h1, h2⟩ | ⟨y, h1, h2⟩
    · rcases key_put h1 with e | ⟨z, hz, e⟩
      · exact .inr ⟨p, List.mem_cons_self, by rw [← h2, e]⟩
      · exact .inl ⟨z, hz, by rw [e, h2]⟩
    · exact .inr ⟨y, List.mem_cons_of_mem _ h1, h2⟩
theorem addC_num {c : Int} : ∀ (es a : Tb) (x : Str), num (addC c es a) x % c = (num a x + tot es x) % c
  | [], a, x => by
    show num a x % c = (num a x + tot [] x) % c
    rw [tot_nil, Int.add_zero]
  | p :: r, a, x => by
    have e : addC c (p :: r) a = addC c r (putT a p.1 ((num a p.1 + p.2) % c)) := rfl
    rw [e, addC_num r _ x, tot_cons]
    by_cases h : p.1 = x
    · rw [if_pos h, ← h, num_put_self, Int.add_emod, Int.emod_emod_of_dvd _ (Int.dvd_refl c), ← Int.add_emod]
      congr 1
      omega
    · rw [if_neg h, num_put_ne _ h, Int.zero_add]
/-- laid together by the clock, then cleaned -/
theorem vt_addC {c : Int} {m k : Nat} {es a : Tb} (hc : 0 < c) (hn : Nd a) (hr : ∀ p ∈ a, 0 ≤ p.2 ∧ p.2 < c) (hw : ∀ p ∈ a ++ es, xyz p.1 ∧ p.1.length ≤ m) (hk : a.length + es.length ≤ k) : VT c m k (cleanT (addC c es a)) ∧ Lk c (cleanT (addC c es a)) (a ++ es) := by
  have n1 := addC_nd c es a hn
  refine ⟨⟨clean_nd n1, fun p hp => ?_, fun p hp => ?_, ?_⟩, fun x => ?_⟩
  · obtain ⟨h1, h2⟩ := List.mem_filter.mp hp
    have h3 := addC_rg hc es a hr p h1
    have h4 : p.2 ≠ 0 := by simpa using h2
    omega
  · obtain ⟨h1, h2⟩ := List.mem_filter.mp hp
    rcases addC_key c es a p h1 with ⟨y, h3, h4⟩ | ⟨y, h3, h4⟩
    · rw [← h4]
      exact hw y (List.mem_append_left _ h3)
    · rw [← h4]
      exact hw y (List.mem_append_right _ h3)
  · exact Nat.le_trans (List.length_filter_le _ _) (Nat.le_trans (addC_len c es a) hk)
  · rw [clean_tot, tot_num n1, addC_num, tot_app, tot_num hn]
section
variable {P : Program} {w : World} {K : PySem.W.Frag} {mg : Str → Option Value} {base : Heap}
def tClA : TE := fun σ H Q => ∃ (x0 x1 x2 x3 x5 x6 : Option V) (d : Addr) (l : Tb), σ = [x0, x1, x2, x3, some (.ref d), x5, x6] ∧ H d = some (.dK (kv l)) ∧ Nd l ∧ l.length ≤ 1000000 ∧
  ∀ H' r, Same H H' → H r = none → H' r = some (.dK (kv (cleanT l))) → Q (.ref r) H'
def spLAdd : Sp := fun vs H Q _ => ∃ (d1 d2 : Addr) (f c : Int) (m1 k1 m2 k2 : Nat) (l1 l2 : Tb), vs = [.int c, .ref d1, .ref d2, .int f] ∧ 0 < c ∧ c ≤ 7 ∧ H d1 = some (.dK (kv l1)) ∧ H d2 = some (.dK (kv l2)) ∧ VT c m1 k1 l1 ∧ VT c m2 k2 l2 ∧ k1 + k2 ≤ 900000 ∧
  ∀ H' D t, Same H H' → H D = none → H' D = some (.dK (kv t)) → VT c (max m1 m2) (k1 + k2) t → Lk c t (l1 ++ scl f l2) → Q (.ref D) H'
abbrev nLAdd : List Str := ["_law_clock_here", "_law_one", "_law_other", "_law_factor", "_law_found", "_law_word_here", "_law_total"]
theorem sc_ladd : FnScope nLAdd ["_law_clock_here", "_law_one", "_law_other", "_law_factor"] (defScope s__law_added) := ⟨rfl, rfl, rfl, by decide +kernel, rfl, by decide +kernel, by decide +kernel⟩
theorem ok_ladd (T : Top K mg) : Ok P w K mg base 2 "_law_added" ["_law_clock_here", "_law_one", "_law_other", "_law_factor"] spLAdd := by
  obtain ⟨fd, F⟩ := fn__law_added T
  refine ⟨⟨fd, ?_, F.bindsN fun _ _ _ _ _ _ us hl => match us, hl with | [_, _, _, _], _ => rfl⟩, g__law_added T, F.kp⟩
  refine F.ok sc_ladd (fun vs H Q E h => ?_) (fun cdv A outer s H vs Q E hr h => ?_)
  · obtain ⟨d1, d2, f, c, m1, k1, m2, k2, l1, l2, rfl, _⟩ := h
    rfl
  · obtain ⟨d1, d2, f, c, m1, k1, m2, k2, l1, l2, rfl, hc, hc7, h1, h2, v1, v2, hk, q⟩ := h
    have nd := sc_ladd.nd
    have hu := hu_of hr
    have hs : sizeLine = 16777216 := sizeLine_eq
    have b1 := v1.ln
    have b2 := v2.ln
    refine ⟨_, PSs.nox (pss_cons (ps_set (i := 4) nd rfl (Or.inr rfl) (pe_callTy call_dictD (by rfl) (f_dict T) (by decide +kernel) (pa_cons (pv 1) pa_nil)))
      (pss_cons (ps_lock (ps_for PassesOwn.never rfl (pi_keys (pv 2)) (pg_name (i := 5) nd rfl (Or.inl rfl))
        (pss_cons (ps_set (i := 6) nd rfl (Or.inl rfl) (pe_op op_mod (pe_callTy call_int1 (by rfl) (f_int T) boot_int (pa_cons (pe_op op_add (pe_dget2 hu (pv 4) (pv 5) pe_int ⟨rfl, rfl, rfl, rfl⟩) (pe_op op_mul (pv 3) (pe_dget hu (pv 2) (pv 5) (fun _ _ => rfl)))) pa_nil)) (pv 0)))
        (pss_one (ps_dput hu (pv 4) (pv 5) (pv 6) rfl)))))
      (pss_one (ps_ret (PE.weak (t' := tClA) (pe_callTy (call_dictP rfl) (by rfl) (f_dict T) (by decide +kernel) (pa_cons (pe_lock (pe_lc (own := [("_law_word_here", 5)]) (g := gName 5) rfl nd (pi_keys (pv 4)) (blkOk_by (N := nLAdd) (sc := defScope s__law_added) (by decide +kernel)) (fun _ _ _ _ _ => pg_name (i := 5) nd rfl (Or.inl rfl))
        (fun _ _ _ _ _ => by exact pts_one (pt_cmpR op_ne (pe_dget hu (pv 4) (pv 5) (fun _ _ => rfl)) pe_int (nomark _))) (fun _ _ _ _ _ => by exact (pe_tup (pa_cons (pv 5) (pa_cons (pe_dget hu (pv 4) (pv 5) (fun _ _ => rfl)) pa_nil)))))) pa_nil)) ?wC))))), ?_⟩
    case wC =>
      rintro σ H Q ⟨x0, x1, x2, x3, x5, x6, d, l, rfl, ed, hnd, hll, q⟩
      have hs : sizeLine = 16777216 := sizeLine_eq
      refine ⟨d, _, ed, trivial, fun od => ?_⟩
      refine ⟨_, rfl, d, od, rfl, .inl ⟨_, upd_same, fun D hD => ?_⟩⟩
      have nD : D ≠ d := fun e => by
        rw [e, upd_same] at hD
        cases hD
      have hD0 : H D = none := by
        rw [upd_ne nD] at hD
        exact hD
      refine lc_it walk_keys (fun i H' => ∃ ps : List Addr, H' D = some (.lst (ps.map V.ref)) ∧ Paired (fun p (q : Str × Int) => H' p = some (.tup [.str q.1, .int q.2])) ps (cleanT (l.take i)) ∧ But d H H' ∧ H' d = some (.frz od (.dK (kv l))))
        ⟨[], upd_same, .nil, (fun b' o y n' => by
          rw [upd_ne (ne_of_none y hD0), upd_ne n']
          exact y), (by
          rw [upd_ne nD.symm]
          exact upd_same)⟩ (fun i H' _ hP => hP.choose_spec.2.2.2) ?_ ?_
      · rintro j x Ha Hb hj ⟨ps, r1, r2, r3, r4⟩ ⟨rfl, kk, vv, ee, rfl⟩
        obtain ⟨p', ep, rfl, rfl⟩ := kv_at ee
        rw [kv_len] at hj
        have et := clean_take ep
        have hval : valV (kv l) (Sum.inr p'.1 : Key) = some (.int p'.2) := by rw [valV_yes (has_of ep), num_of hnd ep]
        refine ⟨rfl, ?_⟩
        refine ⟨_, rfl, _, rfl, d, .int p'.2, rfl, .inl ⟨kv l, Sum.inr p'.1, .inr ⟨od, r4⟩, rfl, hval.symm⟩, rfl, _, rfl, ?_⟩
        refine ite2 (fun hz => ?_) (fun hz => ?_)
        · have hz' : p'.2 ≠ 0 := fun e => by
            rw [e] at hz
            exact absurd hz (by decide)
          rw [if_pos hz'] at et
          refine ⟨_, rfl, _, rfl, _, rfl, d, .int p'.2, rfl, .inl ⟨kv l, Sum.inr p'.1, .inr ⟨od, r4⟩, rfl, hval.symm⟩, ?_⟩
          refine ⟨by show 2 ≤ sizeLine; omega, fun t ht => ?_⟩
          have st := same_upd (o := .tup [.str p'.1, .int p'.2]) ht
          have eD7 := st _ _ r1
          have hlen := r2.length
          have hlt : (cleanT (l.take j)).length ≤ j := Nat.le_trans (List.length_filter_le _ _) (by rw [List.length_take]; omega)
          refine ⟨_, eD7, by rw [List.length_map]; omega, ps ++ [t], by rw [upd_same, List.map_append]; rfl, ?_, ?_, ?_⟩
          · rw [et]
            refine Paired.snoc (Paired.mapP r2 fun y q e => ?_) ?_
            · rw [upd_ne (ne_of (st _ _ e) eD7 (by intro y; cases y))]
              exact st _ _ e
            · rw [upd_ne (ne_of_none r1 ht).symm]
              exact upd_same
          · intro b' o y n'
            rw [upd_ne (ne_of_none y hD0)]
            exact st _ _ (r3 b' o y n')
          · rw [upd_ne nD.symm]
            exact st _ _ r4
        · have hz' : ¬ p'.2 ≠ 0 := fun e => hz (by
            show (!decide (V.int p'.2 = V.int 0)) = true
            rw [decide_eq_false (fun y => e (by injection y))]
            rfl)
          rw [if_neg hz'] at et
          exact ⟨ps, r1, by rw [et]; exact r2, r3, r4⟩
      rintro Gc ⟨ps, r1, r2, r3, r4⟩
      rw [kv_len, List.take_length] at r2
      have sb := unlockT ed r3
      refine ⟨r4, D, ps, kv (cleanT l), rfl, SqL.of (by rw [upd_ne nD]; exact r1), pairs_kv (Paired.mapP r2 fun y q e => ?_), fun u nu => ?_⟩
      · rw [upd_ne (fun y' => by rw [y', r4] at e; cases e)]
        exact e
      have su := sb.trans (same_upd (o := .dK (mergeK [] (kv (cleanT l)))) nu)
      rw [merge_kv (clean_nd hnd)] at su ⊢
      exact q _ u su (sb.free nu) upd_same
    refine ⟨_, rfl, d1, kv l1, rfl, .inl h1, fun F0 hF => ?_⟩
    have n2F : d2 ≠ F0 := ne_of_none h2 hF
    refine ⟨d2, .dK (kv l2), by rw [upd_ne n2F]; exact h2, trivial, fun od => ?_⟩
    refine ⟨_, rfl, d2, od, rfl, .inl ⟨kv l2, upd_same, ?_⟩⟩
    refine for_it walk_keys (fun i σ H' => (∃ v u, σ = [some (.int c), some (.ref d1), some (.ref d2), some (.int f), some (.ref F0), v, u]) ∧ H' F0 = some (.dK (kv (addC c ((scl f l2).take i) l1))) ∧ But d2 H H' ∧ H' d2 = some (.frz od (.dK (kv l2))))
      ⟨⟨none, none, rfl⟩, ?_, ?_, upd_same⟩ (fun i σ H' _ hP => hP.2.2.2) ?_ ?_
    · rw [upd_ne n2F.symm, upd_same]
      rfl
    · intro b o e n
      rw [upd_ne n, upd_ne (ne_of_none e hF)]
      exact e
    · rintro i x σ H1 H2 hi ⟨⟨v, u, rfl⟩, p1, p2, p3⟩ ⟨rfl, kk, vv, ee, rfl⟩
      obtain ⟨p, ep, rfl, rfl⟩ := kv_at ee
      have hn := v2.nu p (List.mem_of_getElem? ep)
      have hval : valV (kv l2) (Sum.inr p.1 : Key) = some (.int p.2) := by rw [valV_yes (has_of ep), num_of v2.nd ep]
      refine ⟨_, rfl, F0, rfl, .inl ⟨_, .inl p1⟩, _, rfl, _, DGet.k (k := Sum.inr p.1) p1, ?_⟩
      rw [num_eq]
      refine ⟨_, rfl, _, rfl, _, rfl, d2, .int p.2, rfl, .inl ⟨kv l2, Sum.inr p.1, .inr ⟨od, p3⟩, rfl, hval.symm⟩, _, _, rfl, rfl, .inr ⟨by omega, by omega⟩, _, _, rfl, rfl, ?_⟩
      refine .inl ⟨_, rfl, _, rfl, _, _, rfl, rfl, hc, ?_⟩
      refine ⟨_, rfl, _, rfl, _, rfl, F0, _, rfl, DPut.k (k := Sum.inr p.1) p1 ?_, ?_⟩
      · have := addC_len c ((scl f l2).take i) l1
        rw [List.length_take, scl_len] at this
        rw [kv_len]
        omega
      · refine ⟨⟨_, _, rfl⟩, ?_, ?_, ?_⟩
        · rw [upd_same, putK_kv, addC_take (scl_get ep)]
        · intro b o z n
          rw [upd_ne (ne_of_none z hF)]
          exact p2 b o z n
        · rw [upd_ne n2F]
          exact p3
    · rintro σ H' ⟨⟨v, u, rfl⟩, p1, p2, p3⟩
      rw [kv_len, List.take_of_length_le (by rw [scl_len]; exact Nat.le_refl _)] at p1
      refine ⟨p3, ?_⟩
      have base' := unlockT h2 p2
      have ln := addC_len c (scl f l2) l1
      rw [scl_len] at ln
      refine ⟨_, _, _, _, _, _, F0, _, rfl, by rw [upd_ne n2F.symm]; exact p1, addC_nd c _ _ v1.nd, by omega, fun H2 D s2 nD eD => ?_⟩
      obtain ⟨w1, w2⟩ := vt_addC (m := max m1 m2) (k := k1 + k2) hc v1.nd (fun p hp => ⟨by have := (v1.nu p hp).1; omega, (v1.nu p hp).2⟩) (es := scl f l2) (fun p hp => by
        rcases List.mem_append.mp hp with hp | hp
        · have := v1.wd p hp
          exact ⟨this.1, by omega⟩
        · unfold scl at hp
          obtain ⟨r, hr, rfl⟩ := List.mem_map.mp hp
          have := v2.wd r hr
          exact ⟨this.1, by show r.1.length ≤ _; omega⟩) (by rw [scl_len]; omega)
      exact q H2 D _ (base'.trans s2) (base'.free nD) eD w1 w2
def tClP : TE := fun σ H Q => ∃ (x0 x1 x2 x4 x5 x6 : Option V) (d : Addr) (l : Tb), σ = [x0, x1, x2, some (.ref d), x4, x5, x6] ∧ H d = some (.dK (kv l)) ∧ Nd l ∧ l.length ≤ 1000000 ∧
  ∀ H' r, Same H H' → H r = none → H' r = some (.dK (kv (cleanT l))) → Q (.ref r) H'
def spLProd : Sp := fun vs H Q _ => ∃ (d1 d2 : Addr) (c : Int) (m1 k1 m2 k2 : Nat) (l1 l2 : Tb), vs = [.int c, .ref d1, .ref d2] ∧ 0 < c ∧ c ≤ 7 ∧ d1 ≠ d2 ∧ H d1 = some (.dK (kv l1)) ∧ H d2 = some (.dK (kv l2)) ∧ VT c m1 k1 l1 ∧ VT c m2 k2 l2 ∧ m1 ≤ 1000 ∧ m2 ≤ 1000 ∧ k1 * k2 ≤ 900000 ∧
  ∀ H' D t, Same H H' → H D = none → H' D = some (.dK (kv t)) → VT c (m1 + m2) (k1 * k2) t → Lk c t (prs l1 l2) → Q (.ref D) H'
abbrev nLProd : List Str := ["_law_clock_here", "_law_one", "_law_other", "_law_found", "_law_front", "_law_back", "_law_word_here"]
theorem sc_lprod : FnScope nLProd ["_law_clock_here", "_law_one", "_law_other"] (defScope s__law_product) := ⟨rfl, rfl, rfl, by decide +kernel, rfl, by decide +kernel, by decide +kernel⟩
theorem ok_lprod (T : Top K mg) : Ok P w K mg base 2 "_law_product" ["_law_clock_here", "_law_one", "_law_other"] spLProd := by
  obtain ⟨fd, F⟩ := fn__law_product T
  refine ⟨⟨fd, ?_, F.bindsN fun _ _ _ _ _ _ us hl => match us, hl with | [_, _, _], _ => rfl⟩, g__law_product T, F.kp⟩
  refine F.ok sc_lprod (fun vs H Q E h => ?_) (fun cdv A outer s H vs Q E hr h => ?_)
  · obtain ⟨d1, d2, c, m1, k1, m2, k2, l1, l2, rfl, _⟩ := h
    rfl
  · obtain ⟨d1, d2, c, m1, k1, m2, k2, l1, l2, rfl, hc, hc7, n12, h1, h2, v1, v2, hm1, hm2, hk, q⟩ := h
    have nd := sc_lprod.nd
    have hu := hu_of hr
    have hs : sizeLine = 16777216 := sizeLine_eq
    have hkk : l1.length * l2.length ≤ 900000 := Nat.le_trans (Nat.mul_le_mul v1.ln v2.ln) hk
    refine ⟨_, PSs.nox (pss_cons (ps_set (i := 3) nd rfl (Or.inr rfl) pe_dnewK)
      (pss_cons (ps_lock (ps_for PassesOwn.never rfl (pi_keys (pv 1)) (pg_name (i := 4) nd rfl (Or.inl rfl))
        (pss_one (ps_lock (ps_for PassesOwn.never rfl (pi_keys (pv 2)) (pg_name (i := 5) nd rfl (Or.inl rfl))
          (pss_cons (ps_set (i := 6) nd rfl (Or.inl rfl) (pe_op op_add_str (pv 4) (pv 5)))
          (pss_one (ps_dput hu (pv 3) (pv 6) (pe_op op_mod (pe_callTy call_int1 (by rfl) (f_int T) boot_int (pa_cons (pe_op op_add (pe_dget2 hu (pv 3) (pv 6) pe_int ⟨rfl, rfl, rfl, rfl⟩) (pe_op op_mul (pe_dget hu (pv 1) (pv 4) (fun _ _ => rfl)) (pe_dget hu (pv 2) (pv 5) (fun _ _ => rfl)))) pa_nil)) (pv 0)) rfl))))))))
      (pss_one (ps_ret (PE.weak (t' := tClP) (pe_callTy (call_dictP rfl) (by rfl) (f_dict T) (by decide +kernel) (pa_cons (pe_lock (pe_lc (own := [("_law_word_here", 6)]) (g := gName 6) rfl nd (pi_keys (pv 3)) (blkOk_by (N := nLProd) (sc := defScope s__law_product) (by decide +kernel)) (fun _ _ _ _ _ => pg_name (i := 6) nd rfl (Or.inl rfl))
        (fun _ _ _ _ _ => by exact pts_one (pt_cmpR op_ne (pe_dget hu (pv 3) (pv 6) (fun _ _ => rfl)) pe_int (nomark _))) (fun _ _ _ _ _ => by exact (pe_tup (pa_cons (pv 6) (pa_cons (pe_dget hu (pv 3) (pv 6) (fun _ _ => rfl)) pa_nil)))))) pa_nil)) ?wC))))), ?_⟩
    case wC =>
      rintro σ H Q ⟨x0, x1, x2, x4, x5, x6, d, l, rfl, ed, hnd, hll, q⟩
      have hs : sizeLine = 16777216 := sizeLine_eq
      refine ⟨d, _, ed, trivial, fun od => ?_⟩
      refine ⟨_, rfl, d, od, rfl, .inl ⟨_, upd_same, fun D hD => ?_⟩⟩
      have nD : D ≠ d := fun e => by
        rw [e, upd_same] at hD
        cases hD
      have hD0 : H D = none := by
        rw [upd_ne nD] at hD
        exact hD
      refine lc_it walk_keys (fun i H' => ∃ ps : List Addr, H' D = some (.lst (ps.map V.ref)) ∧ Paired (fun p (q : Str × Int) => H' p = some (.tup [.str q.1, .int q.2])) ps (cleanT (l.take i)) ∧ But d H H' ∧ H' d = some (.frz od (.dK (kv l))))
        ⟨[], upd_same, .nil, (fun b' o y n' => by
          rw [upd_ne (ne_of_none y hD0), upd_ne n']
          exact y), (by
          rw [upd_ne nD.symm]
          exact upd_same)⟩ (fun i H' _ hP => hP.choose_spec.2.2.2) ?_ ?_
      · rintro j x Ha Hb hj ⟨ps, r1, r2, r3, r4⟩ ⟨rfl, kk, vv, ee, rfl⟩
        obtain ⟨p', ep, rfl, rfl⟩ := kv_at ee
        rw [kv_len] at hj
        have et := clean_take ep
        have hval : valV (kv l) (Sum.inr p'.1 : Key) = some (.int p'.2) := by rw [valV_yes (has_of ep), num_of hnd ep]
        refine ⟨rfl, ?_⟩
        refine ⟨_, rfl, _, rfl, d, .int p'.2, rfl, .inl ⟨kv l, Sum.inr p'.1, .inr ⟨od, r4⟩, rfl, hval.symm⟩, rfl, _, rfl, ?_⟩
        refine ite2 (fun hz => ?_) (fun hz => ?_)
        · have hz' : p'.2 ≠ 0 := fun e => by
            rw [e] at hz
            exact absurd hz (by decide)
          rw [if_pos hz'] at et
          refine ⟨_, rfl, _, rfl, _, rfl, d, .int p'.2, rfl, .inl ⟨kv l, Sum.inr p'.1, .inr ⟨od, r4⟩, rfl, hval.symm⟩, ?_⟩
          refine ⟨by show 2 ≤ sizeLine; omega, fun t ht => ?_⟩
          have st := same_upd (o := .tup [.str p'.1, .int p'.2]) ht
          have eD7 := st _ _ r1
          have hlen := r2.length
          have hlt : (cleanT (l.take j)).length ≤ j := Nat.le_trans (List.length_filter_le _ _) (by rw [List.length_take]; omega)
          refine ⟨_, eD7, by rw [List.length_map]; omega, ps ++ [t], by rw [upd_same, List.map_append]; rfl, ?_, ?_, ?_⟩
          · rw [et]
            refine Paired.snoc (Paired.mapP r2 fun y q e => ?_) ?_
            · rw [upd_ne (ne_of (st _ _ e) eD7 (by intro y; cases y))]
              exact st _ _ e
            · rw [upd_ne (ne_of_none r1 ht).symm]
              exact upd_same
          · intro b' o y n'
            rw [upd_ne (ne_of_none y hD0)]
            exact st _ _ (r3 b' o y n')
          · rw [upd_ne nD.symm]
            exact st _ _ r4
        · have hz' : ¬ p'.2 ≠ 0 := fun e => hz (by
            show (!decide (V.int p'.2 = V.int 0)) = true
            rw [decide_eq_false (fun y => e (by injection y))]
            rfl)
          rw [if_neg hz'] at et
          exact ⟨ps, r1, by rw [et]; exact r2, r3, r4⟩
      rintro Gc ⟨ps, r1, r2, r3, r4⟩
      rw [kv_len, List.take_length] at r2
      have sb := unlockT ed r3
      refine ⟨r4, D, ps, kv (cleanT l), rfl, SqL.of (by rw [upd_ne nD]; exact r1), pairs_kv (Paired.mapP r2 fun y q e => ?_), fun u nu => ?_⟩
      · rw [upd_ne (fun y' => by rw [y', r4] at e; cases e)]
        exact e
      have su := sb.trans (same_upd (o := .dK (mergeK [] (kv (cleanT l)))) nu)
      rw [merge_kv (clean_nd hnd)] at su ⊢
      exact q _ u su (sb.free nu) upd_same
    refine fun F0 hF => ?_
    have n1F : d1 ≠ F0 := ne_of_none h1 hF
    have n2F : d2 ≠ F0 := ne_of_none h2 hF
    refine ⟨d1, .dK (kv l1), by rw [upd_ne n1F]; exact h1, trivial, fun od => ?_⟩
    refine ⟨_, rfl, d1, od, rfl, .inl ⟨kv l1, upd_same, ?_⟩⟩
    refine for_it walk_keys (fun i σ H' => (∃ v u v2, σ = [some (.int c), some (.ref d1), some (.ref d2), some (.ref F0), v, u, v2]) ∧ H' F0 = some (.dK (kv (addC c (prs (l1.take i) l2) []))) ∧ But d1 H H' ∧ H' d1 = some (.frz od (.dK (kv l1))))
      ⟨⟨none, none, none, rfl⟩, ?_, ?_, upd_same⟩ (fun i σ H' _ hP => hP.2.2.2) ?_ ?_
    · rw [upd_ne n1F.symm, upd_same]
      rfl
    · intro b o e n
      rw [upd_ne n, upd_ne (ne_of_none e hF)]
      exact e
    · rintro i x σ H1 H2 hi ⟨⟨v, u, v2', rfl⟩, p1, p2, p3⟩ ⟨rfl, kk, vv, ee, rfl⟩
      obtain ⟨p, ep, rfl, rfl⟩ := kv_at ee
      have hp : p ∈ l1 := List.mem_of_getElem? ep
      have hil : i < l1.length := (List.getElem?_eq_some_iff.mp ep).1
      have hn1 := v1.nu p hp
      have hval1 : valV (kv l1) (Sum.inr p.1 : Key) = some (.int p.2) := by rw [valV_yes (has_of ep), num_of v1.nd ep]
      have e2 := p2 _ _ h2 n12.symm
      have nF2 : d2 ≠ F0 := n2F
      refine ⟨d2, .dK (kv l2), e2, trivial, fun od2 => ?_⟩
      refine ⟨_, rfl, d2, od2, rfl, .inl ⟨kv l2, upd_same, ?_⟩⟩
      refine for_it walk_keys (fun j σ H' => (∃ v u, σ = [some (.int c), some (.ref d1), some (.ref d2), some (.ref F0), some (.str p.1), v, u]) ∧ H' F0 = some (.dK (kv (addC c ((fwd p l2).take j) (addC c (prs (l1.take i) l2) [])))) ∧ (∀ b o, H2 b = some o → b ≠ d2 → b ≠ F0 → H' b = some o) ∧ H' d2 = some (.frz od2 (.dK (kv l2))))
        ⟨⟨_, _, rfl⟩, ?_, ?_, upd_same⟩ (fun i σ H' _ hP => hP.2.2.2) ?_ ?_
      · rw [upd_ne n2F.symm]
        exact p1
      · intro b o e n _
        rw [upd_ne n]
        exact e
      · rintro j x σ H3 H4 hj ⟨⟨v3, u3, rfl⟩, g1, g2, g3⟩ ⟨rfl, kk2, vv2, ee2, rfl⟩
        obtain ⟨r, er, rfl, rfl⟩ := kv_at ee2
        have hr' : r ∈ l2 := List.mem_of_getElem? er
        have hjl : j < l2.length := (List.getElem?_eq_some_iff.mp er).1
        have hn2 := v2.nu r hr'
        have hw1 := (v1.wd p hp).2
        have hw2 := (v2.wd r hr').2
        have hval2 : valV (kv l2) (Sum.inr r.1 : Key) = some (.int r.2) := by rw [valV_yes (has_of er), num_of v2.nd er]
        have e1' : H4 d1 = some (.frz od (.dK (kv l1))) := g2 _ _ p3 n12 n1F
        refine ⟨_, rfl, _, rfl, _, _, rfl, rfl, by show p.1.length + r.1.length ≤ sizeLine; omega, ?_⟩
        refine ⟨_, rfl, F0, rfl, .inl ⟨_, .inl g1⟩, _, rfl, _, DGet.k (k := Sum.inr (p.1 ++ r.1)) g1, ?_⟩
        rw [num_eq]
        refine ⟨_, rfl, _, rfl, d1, .int p.2, rfl, .inl ⟨kv l1, Sum.inr p.1, .inr ⟨od, e1'⟩, rfl, hval1.symm⟩, _, rfl, _, rfl, d2, .int r.2, rfl, .inl ⟨kv l2, Sum.inr r.1, .inr ⟨od2, g3⟩, rfl, hval2.symm⟩, _, _, rfl, rfl, .inr ⟨by omega, by omega⟩, _, _, rfl, rfl, ?_⟩
        refine .inl ⟨_, rfl, _, rfl, _, _, rfl, rfl, hc, ?_⟩
        refine ⟨_, rfl, _, rfl, F0, _, rfl, DPut.k (k := Sum.inr (p.1 ++ r.1)) g1 ?_, ?_⟩
        · have b1 := addC_len c ((fwd p l2).take j) (addC c (prs (l1.take i) l2) [])
          have b2 := addC_len c (prs (l1.take i) l2) []
          rw [prs_len, List.length_take] at b2
          rw [List.length_take, fwd_len] at b1
          have b4 : ([] : Tb).length = 0 := rfl
          have b3 : (min i l1.length + 1) * l2.length ≤ l1.length * l2.length := Nat.mul_le_mul (by omega) (Nat.le_refl _)
          rw [Nat.add_mul, Nat.one_mul] at b3
          rw [kv_len]
          omega
        · refine ⟨⟨_, _, rfl⟩, ?_, ?_, ?_⟩
          · rw [upd_same, putK_kv, addC_take (fwd_get er)]
          · intro b o z n nF
            rw [upd_ne nF]
            exact g2 b o z n nF
          · rw [upd_ne n2F]
            exact g3
      · rintro σ H' ⟨⟨v3, u3, rfl⟩, g1, g2, g3⟩
        rw [kv_len, List.take_of_length_le (by rw [fwd_len]; exact Nat.le_refl _), ← addC_app, ← prs_take ep] at g1
        refine ⟨g3, ⟨_, _, _, rfl⟩, by rw [upd_ne n2F.symm]; exact g1, fun b o z n => ?_, ?_⟩
        · by_cases nb : b = d2
          · rw [nb, upd_same, ← h2, ← nb, z]
          · rw [upd_ne nb]
            exact g2 b o (p2 b o z n) nb (ne_of_none z hF)
        · rw [upd_ne n12]
          exact g2 _ _ p3 n12 n1F
    · rintro σ H' ⟨⟨v, u, v3, rfl⟩, p1, p2, p3⟩
      rw [kv_len, List.take_length] at p1
      refine ⟨p3, ?_⟩
      have base' := unlockT h1 p2
      have ln := addC_len c (prs l1 l2) []
      rw [prs_len] at ln
      have b4 : ([] : Tb).length = 0 := rfl
      refine ⟨_, _, _, _, _, _, F0, _, rfl, by rw [upd_ne n1F.symm]; exact p1, addC_nd c _ _ (show Nd [] from List.nodup_nil), by omega, fun H2 D s2 nD eD => ?_⟩
      obtain ⟨w1, w2⟩ := vt_addC (m := m1 + m2) (k := k1 * k2) hc (show Nd [] from List.nodup_nil) (fun p hp => (by cases hp)) (es := prs l1 l2) (fun p hp => by
        rw [List.nil_append] at hp
        unfold prs at hp
        obtain ⟨r, hr, hp⟩ := List.mem_flatMap.mp hp
        obtain ⟨s, hs', rfl⟩ := List.mem_map.mp hp
        have a1 := v1.wd r hr
        have a2 := v2.wd s hs'
        exact ⟨xyz_app a1.1 a2.1, by show (r.1 ++ s.1).length ≤ _; rw [len_app]; omega⟩) (by rw [prs_len]; have : ([] : Tb).length = 0 := rfl; have := Nat.mul_le_mul v1.ln v2.ln; omega)
      exact q H2 D _ (base'.trans s2) (base'.free nD) eD w1 w2
end
end Fp

set_option Elab.async false
set_option linter.all false
set_option maxRecDepth 100000
set_option maxHeartbeats 4000000
namespace Fp
open PySem PySem.Spec PyProof.Rows L2
theorem cut_W {w : Str} {i : Nat} (h : i ≤ w.length) : cutS w none (some (i : Int)) = W (w.cps.toList.take i) := PySem.W.str_of_cps (by rw [cut_front_list h, cps_W])
theorem sign_W (x : Str) (n : Nat) : x ++ (⟨#[n]⟩ : Str) = W (x.cps.toList ++ [n]) := PySem.W.str_of_cps (by rw [app_list, cps_W])
theorem allL_len (al : List Nat) : ∀ n, (allL al n).length = al.length ^ n
  | 0 => rfl
  | n + 1 => by
    show ((allL al n).flatMap _).length = _
    rw [List.length_flatMap, Nat.pow_succ, ← allL_len al n]
    have : (fun cs : List Nat => (al.map fun a => cs ++ [a]).length) = fun _ => al.length := by
      funext cs
      rw [List.length_map]
    rw [this]
    generalize allL al n = l
    induction l with
    | nil => simp
    | cons a r ih =>
      rw [List.map_cons, List.sum_cons, ih, List.length_cons, Nat.add_mul]
      omega
section
variable {P : Program} {w : World} {K : PySem.W.Frag} {mg : Str → Option Value} {base : Heap}
def spComes : Sp := fun vs H Q _ => ∃ (c : Int) (d : Addr) (x : Str) (l : Tb), vs = [.int c, .ref d, .str x] ∧ 0 < c ∧ H d = some (.dK (kv l)) ∧ x.length ≤ 1000 ∧ ∀ H', Same H H' → Q (.int (preL l x.cps.toList % c)) H'
abbrev nComes : List Str := ["_law_clock_here", "_law_words", "_law_word_here", "_law_size"]
def spAll : Sp := fun vs H Q _ => ∃ (z : Str) (n : Nat), vs = [.str z, .int n] ∧ 1 ≤ z.length ∧ z.length ≤ 3 ∧ n ≤ 12 ∧ ∀ H' r, Same H H' → H r = none → H' r = some (.lst ((allL z.cps.toList n).map fun cs => V.str (W cs))) → Q (.ref r) H'
abbrev nAll : List Str := ["_law_alphabet", "_law_size", "_law_found", "_law_turn", "_law_longer", "_law_word_here", "_law_letter"]
end
end Fp

set_option Elab.async false
set_option linter.all false
set_option maxRecDepth 100000
set_option maxHeartbeats 4000000
namespace Fp
open PySem PySem.Spec PyProof.Rows L2
/-- one less the bag is something with one less the letters behind it -/
def Qt (c : Int) (al : List Nat) (l : Tb) : Prop := ∃ q, Lk c (C1 l) (prs q (BT al))
theorem qt_iff {c : Int} {al : List Nat} {l : Tb} {L : Nat} (hc : 2 ≤ c) (hn : Nd l) (ha : al.Nodup) (hal : al ≠ []) (ho : OverT al L l) : Qt c al l ↔ FullAt c al l L :=
  ⟨fun ⟨_, e⟩ => full_of_quot hc hn ha hal ho e, fun h => quot_of_full hc hn ha ho h⟩
def isAl (z : Str) : Prop := z = "xy" ∨ z = "xyz"
theorem isAl.len {z : Str} (h : isAl z) : 1 ≤ z.length ∧ z.length ≤ 3 := by rcases h with rfl | rfl <;> decide
theorem isAl.xyz {z : Str} (h : isAl z) : xyz z := by rcases h with rfl | rfl <;> decide +kernel
theorem isAl.nd {z : Str} (h : isAl z) : z.cps.toList.Nodup := by rcases h with rfl | rfl <;> decide +kernel
theorem isAl.ne {z : Str} (h : isAl z) : z.cps.toList ≠ [] := by rcases h with rfl | rfl <;> decide +kernel
theorem LongOf.over {al : List Nat} {L : Nat} {l : Tb} {m : Int} (h : LongOf l m) (ho : OverT al L l) : OverT al (max 0 m).toNat l := ⟨ho.ov, fun p hp => by have := h.le p hp; omega⟩
section
variable {P : Program} {w : World} {K : PySem.W.Frag} {mg : Str → Option Value} {base : Heap}
def spDue : Sp := fun vs H Q _ => ∃ (c : Int) (z : Str) (d : Addr) (L : Nat) (l : Tb), vs = [.int c, .str z, .ref d] ∧ isCk c ∧ isAl z ∧ H d = some (.dK (kv l)) ∧ Nd l ∧ OverT z.cps.toList L l ∧ L ≤ 11 ∧ l.length ≤ 1000000 ∧
  ∀ H' (b : Bool), Same H H' → (b = true ↔ Qt c z.cps.toList l) → Q (.bl b) H'
abbrev nDue : List Str := ["_law_clock_here", "_law_alphabet", "_law_words", "_law_long_here", "_law_size", "_law_word_here"]
end
end Fp

set_option Elab.async false
set_option linter.all false
set_option maxRecDepth 100000
set_option maxHeartbeats 4000000
namespace Fp
open PySem PySem.Spec PyProof.Rows L2
theorem strip_over {w z : Str} (hz : isAl z) (h : over z w) : PySem.Txt.stripChars w z = (Str.ofString "") := by
  have hg : ∀ c ∈ w.cps.toList, (z.cps.contains c) = true := fun c hc => by
    rcases hz with rfl | rfl
    · have h1 : c ∈ ([120, 121] : List Nat) := h c hc
      have : c = 120 ∨ c = 121 := by simpa using h1
      rcases this with e | e <;> subst e <;> decide +kernel
    · have h1 : c ∈ ([120, 121, 122] : List Nat) := h c hc
      have : c = 120 ∨ c = 121 ∨ c = 122 := by simpa using h1
      rcases this with e | e | e <;> subst e <;> decide +kernel
  have ht : w.cps.toList.takeWhile z.cps.contains = w.cps.toList := tw_self hg
  have hlo : stripLo z.cps.contains true w = w.cps.toList.length := by
    unfold stripLo
    rw [if_pos rfl, ht]
  have hsz : w.length = w.cps.toList.length := by simp [Str.length]
  unfold PySem.Txt.stripChars PySem.Txt.stripBy
  cases e : stripSame z.cps.contains true true w with
  | true =>
    rw [if_pos rfl]
    unfold stripSame at e
    rw [hlo] at e
    simp only [Bool.and_eq_true, beq_iff_eq] at e
    have e0 : w.cps.toList = [] := List.length_eq_zero_iff.mp e.1
    obtain ⟨a⟩ := w
    have : a = #[] := by simpa using e0
    subst this
    rfl
  | false =>
    rw [if_neg Bool.false_ne_true]
    unfold stripped
    rw [hlo]
    have hhi : stripHi z.cps.contains true w w.cps.toList.length = w.length := by
      unfold stripHi
      rw [if_pos rfl, List.drop_length]
      simp
    rw [hhi, hsz]
    unfold Builtin.Str.strSub
    simp
    rfl
theorem vt_AT {c : Int} (hc : 2 ≤ c) {z : Str} (hz : isAl z) : VT c 1 3 (AT z.cps.toList) := by
  have e : AT z.cps.toList = z.cps.toList.map fun a => (W [a], 1) := rfl
  refine ⟨?_, fun p hp => ?_, fun p hp => ?_, ?_⟩
  · show ((AT z.cps.toList).map (·.1)).Nodup
    rw [e, List.map_map]
    exact List.Pairwise.map _ (fun a b hne y => hne (by have := W_inj y; simpa using this)) hz.nd
  · obtain ⟨a, _, rfl⟩ := List.mem_map.mp (e ▸ hp)
    exact ⟨by show (1 : Int) ≤ 1; decide, by show (1 : Int) < c; omega⟩
  · obtain ⟨a, ha, rfl⟩ := List.mem_map.mp (e ▸ hp)
    refine ⟨fun b hb => ?_, by show (W [a]).length ≤ 1; rw [W_len]; exact Nat.le_refl _⟩
    have hb' : b ∈ (W [a]).cps.toList := hb
    rw [cps_W] at hb'
    have : b = a := by simpa using hb'
    rw [this]
    exact hz.xyz a ha
  · rw [e, List.length_map, len_list]
    exact hz.len.2
theorem AT_take {al : List Nat} {i a : Nat} (e : al[i]? = some a) : AT (al.take (i + 1)) = AT (al.take i) ++ [(W [a], 1)] := by
  unfold AT
  rw [List.take_add_one, e, List.map_append]
  rfl
section
variable {P : Program} {w : World} {K : PySem.W.Frag} {mg : Str → Option Value} {base : Heap}
def spLess (K : PySem.W.Frag) : Sp := fun vs H Q E => ∃ (a b : Addr) (c : Int) (m k m' k' : Nat) (l l' : Tb), vs = [.ref a, .ref b] ∧ Bg K H a c m k l ∧ Bg K H b c m' k' l' ∧ isCk c ∧ m ≤ 1000 ∧ m' ≤ 1000 ∧ k + k' ≤ 400000 ∧
  ∀ H' r t, Same H H' → H r = none → Bg K H' r c (max m m') (k + k') t → Lk c t (l ++ scl (-1) l') → Q (.ref r) H'
abbrev nLess : List Str := ["one", "other"]
theorem sc_less : FnScope nLess nLess (defScope s_less) := ⟨rfl, rfl, rfl, by decide +kernel, rfl, by decide +kernel, by decide +kernel⟩
theorem ok_less (T : Top K mg) : OkX P w K mg base 8 "less" nLess (spLess K) := by
  obtain ⟨fd, F⟩ := fn_less T
  refine ⟨⟨fd, ?_, F.bindsN fun _ _ _ _ _ _ us hl => match us, hl with | [_, _], _ => rfl⟩, g_less T, F.kp⟩
  refine F.ok sc_less (fun vs H Q E h => ?_) (fun cdv A outer s H vs Q E hr h => ?_)
  · obtain ⟨a, b, c, m, k, m', k', l, l', rfl, _⟩ := h
    rfl
  · obtain ⟨a, b, c, m, k, m', k', l, l', rfl, h1, h2, hck, hm, hm', hk, q1⟩ := h
    have hr1 : Room 1 _ := hr.mono (by decide)
    have hr2 : Room 2 _ := hr.mono (by decide)
    obtain ⟨hc2, hc7⟩ := ck_range hck
    have hc0 : 0 < c := by omega
    obtain ⟨dx, t, ea, wa⟩ := id h1.1
    refine ⟨_, pss_cons (ps_expr (pcX (takes_of rfl rfl rfl rfl) (ok_check_clocks T) hr1 (pa_cons (pv 0) (pa_cons (pv 1) pa_nil))))
      (pss_one (ps_ret (pc (ok_bag_of T) hr (pa_cons (pe_fld (pv 0) rfl) (pa_cons (pc (ok_added T) hr2 (pa_cons (pc (ok_table_of T) hr1 (pa_cons (pv 0) pa_nil)) (pa_cons (pc (ok_table_of T) hr1 (pa_cons (pv 1) pa_nil)) (pa_cons (pe_un un_neg pe_int) (pa_cons (pe_fld (pv 0) rfl) pa_nil))))) pa_nil))))), ?_⟩
    refine ⟨_, rfl, _, rfl, a, b, c, c, _, _, rfl, h1.1, h2.1, fun _ => ?_, fun hcc => absurd rfl hcc⟩
    have v1 := vt_canon h1.2
    have v2 := vt_canon h2.2
    refine ⟨_, rfl, a, _, dx, _, _, rfl, ea, cls_Bag T, na_Bag_clock T, flds_clock _ _, ?_⟩
    refine ⟨_, rfl, a, c, canon l, rfl, h1.1, v1.nd, fun D1 hD1 => ?_⟩
    have s1 := same_upd (o := .dK (kv (canon l))) hD1
    refine ⟨_, rfl, b, c, canon l', rfl, h2.1.same s1, v2.nd, fun D2 hD2 => ?_⟩
    have s2 := same_upd (o := .dK (kv (canon l'))) hD2
    refine ⟨_, rfl, _, rfl, a, _, dx, _, _, rfl, s2 _ _ (s1 _ _ ea), cls_Bag T, na_Bag_clock T, flds_clock _ _, ?_⟩
    refine ⟨D1, D2, -1, c, canon l, canon l', rfl, hc0, hc7, s2 _ _ upd_same, upd_same, v1.nd, v2.nu, Nat.le_trans v1.ln (by omega), Nat.le_trans v2.ln (by omega), fun H3 D3 s3 n3 e3 => ?_⟩
    obtain ⟨w1, w2⟩ := vt_sum (f := -1) hc0 v1 v2
    obtain ⟨w3, w4⟩ := vt_again hc0 w1
    refine ⟨c, D3, _, rfl, hck, e3, w1.nd, fun p hp => Nat.le_trans (w1.wd p hp).2 (by omega), Nat.le_trans w1.ln (by omega), fun H4 r s4 n4 hb4 => ?_⟩
    have s := ((s1.trans s2).trans s3)
    exact q1 H4 r _ (s.trans s4) (s.free n4) ⟨hb4, w3⟩ (w4.trans (w2.trans ((lk_canon h1.2.nd).app (Lk.scl (-1) (lk_canon h2.2.nd)))))
def spOnly (K : PySem.W.Frag) : Sp := fun vs H Q _ => ∃ (a : Addr) (c : Int) (L : Tb) (z : Str), vs = [.ref a, .str z] ∧ BagAt K H a c L ∧ isAl z ∧ (∀ p ∈ L, over z p.1 ∧ p.1.length ≤ 1000) ∧ L.length ≤ 1000000 ∧ ∀ H', Same H H' → Q (.bl true) H'
abbrev nOnly : List Str := ["bag", "letters", "word", "_"]
theorem sc_only : FnScope nOnly ["bag", "letters"] (defScope s_has_only) := ⟨rfl, rfl, rfl, by decide +kernel, rfl, by decide +kernel, by decide +kernel⟩
theorem ok_only (T : Top K mg) : Ok P w K mg base 1 "has_only" ["bag", "letters"] (spOnly K) := by
  obtain ⟨fd, F⟩ := fn_has_only T
  refine ⟨⟨fd, ?_, F.bindsN fun _ _ _ _ _ _ us hl => match us, hl with | [_, _], _ => rfl⟩, g_has_only T, F.kp⟩
  refine F.ok sc_only (fun vs H Q E h => ?_) (fun cdv A outer s H vs Q E hr h => ?_)
  · obtain ⟨a, c, L, z, rfl, _⟩ := h
    rfl
  · obtain ⟨a, c, L, z, rfl, ⟨dx, t, ea, wt⟩, hz, hw, hl, q⟩ := h
    have nd := sc_only.nd
    have hs : sizeLine = 16777216 := sizeLine_eq
    obtain ⟨ps, o, e1, e2, e3⟩ := WordsAt.get wt
    refine ⟨_, PSs.nox (pss_one (ps_ret (pe_callB (cr_all rfl) (by rfl) (f_all T) (by decide +kernel) (pa_cons (pe_lc (own := [("word", 2), ("_", 3)]) (g := gPair K 2 3) (tt := tYes) rfl nd (pi_tup (pe_fld (pv 0) rfl)) (blkOk_by (N := nOnly) (sc := defScope s_has_only) (by decide +kernel))
        (fun _ _ _ _ _ => pg_tup rfl (pgs_cons (pg_name (i := 2) nd rfl (Or.inl rfl)) (pgs_cons (pg_name (i := 3) nd rfl (Or.inl rfl)) pgs_nil)))
        (fun _ _ _ _ _ => by exact pts_nil) (fun _ _ _ _ _ => by exact (pe_cmpR op_eq (pe_m1 PySem.F.slot_str_strip PySem.F.type_str_strip mt_stripChars (pv 2) (pv 1)) pe_str (nomark _)))) pa_nil)))), ?_⟩
    refine ⟨_, rfl, a, _, dx, _, _, rfl, ea, cls_Bag T, na_Bag_words T, flds_words _ _, ?_⟩
    refine ⟨t, rfl, ⟨_, .inl (.inr ⟨o, e1⟩)⟩, fun D hD => ?_⟩
    refine lc_it (walk_tup (xs := ps.map V.ref)) (fun i H' => H' D = some (.lst ((List.replicate i true).map V.bl)) ∧ Same H H') ⟨upd_same, same_upd hD⟩ (fun i H' _ hP => .inl (.inr ⟨o, hP.2 _ _ e1⟩)) ?_ ?_
    · rintro i x H1 H2 hi ⟨p1, p2⟩ ⟨rfl, e⟩
      rw [List.length_map, e2] at hi
      have ep : L[i]? = some L[i] := List.getElem?_eq_getElem hi
      generalize L[i] = p at ep
      obtain ⟨b, h1, h2⟩ := e3 i p ep
      rw [List.getElem?_map, h1] at e
      have e5 : V.ref b = x := Option.some.inj e
      subst e5
      obtain ⟨hov, hln⟩ := hw p (List.mem_of_getElem? ep)
      refine ⟨b, _, rfl, .inl (.inl (p2 _ _ h2)), rfl, ?_⟩
      refine ⟨_, _, rfl, _, _, rfl, rfl, rfl, ?_⟩
      refine ⟨_, rfl, ⟨p.1, rfl⟩, _, rfl, p.1, z, rfl, rfl, by omega, rfl, ?_⟩
      rw [strip_over hz hov]
      refine ⟨_, p1, ?_, ?_, fun b' o' y => ?_⟩
      · rw [List.length_map, List.length_replicate]
        omega
      · rw [upd_same, List.replicate_succ', List.map_append]
        rfl
      · rw [upd_ne (ne_of_none y hD)]
        exact p2 _ _ y
    · rintro H' ⟨p1, p2⟩
      refine ⟨D, List.replicate _ true, rfl, .inl (.inl p1), ?_⟩
      rw [show (List.replicate (ps.map V.ref).length true).all id = true by simp]
      exact q H' p2
def spCkAl : Sp := fun vs H Q _ => ∃ z : Str, vs = [.str z] ∧ isAl z ∧ Q .non H
theorem sc_ckal : FnScope ["thing"] ["thing"] (defScope s_check_alphabet) := ⟨rfl, rfl, rfl, by decide +kernel, rfl, by decide +kernel, by decide +kernel⟩
theorem ok_ckal (T : Top K mg) : Ok P w K mg base 1 "check_alphabet" ["thing"] spCkAl := by
  obtain ⟨fd, F⟩ := fn_check_alphabet T
  refine ⟨⟨fd, ?_, F.bindsN fun _ _ _ _ _ _ us hl => match us, hl with | [_], _ => rfl⟩, g_check_alphabet T, F.kp⟩
  refine F.ok sc_ckal (fun vs H Q E h => ?_) (fun cdv A outer s H vs Q E hr h => ?_)
  · obtain ⟨z, rfl, _⟩ := h
    rfl
  · obtain ⟨z, rfl, hz, q⟩ := h
    refine ⟨_, PSs.nox (pss_one (ps_if (pt_cmpR op_notIn_seq (pv 0) (pe_glob (v := .ref (He.ga K "ALPHABETS")) rfl (g_ALPHABETS T) rfl) (by rfl)) (pss_one ps_never) pss_nil)), ?_⟩
    refine ⟨_, rfl, _, _, rfl, .inr (x_ALPHABETS T _), rfl, rfl, _, rfl, ?_⟩
    have e : (if true = true then !inV (V.str z) [.str "xy", .str "xyz"] else inV (V.str z) [.str "xy", .str "xyz"]) = false := by
      rcases hz with rfl | rfl <;> decide +kernel
    rw [e]
    exact iteF q
def spCkOv (K : PySem.W.Frag) : Sp := fun vs H Q _ => ∃ (a : Addr) (c : Int) (L : Tb) (z : Str), vs = [.str z, .ref a] ∧ BagAt K H a c L ∧ isAl z ∧ (∀ p ∈ L, over z p.1 ∧ p.1.length ≤ 1000) ∧ L.length ≤ 1000000 ∧ ∀ H', Same H H' → Q .non H'
theorem sc_ckov : FnScope ["alphabet", "bag"] ["alphabet", "bag"] (defScope s_check_over) := ⟨rfl, rfl, rfl, by decide +kernel, rfl, by decide +kernel, by decide +kernel⟩
theorem ok_ckov (T : Top K mg) : Ok P w K mg base 2 "check_over" ["alphabet", "bag"] (spCkOv K) := by
  obtain ⟨fd, F⟩ := fn_check_over T
  refine ⟨⟨fd, ?_, F.bindsN fun _ _ _ _ _ _ us hl => match us, hl with | [_, _], _ => rfl⟩, g_check_over T, F.kp⟩
  refine F.ok sc_ckov (fun vs H Q E h => ?_) (fun cdv A outer s H vs Q E hr h => ?_)
  · obtain ⟨a, c, L, z, rfl, _⟩ := h
    rfl
  · obtain ⟨a, c, L, z, rfl, hb, hz, hw, hl, q⟩ := h
    refine ⟨_, PSs.nox (pss_cons (ps_expr (pc (ok_ckal T) hr (pa_cons (pv 0) pa_nil)))
      (pss_one (ps_if (pt_not (pt_val (pc (ok_only T) hr (pa_cons (pv 1) (pa_cons (pv 0) pa_nil))))) (pss_one ps_never) pss_nil))), ?_⟩
    refine ⟨_, rfl, z, rfl, hz, ?_⟩
    exact ⟨_, rfl, _, rfl, a, c, L, z, rfl, hb, hz, hw, hl, fun H' s' => ⟨true, rfl, iteF (q H' s')⟩⟩
end
end Fp

set_option Elab.async false
set_option linter.all false
set_option maxRecDepth 100000
set_option maxHeartbeats 4000000
namespace Fp
open PySem PySem.Spec PyProof.Rows L2
theorem over_of {z : Str} {L : Nat} {l : Tb} (h : OverT z.cps.toList L l) (hL : L ≤ 1000) : ∀ p ∈ l, over z p.1 ∧ p.1.length ≤ 1000 := fun p hp => ⟨h.ov p hp, Nat.le_trans (h.ln p hp) hL⟩
theorem over_canon {c : Int} {m k : Nat} {al : List Nat} {L : Nat} {l : Tb} (v : VT c m k l) (h : OverT al L l) : OverT al L (canon l) := by
  have key : ∀ p ∈ canon l, ∃ q ∈ l, q.1 = p.1 := fun p hp => by
    obtain ⟨q, hq, e⟩ := List.mem_map.mp ((canon_key v p.1).mp (List.mem_map.mpr ⟨p, hp, rfl⟩))
    exact ⟨q, hq, e⟩
  refine ⟨fun p hp => ?_, fun p hp => ?_⟩
  · obtain ⟨q, hq, e⟩ := key p hp
    rw [← e]
    exact h.ov q hq
  · obtain ⟨q, hq, e⟩ := key p hp
    rw [← e]
    exact h.ln q hq
theorem bt_ne {c : Int} {m k : Nat} {z : Str} {t : Tb} (hc : 2 ≤ c) (hz : isAl z) (e : Lk c t (BT z.cps.toList)) : t ≠ [] := fun y => by
  have h := e (W [120])
  rw [y, tot_nil, Int.zero_emod] at h
  have h2 : tot (BT z.cps.toList) (W [120]) = -1 := by rcases hz with rfl | rfl <;> decide +kernel
  rw [h2] at h
  have h3 : (-1 : Int) % c = c - 1 := by
    rw [← Int.add_mul_emod_self_left (-1) c 1, Int.mul_one, Int.emod_eq_of_lt (by omega) (by omega)]
    omega
  omega
section
variable {P : Program} {w : World} {K : PySem.W.Frag} {mg : Str → Option Value} {base : Heap}
def spBeg (K : PySem.W.Frag) : Sp := fun vs H Q _ => ∃ (a : Addr) (c : Int) (z : Str) (m k L : Nat) (l : Tb), vs = [.str z, .ref a] ∧ Bg K H a c m k l ∧ isCk c ∧ isAl z ∧ OverT z.cps.toList L l ∧ L ≤ 1000 ∧ m ≤ 100 ∧ k ≤ 1900 ∧
  ∀ H' x, Same H H' → OptB K H' c (max 0 m) ((1 + k) + (1 + k) * ((max 0 m + 1) * ((1 + 3) + 1))) x (fun q => Lk c (C1 l) (prs q (BT z.cps.toList))) → Q x H'
abbrev nBeg : List Str := ["alphabet", "bag", "one", "letters", "letter"]
theorem sc_beg : FnScope nBeg ["alphabet", "bag"] (defScope s_beginnings) := ⟨rfl, rfl, rfl, by decide +kernel, rfl, by decide +kernel, by decide +kernel⟩
theorem ok_beg (T : Top K mg) : Ok P w K mg base 10 "beginnings" ["alphabet", "bag"] (spBeg K) := by
  obtain ⟨fd, F⟩ := fn_beginnings T
  refine ⟨⟨fd, ?_, F.bindsN fun _ _ _ _ _ _ us hl => match us, hl with | [_, _], _ => rfl⟩, g_beginnings T, F.kp⟩
  refine F.ok sc_beg (fun vs H Q E h => ?_) (fun cdv A outer s H vs Q E hr h => ?_)
  · obtain ⟨a, c, z, m, k, L, l, rfl, _⟩ := h
    rfl
  · obtain ⟨a, c, z, m, k, L, l, rfl, hb, hck, hz, ho, hL, hm, hk, q⟩ := h
    have nd := sc_beg.nd
    have hs : sizeLine = 16777216 := sizeLine_eq
    have hr2 : Room 2 _ := hr.mono (by decide)
    have hr7 : Room 7 _ := hr.mono (by decide)
    have hr8 : Room 8 _ := hr.mono (by decide)
    have hr9 : Room 9 _ := hr.mono (by decide)
    obtain ⟨hc2, hc7⟩ := ck_range hck
    have hc0 : 0 < c := by omega
    have hzs : z.cps.toList.length = z.length := len_list z
    have vc := vt_canon hb.2
    have vU : VT c 0 1 oneM := vt_unit hc2 0
    have vA := vt_AT hc2 hz
    refine ⟨_, PSs.nox (pss_cons (ps_expr (pc (ok_ckov T) hr2 (pa_cons (pv 0) (pa_cons (pv 1) pa_nil))))
      (pss_cons (ps_set (i := 2) nd rfl (Or.inl rfl) (pc (ok_bag_of T) hr7 (pa_cons (pe_fld (pv 1) rfl) (pa_cons (pe_disp (pps_cons pe_str pe_int pps_nil) (by rfl) (by rfl) (fun z => by cases z) (by decide)) pa_nil))))
      (pss_cons (ps_set (i := 3) nd rfl (Or.inl rfl) (pc (ok_bag_of T) hr7 (pa_cons (pe_fld (pv 1) rfl) (pa_cons (pe_dc (own := [("letter", 4)]) (g := gName 4) (tt := tYes) (tk := tVar 4) (tv := tC (.int 1)) rfl nd (pi_str (pv 0)) (blkOk_by (N := nBeg) (sc := defScope s_beginnings) (by decide +kernel))
        (fun _ _ _ _ _ => pg_name (i := 4) nd rfl (Or.inl rfl)) (fun _ _ _ _ _ => by exact pts_nil) (fun _ _ _ _ _ => by exact (pv 4)) (fun _ _ _ _ _ => by exact pe_int)) pa_nil))))
      (pss_one (ps_ret (pc (ok_Ahead T) hr9 (pa_cons (pcL (ok_less T) hr8 (pa_cons (pv 2) (pa_cons (pv 1) pa_nil))) (pa_cons (pcL (ok_less T) hr8 (pa_cons (pv 2) (pa_cons (pv 3) pa_nil))) pa_nil)))))))), ?_⟩
    refine ⟨_, rfl, _, rfl, a, c, canon l, z, rfl, hb.1, hz, over_of (over_canon hb.2 ho) hL, Nat.le_trans vc.ln (by omega), fun H1 s1 => ?_⟩
    obtain ⟨dx, t, ea, wa⟩ := (hb.same s1).1
    refine ⟨_, rfl, a, _, dx, _, _, rfl, ea, cls_Bag T, na_Bag_clock T, flds_clock _ _, ?_⟩
    refine fun p np => ⟨upd_same, kv oneM, rfl, Nat.le_of_ble_eq_true rfl, ?_⟩
    rw [upd_upd, merge_kv vU.nd]
    have s2 := same_upd (o := .dK (kv oneM)) np
    refine ⟨c, p, oneM, rfl, hck, upd_same, vU.nd, fun y hy => Nat.le_trans (vU.wd y hy).2 (by decide), by decide, fun H3 b3 s3 n3 hb3 => ?_⟩
    have hb3 : Bg K H3 b3 c 0 1 oneM := by
      obtain ⟨w3, w4⟩ := vt_again hc0 vU
      exact ⟨lk_same hc0 w3 vU w4 ▸ hb3, vU⟩
    have s13 := (s1.trans s2).trans s3
    have ea3 := s3 _ _ (s2 _ _ ea)
    refine ⟨_, rfl, a, _, dx, _, _, rfl, ea3, cls_Bag T, na_Bag_clock T, flds_clock _ _, ?_⟩
    refine ⟨_, rfl, z, rfl, fun D hD => ?_⟩
    refine dc_it walk_str (fun i H' => H' D = some (.dK (kv (AT (z.cps.toList.take i)))) ∧ Same H3 H') ⟨upd_same, same_upd hD⟩ (fun _ _ _ _ => trivial) ?_ ?_
    · rintro i v H5 H6 hi ⟨q1, q2⟩ ⟨rfl, ch, ech, rfl⟩
      have ech' : z.cps.toList[i]? = some ch := by rw [Array.getElem?_toList]; exact ech
      refine ⟨rfl, ?_⟩
      have hi3 : i < 3 := by
        have := hz.len.2
        have e : z.cps.size = z.length := rfl
        omega
      have hh : has (AT (z.cps.toList.take i)) (W [ch]) = false := by
        rw [← Bool.not_eq_true, has_iff]
        intro hm'
        obtain ⟨q0, h3, h4⟩ := List.mem_map.mp hm'
        obtain ⟨a', h5, rfl⟩ := List.mem_map.mp (show q0 ∈ (z.cps.toList.take i).map fun a => (W [a], (1 : Int)) from h3)
        have e6 : a' = ch := by have := W_inj h4; simpa using this
        subst e6
        have hn := hz.nd
        rw [← List.take_append_drop (i + 1) z.cps.toList] at hn
        have hn1 := (List.nodup_append.mp hn).1
        rw [List.take_add_one, ech'] at hn1
        exact (List.nodup_append.mp hn1).2.2 a' h5 a' (by simp) rfl
      refine ⟨_, rfl, _, Sum.inr (W [ch]), rfl, q1, ?_, ?_, fun y u zz => ?_⟩
      · rw [kv_len]
        unfold AT
        rw [List.length_map, List.length_take]
        omega
      · rw [upd_same, putK_kv, AT_take ech']
        unfold putT
        rw [hh, if_neg Bool.false_ne_true]
      · rw [upd_ne (ne_of_none zz hD)]
        exact q2 y u zz
    rintro H5 ⟨q1, q2⟩
    rw [show z.cps.size = z.cps.toList.length from by rw [hzs]; rfl, List.take_length] at q1
    refine ⟨c, D, _, rfl, hck, q1, vA.nd, fun y hy => Nat.le_trans (vA.wd y hy).2 (by decide), Nat.le_trans vA.ln (by decide), fun H6 b6 s6 n6 hb6 => ?_⟩
    have hb6 : Bg K H6 b6 c 1 3 (AT z.cps.toList) := by
      obtain ⟨w3, w4⟩ := vt_again hc0 vA
      exact ⟨lk_same hc0 w3 vA w4 ▸ hb6, vA⟩
    have s36 := q2.trans s6
    have s16 := s13.trans s36
    refine ⟨_, rfl, _, rfl, b3, a, c, 0, 1, m, k, oneM, l, rfl, hb3.same s36, hb.same s16, hck, by decide, by omega, by omega, fun H7 r7 t7 s7 n7 g7 k7 => ?_⟩
    refine ⟨_, rfl, _, rfl, b3, b6, c, 0, 1, 1, 3, oneM, AT z.cps.toList, rfl, (hb3.same s36).same s7, hb6.same s7, hck, by decide, by decide, by decide, fun H8 r8 t8 s8 n8 g8 k8 => ?_⟩
    try dsimp only [tNil, List.append_nil]
    have hbig : (1 + k) + (1 + k) * ((max 0 m + 1) * ((1 + 3) + 1)) ≤ 1000000 := by
      have h1 : (max 0 m + 1) * ((1 + 3) + 1) ≤ 505 := by omega
      have h2 : (1 + k) * ((max 0 m + 1) * ((1 + 3) + 1)) ≤ 1901 * 505 := Nat.mul_le_mul (by omega) h1
      omega
    refine ahead_opt (g7.same s8) g8 hck (by omega) (by decide) (by decide) (by omega) hbig (bt_ne (m := 0) (k := 0) hc2 hz k8) (fun H9 x s9 ox => ?_)
    refine q H9 x ((s16.trans (s7.trans s8)).trans s9) (ox.imp fun q0 => ⟨fun e => k7.symm.trans (e.trans (Lk.prs_r q0 k8)), fun e => k7.trans (e.trans (Lk.prs_r q0 k8.symm))⟩)
def spFull (K : PySem.W.Frag) : Sp := fun vs H Q _ => ∃ (a : Addr) (c : Int) (z : Str) (m k L : Nat) (l : Tb), vs = [.str z, .ref a] ∧ Bg K H a c m k l ∧ isCk c ∧ isAl z ∧ OverT z.cps.toList L l ∧ L ≤ 1000 ∧ m ≤ 100 ∧ k ≤ 1900 ∧
  ∀ H' (b : Bool), Same H H' → (b = true ↔ Qt c z.cps.toList l) → Q (.bl b) H'
abbrev nFull : List Str := ["alphabet", "thing"]
theorem sc_full : FnScope nFull nFull (defScope s_is_full) := ⟨rfl, rfl, rfl, by decide +kernel, rfl, by decide +kernel, by decide +kernel⟩
theorem ok_full (T : Top K mg) : Ok P w K mg base 11 "is_full" nFull (spFull K) := by
  obtain ⟨fd, F⟩ := fn_is_full T
  refine ⟨⟨fd, ?_, F.bindsN fun _ _ _ _ _ _ us hl => match us, hl with | [_, _], _ => rfl⟩, g_is_full T, F.kp⟩
  refine F.ok sc_full (fun vs H Q E h => ?_) (fun cdv A outer s H vs Q E hr h => ?_)
  · obtain ⟨a, c, z, m, k, L, l, rfl, _⟩ := h
    rfl
  · obtain ⟨a, c, z, m, k, L, l, rfl, hb, hck, hz, ho, hL, hm, hk, q⟩ := h
    have hr1 : Room 1 _ := hr.mono (by decide)
    obtain ⟨dx, t, ea, wa⟩ := id hb.1
    have vc := vt_canon hb.2
    refine ⟨_, PSs.nox (pss_cons (ps_expr (pc (ok_ckal T) hr1 (pa_cons (pv 0) pa_nil)))
      (pss_cons (ps_if (PW.pt (pw_or (pt_not (pt_val (pe_callB call_isi (by rfl) (f_isinstance T) (by decide +kernel) (pa_cons (pv 1) (pa_cons (pe_glob (v := .ref (He.ga K "Bag")) rfl (g_Bag T) rfl) pa_nil)))))
          (pw_or1 (pt_not (pt_val (pc (ok_only T) hr1 (pa_cons (pv 1) (pa_cons (pv 0) pa_nil)))))))) (pss_one (ps_ret pe_bl)) pss_nil)
      (pss_one (ps_ret (pe_cmp (pc_notN (pc (ok_beg T) hr (pa_cons (pv 0) (pa_cons (pv 1) pa_nil))))))))), ?_⟩
    refine ⟨_, rfl, z, rfl, hz, ?_⟩
    refine ⟨_, rfl, _, _, _, _, true, rfl, .own _, .base (.ins ea (cls_Bag T) (x_class T) (x_get T) (x_takes T) (x_mro T)), x_is T, true, rfl, iteF ?_⟩
    refine ⟨_, rfl, _, rfl, a, c, canon l, z, rfl, hb.1, hz, over_of (over_canon hb.2 ho) hL, Nat.le_trans vc.ln (by omega), fun H1 s1 => ⟨true, rfl, iteF ?_⟩⟩
    refine ⟨_, rfl, _, rfl, a, c, z, m, k, L, l, rfl, hb.same s1, hck, hz, ho, hL, hm, hk, fun H2 x s2 ox => ?_⟩
    rcases ox with ⟨rfl, hno⟩ | ⟨r, q0, rfl, _, hq⟩
    · exact q H2 false (s1.trans s2) ⟨fun y => Bool.noConfusion y, fun ⟨q, e⟩ => absurd e (hno q)⟩
    · exact q H2 true (s1.trans s2) ⟨fun _ => ⟨q0, hq⟩, fun _ => rfl⟩
end
end Fp

set_option Elab.async false
set_option linter.all false
set_option maxRecDepth 100000
set_option maxHeartbeats 4000000
namespace Fp
open PySem PySem.Spec PyProof.Rows L2
theorem qt_lk {c : Int} {al : List Nat} {l t : Tb} (h : Lk c t l) : Qt c al t ↔ Qt c al l := by
  have e : Lk c (C1 t) (C1 l) := Lk.app (Lk.refl _ _) (Lk.scl (-1) h)
  exact ⟨fun ⟨q, z⟩ => ⟨q, e.symm.trans z⟩, fun ⟨q, z⟩ => ⟨q, e.trans z⟩⟩
theorem key_lk {c : Int} {m k : Nat} {t l : Tb} (hc : 0 < c) (v : VT c m k t) (h : Lk c t l) : ∀ p ∈ t, p.1 ∈ l.map (·.1) := fun p hp => by
  by_cases hm : p.1 ∈ l.map (·.1)
  · exact hm
  · exfalso
    have e := h p.1
    obtain ⟨j, ej⟩ := List.getElem?_of_mem hp
    rw [tot_num v.nd, num_of v.nd ej, tot_not hm, Int.zero_emod] at e
    have := v.nu p hp
    rw [Int.emod_eq_of_lt (by omega) this.2] at e
    omega
theorem over_lk {c : Int} {m k L : Nat} {al : List Nat} {t l : Tb} (hc : 0 < c) (v : VT c m k t) (h : Lk c t l) (ho : OverT al L l) : OverT al L t := by
  refine ⟨fun p hp => ?_, fun p hp => ?_⟩
  · obtain ⟨q, hq, e⟩ := List.mem_map.mp (key_lk hc v h p hp)
    rw [← e]
    exact ho.ov q hq
  · obtain ⟨q, hq, e⟩ := List.mem_map.mp (key_lk hc v h p hp)
    rw [← e]
    exact ho.ln q hq
theorem OverT.mono {al : List Nat} {L L' : Nat} {l : Tb} (h : OverT al L l) (hl : L ≤ L') : OverT al L' l := ⟨h.ov, fun p hp => Nat.le_trans (h.ln p hp) hl⟩
theorem OverT.app {al : List Nat} {L : Nat} {l m : Tb} (h : OverT al L l) (h' : OverT al L m) : OverT al L (l ++ m) :=
  ⟨fun p hp => by rcases List.mem_append.mp hp with z | z; exact h.ov p z; exact h'.ov p z, fun p hp => by rcases List.mem_append.mp hp with z | z; exact h.ln p z; exact h'.ln p z⟩
theorem OverT.scl {al : List Nat} {L : Nat} {l : Tb} (f : Int) (h : OverT al L l) : OverT al L (Fp.scl f l) :=
  ⟨fun p hp => by unfold Fp.scl at hp; obtain ⟨q, hq, rfl⟩ := List.mem_map.mp hp; exact h.ov q hq, fun p hp => by unfold Fp.scl at hp; obtain ⟨q, hq, rfl⟩ := List.mem_map.mp hp; exact h.ln q hq⟩
theorem over_AT (al : List Nat) : OverT al 1 (AT al) := by
  have key : ∀ p ∈ AT al, ∃ a ∈ al, p = (W [a], 1) := fun p hp => by
    obtain ⟨a, ha, e⟩ := List.mem_map.mp (show p ∈ al.map fun a => (W [a], (1 : Int)) from hp)
    exact ⟨a, ha, e.symm⟩
  refine ⟨fun p hp b hb => ?_, fun p hp => ?_⟩
  · obtain ⟨a, ha, rfl⟩ := key p hp
    rw [show (W [a], (1 : Int)).1.cps.toList = [a] from cps_W [a]] at hb
    have : b = a := by simpa using hb
    rw [this]
    exact ha
  · obtain ⟨a, ha, rfl⟩ := key p hp
    show (W [a]).length ≤ 1
    rw [W_len]
    exact Nat.le_refl _
theorem over_one (al : List Nat) (n : Int) : OverT al 0 [(("" : Str), n)] := by
  refine ⟨fun p hp b hb => ?_, fun p hp => ?_⟩
  · have : p = (("" : Str), n) := by simpa using hp
    rw [this] at hb
    exact absurd hb (by intro z; cases z)
  · have : p = (("" : Str), n) := by simpa using hp
    rw [this]
    exact Nat.le_refl 0
theorem OverT.prs {al : List Nat} {L M : Nat} {l m : Tb} (h : OverT al L l) (h' : OverT al M m) : OverT al (L + M) (Fp.prs l m) := by
  refine ⟨fun p hp b hb => ?_, fun p hp => ?_⟩
  · unfold Fp.prs at hp
    obtain ⟨u, hu, hp⟩ := List.mem_flatMap.mp hp
    obtain ⟨v, hv, rfl⟩ := List.mem_map.mp hp
    rw [show ((u.1 ++ v.1, u.2 * v.2) : Str × Int).1.cps.toList = u.1.cps.toList ++ v.1.cps.toList from app_list _ _] at hb
    rcases List.mem_append.mp hb with z | z
    · exact h.ov u hu b z
    · exact h'.ov v hv b z
  · unfold Fp.prs at hp
    obtain ⟨u, hu, hp⟩ := List.mem_flatMap.mp hp
    obtain ⟨v, hv, rfl⟩ := List.mem_map.mp hp
    show (u.1 ++ v.1).length ≤ _
    rw [app_len]
    have := h.ln u hu
    have := h'.ln v hv
    omega
/-- grown out of beginnings -/
theorem qt_grown {c : Int} {al : List Nat} {s t : Tb} (h : Lk c t ((oneM ++ scl (-1) s) ++ scl 1 (prs s (AT al)))) : Qt c al t := by
  refine ⟨s, fun x => ?_⟩
  have e := modc (h x) (tot oneM x)
  rw [tot_BT, tot_app, tot_scl, show tot oneM x + -1 * tot t x = tot oneM x - tot t x by omega, e, tot_app, tot_app, tot_scl, tot_scl]
  congr 1
  omega
theorem sum_mod {c : Int} (f g h : Nat → Int) : ∀ l : List Nat, (∀ i ∈ l, f i % c = (g i + h i) % c) → (l.map f).sum % c = ((l.map g).sum + (l.map h).sum) % c
  | [], _ => rfl
  | i :: r, e => by
    have ih := sum_mod f g h r fun j hj => e j (List.mem_cons_of_mem _ hj)
    rw [List.map_cons, List.map_cons, List.map_cons, List.sum_cons, List.sum_cons, List.sum_cons, Int.add_emod, e i List.mem_cons_self, ih, ← Int.add_emod]
    congr 1
    omega
theorem preL_add {c : Int} {t l m : Tb} (e : ∀ x, num t x % c = (num l x + num m x) % c) (cs : List Nat) : preL t cs % c = (preL l cs + preL m cs) % c := sum_mod _ _ _ _ fun _ _ => e _
theorem num_one (u : Str) (k : Int) (x : Str) : num [(u, k)] x = if u = x then k else 0 := by
  rw [num_cons]
  rfl
theorem preL_one0 (u : List Nat) (k : Int) (cs : List Nat) (h : cs.length < u.length) : preL [(W u, k)] cs = 0 := by
  unfold preL
  have : ∀ i ∈ List.range (cs.length + 1), num [(W u, k)] (W (cs.take i)) = 0 := fun i _ => by
    rw [num_one, if_neg fun e => ?_]
    have := congrArg List.length (W_inj e)
    rw [List.length_take] at this
    omega
  rw [List.map_congr_left this]
  generalize List.range (cs.length + 1) = l
  induction l with
  | nil => rfl
  | cons a r ih => rw [List.map_cons, List.sum_cons, ih]; rfl
theorem preL_one (u : List Nat) (k : Int) (ds : List Nat) : preL [(W u, k)] (u ++ ds) = k := by
  rw [preL_long (L := u.length) (fun p hp => by
    have : p = (W u, k) := by simpa using hp
    subst this
    show (W u).length ≤ _
    rw [W_len]
    exact Nat.le_refl _) u (Nat.le_refl _) ds]
  refine snoc_ind (P := fun u => preL [(W u, k)] u = k) ?_ (fun v b _ => ?_) u
  · rw [preL_nil, num_one]
    exact if_pos rfl
  · rw [preL_snoc, preL_one0 _ _ _ (by rw [List.length_append]; show v.length < v.length + 1; omega), num_one, if_pos rfl, Int.zero_add]
/-- one number changed: full no more -/
theorem qt_changed {c : Int} {al : List Nat} {l t : Tb} {L : Nat} {u : List Nat} {k : Int} (hc : 2 ≤ c) (ha : al.Nodup) (hal : al ≠ []) (hn : Nd l) (hnt : Nd t) (ho : OverT al L l) (hot : OverT al L t) (hu : ∀ b ∈ u, b ∈ al) (hul : u.length ≤ L)
    (h1 : 1 ≤ k) (h2 : k < c) (e : Lk c t (l ++ [(W u, k)])) (hq : Qt c al l) : ¬ Qt c al t := fun hz => by
  have f1 := (qt_iff hc hn ha hal ho).mp hq
  have f2 := (qt_iff hc hnt ha hal hot).mp hz
  obtain ⟨a0, r, rfl⟩ : ∃ a r, al = a :: r := by
    cases al with
    | nil => exact absurd rfl hal
    | cons a r => exact ⟨a, r, rfl⟩
  have hcs : ∀ b ∈ u ++ List.replicate (L - u.length) a0, b ∈ a0 :: r := fun b hb => by
    rcases List.mem_append.mp hb with hb | hb
    · exact hu b hb
    · rw [List.eq_of_mem_replicate hb]
      exact List.mem_cons_self
  have hl : (u ++ List.replicate (L - u.length) a0).length = L := by rw [List.length_append, List.length_replicate]; omega
  have e1 := f1 _ hcs hl
  have e2 := f2 _ hcs hl
  have e3 := preL_add (c := c) (t := t) (l := l) (m := [(W u, k)]) (fun x => by
    have := e x
    rw [tot_num hnt, tot_app, tot_num hn, tot_num (show Nd [(W u, k)] by show [W u].Nodup; simp)] at this
    exact this) (u ++ List.replicate (L - u.length) a0)
  rw [preL_one, e2, Int.add_emod, e1, Int.emod_eq_of_lt (show 0 ≤ k by omega) h2] at e3
  have h4 : (1 + k) % c = 1 := e3.symm
  by_cases hlt : 1 + k < c
  · rw [Int.emod_eq_of_lt (by omega) hlt] at h4
    omega
  · have : 1 + k = c := by omega
    rw [this, Int.emod_self] at h4
    omega
/-- a letter more: full only if nothing is longer than the empty word -/
theorem qt_more {c : Int} {l : Tb} {m : Int} (hc : 2 ≤ c) (hn : Nd l) (hr : ∀ p ∈ l, 1 ≤ p.2 ∧ p.2 < c) {L : Nat} (ho : OverT [120, 121] L l) (hm : LongOf l m) (hq : Qt c [120, 121] l) : Qt c [120, 121, 122] l ↔ m < 1 := by
  have n2 : ([120, 121] : List Nat).Nodup := by decide
  have n3 : ([120, 121, 122] : List Nat).Nodup := by decide
  have ov3 : ∀ {L : Nat}, OverT [120, 121] L l → OverT [120, 121, 122] L l := fun h => ⟨fun p hp b hb => by have := h.ov p hp b hb; simp at this ⊢; omega, h.ln⟩
  constructor
  · intro hz
    rcases hm.at_ with e | ⟨p, hp, e⟩
    · omega
    · by_cases h1 : m < 1
      · exact h1
      · exfalso
        have hL : ∀ q ∈ l, q.1.length ≤ m.toNat := fun q hq => by have := hm.le q hq; omega
        have f3 := (qt_iff hc hn n3 (by simp) (ov3 ⟨ho.ov, hL⟩)).mp hz
        have hpl : p.1.cps.toList.length = m.toNat := by rw [len_list]; omega
        obtain ⟨cs, b, ecs⟩ : ∃ cs b, p.1.cps.toList = cs ++ [b] := by
          have : p.1.cps.toList ≠ [] := fun z => by rw [z] at hpl; simp at hpl; omega
          revert this
          refine snoc_ind (P := fun x => x ≠ [] → ∃ cs b, x = cs ++ [b]) (fun z => absurd rfl z) (fun cs b _ _ => ⟨cs, b, rfl⟩) p.1.cps.toList
        have hcs : ∀ d ∈ cs, d ∈ [120, 121] := fun d hd => ho.ov p hp d (by rw [ecs]; exact List.mem_append_left _ hd)
        have hb : b ∈ [120, 121] := ho.ov p hp b (by rw [ecs]; simp)
        have up : ∀ d ∈ [120, 121], d ∈ ([120, 121, 122] : List Nat) := fun d hd => by simp at hd ⊢; omega
        have hcl : cs.length + 1 = m.toNat := by rw [ecs, List.length_append] at hpl; exact hpl
        have g1 := f3 (cs ++ [b]) (fun d hd => by
          rcases List.mem_append.mp hd with z | z
          · exact up d (hcs d z)
          · have : d = b := by simpa using z
            rw [this]
            exact up b hb) (by rw [List.length_append]; exact hcl)
        have g2 := f3 (cs ++ [122]) (fun d hd => by
          rcases List.mem_append.mp hd with z | z
          · exact up d (hcs d z)
          · have : d = 122 := by simpa using z
            rw [this]
            decide) (by rw [List.length_append]; exact hcl)
        rw [preL_snoc] at g1 g2
        have z0 : num l (W (cs ++ [122])) = 0 := num_not fun z => by
          obtain ⟨q, hq', e'⟩ := List.mem_map.mp z
          have := ho.ov q hq' 122 (by rw [e', cps_W]; simp)
          exact absurd this (by decide)
        have ep : W (cs ++ [b]) = p.1 := by rw [← ecs, W_cps]
        obtain ⟨j, ej⟩ := List.getElem?_of_mem hp
        rw [z0, Int.add_zero] at g2
        rw [ep, num_of hn ej, Int.add_emod, g2] at g1
        have hp2 := hr p hp
        rw [Int.emod_eq_of_lt (show 0 ≤ p.2 by omega) hp2.2] at g1
        by_cases hlt : 1 + p.2 < c
        · rw [Int.emod_eq_of_lt (by omega) hlt] at g1
          omega
        · have : 1 + p.2 = c := by omega
          rw [this, Int.emod_self] at g1
          omega
  · intro h1
    have hL : ∀ q ∈ l, q.1.length ≤ 0 := fun q hq => by have := hm.le q hq; omega
    have f2 := (qt_iff hc hn n2 (by simp) ⟨ho.ov, hL⟩).mp hq
    refine (qt_iff hc hn n3 (by simp) (ov3 ⟨ho.ov, hL⟩)).mpr fun cs hcs hl => ?_
    have : cs = [] := List.eq_nil_of_length_eq_zero hl
    subst this
    exact f2 [] (fun b hb => by cases hb) rfl
/-! ### leaves: words none of which begins with another one -/
def PF (lv : List (List Nat)) : Prop := lv.Pairwise fun a b => ¬ a <+: b ∧ ¬ b <+: a
theorem PF.nd {lv : List (List Nat)} (h : PF lv) : lv.Nodup := by
  refine List.Pairwise.imp ?_ h
  intro a b z e
  rw [e] at z
  exact z.1 (List.prefix_refl _)
theorem pf_grow {lv : List (List Nat)} {al : List Nat} (ha : al.Nodup) (h : PF lv) {j : Nat} {u : List Nat} (e : lv[j]? = some u) : PF (lv.eraseIdx j ++ al.map fun a => u ++ [a]) := by
  have hj : j < lv.length := (List.getElem?_eq_some_iff.mp e).1
  have rest : ∀ v ∈ lv.eraseIdx j, ¬ v <+: u ∧ ¬ u <+: v := fun v hv => by
    obtain ⟨i, hi⟩ := List.getElem?_of_mem hv
    rw [List.getElem?_eraseIdx] at hi
    have pr := List.pairwise_iff_getElem.mp h
    have eu := (List.getElem?_eq_some_iff.mp e).2
    split at hi
    · rename_i hlt
      obtain ⟨h1, h2⟩ := List.getElem?_eq_some_iff.mp hi
      have := pr i j h1 hj hlt
      rw [h2, eu] at this
      exact this
    · rename_i hlt
      obtain ⟨h1, h2⟩ := List.getElem?_eq_some_iff.mp hi
      have := pr j (i + 1) hj h1 (by omega)
      rw [h2, eu] at this
      exact ⟨this.2, this.1⟩
  refine List.pairwise_append.mpr ⟨List.Pairwise.sublist (List.eraseIdx_sublist ..) h, ?_, fun v hv y hy => ?_⟩
  · refine List.Pairwise.map _ (fun a b hne => ?_) ha
    have key : ∀ a b : Nat, a ≠ b → ¬ (u ++ [a]) <+: (u ++ [b]) := fun a b hne z => by
      have := List.IsPrefix.eq_of_length z (by simp)
      exact hne (by simpa using this)
    exact ⟨key a b hne, key b a hne.symm⟩
  · obtain ⟨a, _, rfl⟩ := List.mem_map.mp hy
    obtain ⟨r1, r2⟩ := rest v hv
    refine ⟨fun z => ?_, fun z => r2 ((List.prefix_append u [a]).trans z)⟩
    obtain ⟨t, ht⟩ := z
    revert ht
    refine snoc_ind (P := fun t => v ++ t = u ++ [a] → False) (fun ht => ?_) (fun t b _ ht => ?_) t
    · rw [List.append_nil] at ht
      exact r2 (ht ▸ List.prefix_append u [a])
    · rw [← List.append_assoc] at ht
      exact r1 ⟨t, (List.append_inj' ht rfl).1⟩
def LV (lv : List (List Nat)) : Tb := lv.map fun u => (W u, 1)
/-- the leaves are what beginnings leave -/
def Left (al : List Nat) (lv : List (List Nat)) : Prop := ∃ s : Tb, ∀ x, tot (LV lv) x = tot oneM x - tot s x + tot (prs s (AT al)) x
theorem left_start (al : List Nat) : Left al [[]] := ⟨[], fun x => by
  show tot [(W [], (1 : Int))] x = tot oneM x - tot [] x + tot [] x
  rw [tot_nil]
  show tot oneM x = _
  omega⟩
theorem tot_erase (x : Str) (u : List Nat) : ∀ (lv : List (List Nat)) (j : Nat), lv[j]? = some u → tot (LV lv) x = (if W u = x then 1 else 0) + tot (LV (lv.eraseIdx j)) x
  | [], j, e => by simp at e
  | v :: r, 0, e => by
    have : v = u := by simpa using e
    subst this
    rw [show LV (v :: r) = (W v, 1) :: LV r from rfl, tot_cons]
    rfl
  | v :: r, j + 1, e => by
    have ih := tot_erase x u r j (by simpa using e)
    rw [show LV (v :: r) = (W v, 1) :: LV r from rfl, show LV ((v :: r).eraseIdx (j + 1)) = (W v, 1) :: LV (r.eraseIdx j) from rfl, tot_cons, tot_cons, ih]
    omega
theorem left_grow {al : List Nat} {lv : List (List Nat)} {j : Nat} {u : List Nat} (h : Left al lv) (e : lv[j]? = some u) : Left al (lv.eraseIdx j ++ al.map fun a => u ++ [a]) := by
  obtain ⟨s, hs⟩ := h
  refine ⟨(W u, 1) :: s, fun x => ?_⟩
  have e1 := tot_erase x u lv j e
  rw [hs x] at e1
  have e2 : LV (lv.eraseIdx j ++ al.map fun a => u ++ [a]) = LV (lv.eraseIdx j) ++ (AT al).map fun q => (W u ++ q.1, 1 * q.2) := by
    unfold LV AT
    rw [List.map_append, List.map_map, List.map_map]
    congr 1
    refine List.map_congr_left fun a _ => ?_
    show ((W (u ++ [a]), 1) : Str × Int) = (W u ++ W [a], 1 * 1)
    rw [W_app]
    rfl
  rw [e2, tot_app, prs_cons, tot_app, tot_cons]
  show tot (LV (lv.eraseIdx j)) x + tot ((AT al).map fun q => (W u ++ q.1, 1 * q.2)) x = tot oneM x - ((if W u = x then 1 else 0) + tot s x) + (tot ((AT al).map fun q => (W u ++ q.1, 1 * q.2)) x + tot (prs s (AT al)) x)
  omega
theorem qt_left {c : Int} {al : List Nat} {lv : List (List Nat)} (h : Left al lv) : Qt c al (LV lv) := by
  obtain ⟨s, hs⟩ := h
  refine ⟨s, fun x => ?_⟩
  rw [tot_BT, tot_app, tot_scl, hs x]
  congr 1
  omega
end Fp

set_option Elab.async false
set_option linter.all false
set_option maxRecDepth 100000
set_option maxHeartbeats 4000000
namespace Fp
open PySem PySem.Spec PyProof.Rows L2
section
variable {P : Program} {w : World} {K : PySem.W.Frag} {mg : Str → Option Value} {base : Heap}
def spGrown : Sp := fun vs H Q _ => ∃ (c : Int) (z : Str) (d : Addr) (m k L : Nat) (s : Tb), vs = [.int c, .str z, .ref d] ∧ isCk c ∧ isAl z ∧ H d = some (.dK (kv s)) ∧ VT c m k s ∧ OverT z.cps.toList L s ∧ m ≤ 100 ∧ k ≤ 1000 ∧
  ∀ H' r t, Same H H' → H r = none → H' r = some (.dK (kv t)) → VT c (m + 1) (1 + k + k * 3) t → OverT z.cps.toList (L + 1) t → Lk c t ((oneM ++ scl (-1) s) ++ scl 1 (prs s (AT z.cps.toList))) → Q (.ref r) H'
abbrev nGrown : List Str := ["_law_clock_here", "_law_alphabet", "_law_starts", "_law_found", "_law_letters", "_law_letter"]
theorem sc_grown : FnScope nGrown ["_law_clock_here", "_law_alphabet", "_law_starts"] (defScope s__law_grown) := ⟨rfl, rfl, rfl, by decide +kernel, rfl, by decide +kernel, by decide +kernel⟩
theorem ok_grown (T : Top K mg) : Ok P w K mg base 3 "_law_grown" ["_law_clock_here", "_law_alphabet", "_law_starts"] spGrown := by
  obtain ⟨fd, F⟩ := fn__law_grown T
  refine ⟨⟨fd, ?_, F.bindsN fun _ _ _ _ _ _ us hl => match us, hl with | [_, _, _], _ => rfl⟩, g__law_grown T, F.kp⟩
  refine F.ok sc_grown (fun vs H Q E h => ?_) (fun cdv A outer s' H vs Q E hr h => ?_)
  · obtain ⟨c, z, d, m, k, L, s, rfl, _⟩ := h
    rfl
  · obtain ⟨c, z, d, m, k, L, s, rfl, hck, hz, ed, vs, ho, hm, hk, q⟩ := h
    have nd := sc_grown.nd
    have hs : sizeLine = 16777216 := sizeLine_eq
    obtain ⟨hc2, hc7⟩ := ck_range hck
    have hc0 : 0 < c := by omega
    have hzs : z.cps.toList.length = z.length := len_list z
    have vU : VT c 0 1 oneM := vt_unit hc2 0
    have vA := vt_AT hc2 hz
    refine ⟨_, PSs.nox (pss_cons (ps_set (i := 3) nd rfl (Or.inl rfl) (pc (ok_ladd T) hr (pa_cons (pv 0) (pa_cons (pe_disp (pps_cons pe_str pe_int pps_nil) (by rfl) (by rfl) (fun z => by cases z) (by decide)) (pa_cons (pv 2) (pa_cons (pe_un un_neg pe_int) pa_nil))))))
      (pss_cons (ps_set (i := 4) nd rfl (Or.inl rfl) (pe_callTy (call_dictP rfl) (by rfl) (f_dict T) (by decide +kernel) (pa_cons (pe_lc (own := [("_law_letter", 5)]) (g := gName 5) (tt := tYes) rfl nd (pi_str (pv 1)) (blkOk_by (N := nGrown) (sc := defScope s__law_grown) (by decide +kernel)) (fun _ _ _ _ _ => pg_name (i := 5) nd rfl (Or.inl rfl))
        (fun _ _ _ _ _ => pts_nil) (fun _ _ _ _ _ => by exact (pe_tup (pa_cons (pv 5) (pa_cons pe_int pa_nil))))) pa_nil)))
      (pss_one (ps_ret (pc (ok_ladd T) hr (pa_cons (pv 0) (pa_cons (pv 3) (pa_cons (pc (ok_lprod T) hr (pa_cons (pv 0) (pa_cons (pv 2) (pa_cons (pv 4) pa_nil)))) (pa_cons pe_int pa_nil))))))))), ?_⟩
    refine ⟨_, rfl, fun p np => ⟨upd_same, kv oneM, rfl, Nat.le_of_ble_eq_true rfl, ?_⟩⟩
    rw [upd_upd, merge_kv vU.nd]
    have s1 := same_upd (o := .dK (kv oneM)) np
    refine ⟨_, rfl, _, rfl, p, d, -1, c, 0, 1, m, k, oneM, s, rfl, hc0, hc7, upd_same, s1 _ _ ed, vU, vs, by omega, fun H2 D2 t2 s2 n2 e2 v2 k2 => ?_⟩
    refine ⟨_, rfl, z, rfl, fun D hD => ?_⟩
    refine lc_it walk_str (fun i H' => ∃ ps : List Addr, H' D = some (.lst (ps.map V.ref)) ∧ Paired (fun p (q : Str × Int) => H' p = some (.tup [.str q.1, .int q.2])) ps (AT (z.cps.toList.take i)) ∧ Same H2 H') ⟨[], upd_same, .nil, same_upd hD⟩ (fun _ _ _ _ => trivial) ?_ ?_
    · rintro i v H5 H6 hi ⟨ps, q1, q2, q3⟩ ⟨rfl, ch, ech, rfl⟩
      have ech' : z.cps.toList[i]? = some ch := by rw [Array.getElem?_toList]; exact ech
      have hi3 : i < 3 := by
        have := hz.len.2
        have e : z.cps.size = z.length := rfl
        omega
      refine ⟨rfl, ?_⟩
      refine ⟨_, rfl, by show 2 ≤ sizeLine; omega, fun t ht => ?_⟩
      have st := same_upd (o := .tup [.str (⟨#[ch]⟩ : Str), .int 1]) ht
      have eD7 := st _ _ q1
      have hlen := q2.length
      unfold AT at hlen
      rw [List.length_map, List.length_take] at hlen
      refine ⟨_, eD7, by rw [List.length_map]; omega, ps ++ [t], by rw [upd_same, List.map_append]; rfl, ?_, fun y o zz => ?_⟩
      · rw [AT_take ech']
        refine Paired.snoc (Paired.mapP q2 fun y q e => ?_) ?_
        · rw [upd_ne (ne_of (st _ _ e) eD7 (by intro y; cases y))]
          exact st _ _ e
        · rw [upd_ne (ne_of_none q1 ht).symm]
          exact upd_same
      · rw [upd_ne (ne_of_none zz hD)]
        exact st _ _ (q3 _ _ zz)
    rintro H5 ⟨ps, q1, q2, q3⟩
    rw [show z.cps.size = z.cps.toList.length from by rw [hzs]; rfl, List.take_length] at q2
    refine ⟨D, ps, kv (AT z.cps.toList), rfl, SqL.of q1, pairs_kv q2, fun u nu => ?_⟩
    rw [merge_kv vA.nd]
    have su := same_upd (o := .dK (kv (AT z.cps.toList))) nu
    have s25 := q3.trans su
    have sall := (s1.trans s2).trans s25
    have e2' := s25 _ _ e2
    have ed' := sall _ _ ed
    have eu : (upd H5 u (.dK (kv (AT z.cps.toList)))) u = some (.dK (kv (AT z.cps.toList))) := upd_same
    have ndu : d ≠ u := ne_of_none (q3 _ _ (s2 _ _ (s1 _ _ ed))) nu
    refine ⟨_, rfl, _, rfl, _, rfl, _, rfl, _, rfl, d, u, c, m, k, 1, 3, s, AT z.cps.toList, rfl, hc0, hc7, ndu, ed', eu, vs, vA, by omega, by decide, by omega, fun H7 D7 t7 s7 n7 e7 v7 k7 => ?_⟩
    refine ⟨D2, D7, 1, c, max 0 m, 1 + k, m + 1, k * 3, t2, t7, rfl, hc0, hc7, s7 _ _ e2', e7, v2, v7, by omega, fun H8 r t s8 n8 e8 v8 k8 => ?_⟩
    have lt : Lk c t ((oneM ++ scl (-1) s) ++ scl 1 (prs s (AT z.cps.toList))) := k8.trans (Lk.app k2 (Lk.scl 1 k7))
    have v8' : VT c (m + 1) (1 + k + k * 3) t := v8.mono (by omega) (Nat.le_refl _)
    refine q H8 r t ((sall.trans s7).trans s8) (back_none8 (sall.trans s7) n8) e8 v8' ?_ lt
    exact over_lk hc0 v8' lt ((((over_one _ 1).mono (Nat.zero_le _)).app ((ho.mono (Nat.le_succ L)).scl (-1))).app ((ho.prs (over_AT _)).scl 1))
theorem erase_map {α β : Type} (f : α → β) : ∀ (l : List α) (i : Nat), (l.map f).eraseIdx i = (l.eraseIdx i).map f
  | [], i => by simp
  | a :: r, 0 => rfl
  | a :: r, i + 1 => by
    show f a :: (r.map f).eraseIdx i = f a :: (r.eraseIdx i).map f
    rw [erase_map f r i]
/-- the leaves are what these beginnings leave -/
def LeftS (al : List Nat) (lv : List (List Nat)) (s : Tb) : Prop := ∀ x, tot (LV lv) x = tot oneM x - tot s x + tot (prs s (AT al)) x
theorem leftS_start (al : List Nat) : LeftS al [[]] [] := fun x => by
  show tot [(W [], (1 : Int))] x = tot oneM x - tot [] x + tot [] x
  rw [tot_nil]
  show tot oneM x = _
  omega
theorem leftS_grow {al : List Nat} {lv : List (List Nat)} {j : Nat} {u : List Nat} {s s' : Tb} (hs : LeftS al lv s) (e : lv[j]? = some u) (h1 : ∀ x, tot s' x = (if W u = x then 1 else 0) + tot s x) (h2 : ∀ x, tot (prs s' (AT al)) x = tot ((AT al).map fun q => (W u ++ q.1, 1 * q.2)) x + tot (prs s (AT al)) x) : LeftS al (lv.eraseIdx j ++ al.map fun a => u ++ [a]) s' := fun x => by
  have e1 := tot_erase x u lv j e
  rw [hs x] at e1
  have e2 : LV (lv.eraseIdx j ++ al.map fun a => u ++ [a]) = LV (lv.eraseIdx j) ++ (AT al).map fun q => (W u ++ q.1, 1 * q.2) := by
    unfold LV AT
    rw [List.map_append, List.map_map, List.map_map]
    congr 1
    refine List.map_congr_left fun a _ => ?_
    show ((W (u ++ [a]), 1) : Str × Int) = (W u ++ W [a], 1 * 1)
    rw [W_app]
    rfl
  rw [e2, tot_app, h1, h2]
  omega
theorem putT_new {l : Tb} {x : Str} {n : Int} (h : has l x = false) : putT l x n = l ++ [(x, n)] := by
  unfold putT
  rw [h]
  rfl
theorem prs_snoc (l m : Tb) (p : Str × Int) (x : Str) : tot (prs (l ++ [p]) m) x = tot (m.map fun q => (p.1 ++ q.1, p.2 * q.2)) x + tot (prs l m) x := by
  induction l with
  | nil =>
    rw [List.nil_append, prs_cons, tot_app]
  | cons a l ih =>
    rw [List.cons_append, prs_cons, tot_app, ih, prs_cons, tot_app]
    omega
/-- the beginnings that have been drawn: no leaf stands ahead of one of them -/
def StA (al : List Nat) (lv : List (List Nat)) (sl : Tb) (i : Nat) : Prop := Nd sl ∧ sl.length ≤ i ∧ ∀ p ∈ sl, p.2 = 1 ∧ ∃ t, p.1 = W t ∧ (∀ b ∈ t, b ∈ al) ∧ t.length < i ∧ ∀ v ∈ lv, ¬ v <+: t
theorem staA_new {al : List Nat} {lv : List (List Nat)} {sl : Tb} {i j : Nat} {u : List Nat} (h : StA al lv sl i) (e : lv[j]? = some u) : has sl (W u) = false := by
  refine Bool.eq_false_iff.mpr fun z => ?_
  obtain ⟨p, hp, e2⟩ := List.mem_map.mp (has_iff.mp z)
  obtain ⟨_, t, ht, _, _, hv⟩ := h.2.2 p hp
  have : t = u := W_inj (by rw [← ht, e2])
  exact hv u (List.mem_of_getElem? e) (by rw [this]; exact List.prefix_refl _)
theorem staA_grow {al : List Nat} {lv : List (List Nat)} {sl : Tb} {i j : Nat} {u : List Nat} (h : StA al lv sl i) (pf : PF lv) (e : lv[j]? = some u) (hu : (∀ b ∈ u, b ∈ al) ∧ u.length ≤ i) : StA al (lv.eraseIdx j ++ al.map fun a => u ++ [a]) (putT sl (W u) 1) (i + 1) := by
  have hn := staA_new h e
  rw [putT_new hn]
  obtain ⟨h1, h2, h3⟩ := h
  refine ⟨?_, by rw [List.length_append]; show sl.length + 1 ≤ i + 1; omega, fun p hp => ?_⟩
  · show ((sl ++ [(W u, (1 : Int))]).map (·.1)).Nodup
    rw [List.map_append, List.nodup_append]
    refine ⟨h1, by simp, fun a ha b hb z => ?_⟩
    have : b = W u := by simpa using hb
    rw [this] at z
    rw [z] at ha
    rw [has_iff.mpr ha] at hn
    cases hn
  · rcases List.mem_append.mp hp with hp | hp
    · obtain ⟨g1, t, g2, g3, g4, g5⟩ := h3 p hp
      refine ⟨g1, t, g2, g3, by omega, fun v hv hpre => ?_⟩
      rcases List.mem_append.mp hv with hv | hv
      · exact g5 v (List.mem_of_mem_eraseIdx hv) hpre
      · obtain ⟨a, _, rfl⟩ := List.mem_map.mp hv
        exact g5 u (List.mem_of_getElem? e) ((List.prefix_append u [a]).trans hpre)
    · have : p = (W u, 1) := by simpa using hp
      subst this
      refine ⟨rfl, u, rfl, hu.1, by omega, fun v hv hpre => ?_⟩
      rcases List.mem_append.mp hv with hv | hv
      · obtain ⟨k, hk, hkj⟩ := List.mem_eraseIdx_iff_getElem?.mp hv
        have hjl := (List.getElem?_eq_some_iff.mp e)
        have hkl := (List.getElem?_eq_some_iff.mp hkj)
        obtain ⟨hj1, hj2⟩ := hjl
        obtain ⟨hk1, hk2⟩ := hkl
        have := List.pairwise_iff_getElem.mp pf
        rcases Nat.lt_trichotomy j k with z | z | z
        · exact (this j k hj1 hk1 z).2 (by rw [hj2, hk2]; exact hpre)
        · exact hk z.symm
        · exact (this k j hk1 hj1 z).1 (by rw [hj2, hk2]; exact hpre)
      · obtain ⟨a, _, rfl⟩ := List.mem_map.mp hv
        have := hpre.length_le
        rw [List.length_append, List.length_singleton] at this
        omega
/-- leaves -/
def spCode (K : PySem.W.Frag) : Sp := fun vs H Q _ => ∃ (h ca : Addr) (z : Str), vs = [.ref h, .str z, .int 5] ∧ TapeAt ca H h ∧ isAl z ∧
  ∀ H' p r d' lv sl, TapeAt ca H' h → But h H H' → H' p = some (.tup [.ref r, .ref d']) → H' r = some (.dK (kv (LV lv))) → H' d' = some (.dK (kv sl)) → H r = none → H d' = none → PF lv → LeftS z.cps.toList lv sl → StA z.cps.toList lv sl 5 → (∀ u ∈ lv, (∀ b ∈ u, b ∈ z.cps.toList) ∧ u.length ≤ 5) → lv.length ≤ 11 → Q (.ref p) H'
abbrev nCode : List Str := ["_law_tape_here", "_law_alphabet", "_law_most", "_law_leaves", "_law_starts", "_law_turn", "_law_word_here", "_law_letter"]
theorem sc_code : FnScope nCode ["_law_tape_here", "_law_alphabet", "_law_most"] (defScope s__law_code) := ⟨rfl, rfl, rfl, by decide +kernel, rfl, by decide +kernel, by decide +kernel⟩
theorem ok_code (T : Top K mg) : Ok P w K mg base 2 "_law_code" ["_law_tape_here", "_law_alphabet", "_law_most"] (spCode K) := by
  obtain ⟨fd, F⟩ := fn__law_code T
  refine ⟨⟨fd, ?_, F.bindsN fun _ _ _ _ _ _ us hl => match us, hl with | [_, _, _], _ => rfl⟩, g__law_code T, F.kp⟩
  refine F.ok sc_code (fun vs H Q E h => ?_) (fun cdv A outer s' H vs Q E hr h => ?_)
  · obtain ⟨h, ca, z, rfl, _⟩ := h
    rfl
  · obtain ⟨h, ca, z, rfl, hh, hz, q⟩ := h
    have nd := sc_code.nd
    have hu := hu_of hr
    have hs : sizeLine = 16777216 := sizeLine_eq
    have hr1 : Room 1 _ := hr.mono (by decide)
    have hzs : z.cps.toList.length = z.length := len_list z
    have hz3 := hz.len.2
    refine ⟨_, PSs.nox (pss_cons (ps_set (i := 3) nd rfl (Or.inl rfl) (pe_lst (pa_cons pe_str pa_nil)))
      (pss_cons (ps_set (i := 4) nd rfl (Or.inl rfl) pe_dnewK)
      (pss_cons (ps_for PassesOwn.never rfl (pi_range1 (by rfl) (f_range T) (pa_cons (pc (ok_tdraw T) hr1 (pa_cons (pv 0) (pa_cons (pe_op op_add (pv 2) pe_int) pa_nil))) pa_nil)) (pg_name (i := 5) nd rfl (Or.inl rfl))
        (pss_cons (ps_set (i := 6) nd rfl (Or.inr rfl) (pe_bm PySem.F.plainAttrs_list PySem.F.slot_list_pop PySem.F.type_list_pop mt_popAt (pv 3) (pa_cons (pc (ok_tdraw T) hr1 (pa_cons (pv 0) (pa_cons (pe_callB call_len (by rfl) (f_len T) PySem.boot_len (pa_cons (pv 3) pa_nil)) pa_nil))) pa_nil)))
        (pss_cons (ps_dput hu (pv 4) (pv 6) pe_int rfl)
        (pss_one (ps_set (i := 3) nd rfl (Or.inl rfl) (pe_op op_cat (pv 3) (pe_lc (own := [("_law_letter", 7)]) (g := gName 7) (tt := tYes) rfl nd (pi_str (pv 1)) (blkOk_by (N := nCode) (sc := defScope s__law_code) (by decide +kernel)) (fun _ _ _ _ _ => pg_name (i := 7) nd rfl (Or.inl rfl))
          (fun _ _ _ _ _ => pts_nil) (fun _ _ _ _ _ => by exact (pe_op op_add_str (pv 6) (pv 7))))))))))
      (pss_one (ps_ret (pe_tup (pa_cons (pe_callTy (call_dictP rfl) (by rfl) (f_dict T) (by decide +kernel) (pa_cons (pe_lc (own := [("_law_word_here", 6)]) (g := gName 6) (tt := tYes) rfl nd (pi_list (pv 3)) (blkOk_by (N := nCode) (sc := defScope s__law_code) (by decide +kernel)) (fun _ _ _ _ _ => pg_name (i := 6) nd rfl (Or.inl rfl))
        (fun _ _ _ _ _ => pts_nil) (fun _ _ _ _ _ => by exact (pe_tup (pa_cons (pv 6) (pa_cons pe_int pa_nil))))) pa_nil)) (pa_cons (pv 4) pa_nil)))))))), ?_⟩
    refine ⟨by show 1 ≤ sizeLine; omega, fun L hL => ?_⟩
    have s1 := same_upd (o := .lst [.str ""]) hL
    refine fun S hS => ?_
    have s2 := s1.trans (same_upd (o := .dK []) hS)
    have eL0 : (upd (upd H L (.lst [.str ""])) S (.dK [])) L = some (.lst [.str ""]) := same_upd hS _ _ upd_same
    have eS0 : (upd (upd H L (.lst [.str ""])) S (.dK [])) S = some (.dK []) := upd_same
    have nSh : S ≠ h := (hh.same s1).fresh hS |>.1
    have nSc : S ≠ ca := (hh.same s1).fresh hS |>.2
    generalize upd (upd H L (.lst [.str ""])) S (.dK []) = H0 at s2 eL0 eS0 ⊢
    have hh0 := hh.same s2
    refine ⟨_, rfl, _, rfl, _, _, rfl, rfl, h, ca, 6, rfl, by decide, by decide, hh0, fun r1 H1 hr0 hr2 hh1 k1 => ⟨r1, rfl, by omega, by omega, ?_⟩⟩
    have nLh : L ≠ h := (hh.fresh hL).1
    have nLc : L ≠ ca := (hh.fresh hL).2
    refine for_it walk_range (fun i σ H' => ∃ (Lr : Addr) (lv : List (List Nat)) (sl : Tb) (x5 x6 x7 : Option V), σ = [some (.ref h), some (.str z), some (.int 5), some (.ref Lr), some (.ref S), x5, x6, x7] ∧ H' Lr = some (.lst (lv.map fun u => V.str (W u))) ∧ H' S = some (.dK (kv sl)) ∧ StA z.cps.toList lv sl i ∧ PF lv ∧ LeftS z.cps.toList lv sl ∧
        (∀ u ∈ lv, (∀ b ∈ u, b ∈ z.cps.toList) ∧ u.length ≤ i) ∧ lv.length ≤ 1 + 2 * i ∧ 1 ≤ lv.length ∧ Lr ≠ h ∧ Lr ≠ ca ∧ TapeAt ca H' h ∧ But h H H' ∧ ∀ b o, H b = some o → b ≠ Lr)
      ⟨L, [[]], [], _, _, _, rfl, k1 _ _ eL0 nLh, k1 _ _ eS0 nSh, ⟨List.nodup_nil, Nat.le_refl _, fun p hp => by cases hp⟩, List.pairwise_singleton _ _, leftS_start _, fun u hu => (by
        have : u = [] := by simpa using hu
        subst this
        exact ⟨fun b hb => (by cases hb), Nat.le_refl _⟩), by decide, by decide, nLh, nLc, hh1, fun b o e n => k1 b o (s2 _ _ e) n, fun b o e => ne_of_none e hL⟩ (fun _ _ _ _ _ => trivial) ?_ ?_
    · rintro i x σ H2 H3 hi ⟨Lr, lv, sl, x5, x6, x7, rfl, p1, p2, p3, p4, p5, p6, p7, p8, p9, p10, p11, p12, p13⟩ ⟨rfl, rfl⟩
      have hi4 : i < 5 := by omega
      refine ⟨_, rfl, .inl ⟨rfl, _, SqL.of p1⟩, _, rfl, _, rfl, _, _, rfl, .inl ⟨_, SqL.of p1, rfl⟩, h, ca, _, rfl, by rw [List.length_map]; omega, by rw [List.length_map]; omega, p11, fun r H4 r0 r2 hh4 k4 => ?_⟩
      rw [List.length_map] at r2
      obtain ⟨j, rfl⟩ : ∃ j : Nat, r = j := ⟨r.toNat, (Int.toNat_of_nonneg r0).symm⟩
      have hj : j < lv.length := by omega
      have eu : lv[j]? = some lv[j] := List.getElem?_eq_getElem hj
      generalize lv[j] = u at eu
      obtain ⟨hu1, hu2⟩ := p6 u (List.mem_of_getElem? eu)
      have e4 := k4 _ _ p1 p9
      have eS4 := k4 _ _ p2 nSh
      have nLS : Lr ≠ S := ne_of e4 eS4 (by intro y; cases y)
      refine ⟨Lr, _, (j : Int), j, .str (W u), rfl, rfl, e4, by omega, by omega, by rw [List.length_map, PySem.seqIndex_of (by omega) (by omega), Int.toNat_natCast], by rw [List.getElem?_map, eu]; rfl, ?_⟩
      rw [erase_map]
      have eS5 : (upd H4 Lr (.lst ((lv.eraseIdx j).map fun u => V.str (W u)))) S = some (.dK (kv sl)) := by rw [upd_ne nLS.symm]; exact eS4
      refine ⟨_, rfl, _, rfl, S, _, rfl, DPut.k (k := Sum.inr (W u)) eS5 (by have := p3.2.1; rw [kv_len]; omega), ?_⟩
      have eL6 : (upd (upd H4 Lr (.lst ((lv.eraseIdx j).map fun u => V.str (W u)))) S (.dK (putK (kv sl) (Sum.inr (W u)) (.int 1)))) Lr = some (.lst ((lv.eraseIdx j).map fun u => V.str (W u))) := by rw [upd_ne nLS]; exact upd_same
      have eS6 : (upd (upd H4 Lr (.lst ((lv.eraseIdx j).map fun u => V.str (W u)))) S (.dK (putK (kv sl) (Sum.inr (W u)) (.int 1)))) S = some (.dK (kv (putT sl (W u) 1))) := by rw [upd_same, putK_kv]
      have hh6 : TapeAt ca (upd (upd H4 Lr (.lst ((lv.eraseIdx j).map fun u => V.str (W u)))) S (.dK (putK (kv sl) (Sum.inr (W u)) (.int 1)))) h := (hh4.off but_upd p9.symm p10.symm).off but_upd nSh.symm nSc.symm
      have k6 : ∀ b o, H b = some o → b ≠ h → (upd (upd H4 Lr (.lst ((lv.eraseIdx j).map fun u => V.str (W u)))) S (.dK (putK (kv sl) (Sum.inr (W u)) (.int 1)))) b = some o := fun b o e n => by
        rw [upd_ne (ne_of_none (s1 _ _ e) hS), upd_ne (p13 b o e)]
        exact k4 _ _ (p12 b o e n) n
      generalize upd (upd H4 Lr (.lst ((lv.eraseIdx j).map fun u => V.str (W u)))) S (.dK (putK (kv sl) (Sum.inr (W u)) (.int 1))) = H6 at eL6 eS6 hh6 k6 ⊢
      refine ⟨_, rfl, _, rfl, z, rfl, fun D hD => ?_⟩
      refine lc_it walk_str (fun k H' => H' D = some (.lst (((z.cps.toList.take k).map fun a => u ++ [a]).map fun cs => V.str (W cs))) ∧ Same H6 H') ⟨upd_same, same_upd hD⟩ (fun _ _ _ _ => trivial) ?_ ?_
      · rintro k v H7 H8 hk ⟨q1, q2⟩ ⟨rfl, ch, ech, rfl⟩
        have hk3 : k < 3 := by
          have e : z.cps.size = z.length := rfl
          omega
        refine ⟨rfl, ?_⟩
        refine ⟨_, rfl, _, rfl, W u, ⟨#[ch]⟩, rfl, rfl, by rw [W_len]; show u.length + 1 ≤ sizeLine; omega, ?_⟩
        have ech' : z.cps.toList[k]? = some ch := by rw [Array.getElem?_toList]; exact ech
        refine ⟨_, q1, by rw [List.length_map, List.length_map, List.length_take]; omega, ?_, fun b o e => ?_⟩
        · rw [upd_same, List.take_add_one, ech', List.map_append, List.map_append, sign_W, cps_W]
          rfl
        · rw [upd_ne (ne_of_none e hD)]
          exact q2 b o e
      rintro H7 ⟨q1, q2⟩
      rw [show z.cps.size = z.cps.toList.length from by rw [hzs]; rfl, List.take_length] at q1
      have hel : (lv.eraseIdx j).length + 1 = lv.length := by rw [List.length_eraseIdx, if_pos hj]; omega
      refine ⟨Lr, D, _, _, rfl, rfl, q2 _ _ eL6, q1, by simp only [List.length_map]; rw [hzs]; omega, fun L2 nL2 => ?_⟩
      have sL := q2.trans (same_upd (o := .lst (((lv.eraseIdx j).map fun u => V.str (W u)) ++ ((z.cps.toList.map fun a => u ++ [a]).map fun cs => V.str (W cs)))) nL2)
      refine ⟨L2, lv.eraseIdx j ++ z.cps.toList.map fun a => u ++ [a], putT sl (W u) 1, _, _, _, rfl, by rw [upd_same, List.map_append], sL _ _ eS6, staA_grow p3 p4 eu ⟨hu1, hu2⟩, pf_grow hz.nd p4 eu, leftS_grow p5 eu (fun x => by rw [putT_new (staA_new p3 eu), tot_app, tot_cons, tot_nil, Int.add_zero, Int.add_comm]) (fun x => by rw [putT_new (staA_new p3 eu), prs_snoc]), fun v hv => ?_, ?_, ?_, ?_, ?_, hh6.same sL, fun b o e n => sL _ _ (k6 b o e n), ?_⟩
      · rcases List.mem_append.mp hv with hv | hv
        · obtain ⟨w1, w2⟩ := p6 v (List.mem_of_mem_eraseIdx hv)
          exact ⟨w1, by omega⟩
        · obtain ⟨a', ha', rfl⟩ := List.mem_map.mp hv
          refine ⟨fun b hb => ?_, by rw [List.length_append]; show u.length + 1 ≤ i + 1; omega⟩
          rcases List.mem_append.mp hb with hb | hb
          · exact hu1 b hb
          · have : b = a' := by simpa using hb
            rw [this]
            exact ha'
      · rw [List.length_append, List.length_map, hzs]
        omega
      · rw [List.length_append, List.length_map, hzs]
        have := hz.len.1
        omega
      · exact ((hh6.same q2).fresh nL2).1
      · exact ((hh6.same q2).fresh nL2).2
      · intro b o e y
        rw [y] at e
        have nh : L2 ≠ h := ((hh6.same q2).fresh nL2).1
        have := q2 _ _ (k6 _ _ e nh)
        rw [nL2] at this
        cases this
    · rintro σ H2 ⟨Lr, lv, sl, x5, x6, x7, rfl, p1, p2, p3, p4, p5, p6, p7, p8, p9, p10, p11, p12, p13⟩
      refine ⟨_, rfl, Lr, rfl, ⟨_, SqL.of p1⟩, fun D hD => ?_⟩
      refine lc_it (walk_list (xs := lv.map fun u => V.str (W u))) (fun i H' => ∃ ps : List Addr, H' D = some (.lst (ps.map V.ref)) ∧ Paired (fun p (q : Str × Int) => H' p = some (.tup [.str q.1, .int q.2])) ps (LV (lv.take i)) ∧ Same H2 H') ⟨[], upd_same, .nil, same_upd hD⟩ (fun i H' _ hP => .inl (.inl (hP.choose_spec.2.2 _ _ p1))) ?_ ?_
      · rintro i v H5 H6 hi ⟨ps, q1, q2, q3⟩ ⟨rfl, ev⟩
        rw [List.getElem?_map] at ev
        obtain ⟨u, eu, rfl⟩ := Option.map_eq_some_iff.mp ev
        rw [List.length_map] at hi
        refine ⟨rfl, ?_⟩
        refine ⟨_, rfl, by show 2 ≤ sizeLine; omega, fun t ht => ?_⟩
        have st := same_upd (o := .tup [.str (W u), .int 1]) ht
        have eD7 := st _ _ q1
        have hlen := q2.length
        unfold LV at hlen
        rw [List.length_map, List.length_take] at hlen
        refine ⟨_, eD7, by rw [List.length_map]; omega, ps ++ [t], by rw [upd_same, List.map_append]; rfl, ?_, fun y o zz => ?_⟩
        · rw [show LV (lv.take (i + 1)) = LV (lv.take i) ++ [(W u, 1)] from by unfold LV; rw [List.take_add_one, eu, List.map_append]; rfl]
          refine Paired.snoc (Paired.mapP q2 fun y q e => ?_) ?_
          · rw [upd_ne (ne_of (st _ _ e) eD7 (by intro y; cases y))]
            exact st _ _ e
          · rw [upd_ne (ne_of_none q1 ht).symm]
            exact upd_same
        · rw [upd_ne (ne_of_none zz hD)]
          exact st _ _ (q3 _ _ zz)
      rintro H5 ⟨ps, q1, q2, q3⟩
      rw [List.length_map, List.take_length] at q2
      have ndL : Nd (LV lv) := by
        show ((LV lv).map (·.1)).Nodup
        unfold LV
        rw [List.map_map]
        exact List.Pairwise.map _ (fun a b hne y => hne (W_inj y)) p4.nd
      refine ⟨D, ps, kv (LV lv), rfl, SqL.of q1, pairs_kv q2, fun u nu => ?_⟩
      rw [merge_kv ndL]
      have su := q3.trans (same_upd (o := .dK (kv (LV lv))) nu)
      have eu : (upd H5 u (.dK (kv (LV lv)))) u = some (.dK (kv (LV lv))) := upd_same
      refine ⟨_, rfl, by show 2 ≤ sizeLine; omega, fun p np => ?_⟩
      have sp := su.trans (same_upd (o := .tup [.ref u, .ref S]) np)
      refine q _ p u S lv sl (p11.same sp) (fun b o e n => sp _ _ (p12 b o e n)) upd_same (same_upd np _ _ eu) (sp _ _ p2) ?_ (s1.free hS) p4 p5 ?_ (fun v hv => ?_) (by omega)
      · cases e : H u with
        | none => rfl
        | some o =>
          have := q3 _ _ (p12 u o e ((p11.same q3).fresh nu).1)
          rw [nu] at this
          cases this
      · obtain ⟨g1, g2, g3⟩ := p3
        refine ⟨g1, by omega, fun p hp => ?_⟩
        obtain ⟨f1, t, f2, f3, f4, f5⟩ := g3 p hp
        exact ⟨f1, t, f2, f3, by omega, f5⟩
      obtain ⟨w1, w2⟩ := p6 v hv
      exact ⟨w1, by omega⟩
end
end Fp

set_option Elab.async false
set_option linter.all false
set_option maxRecDepth 100000
set_option maxHeartbeats 2000000
/-! key=lambda _law_word_here: (-len(_law_word_here), _law_word_here), called -/
namespace Fp
open PySem PySem.W PySem.Spec PyProof.Rows
def lmA (p : Pos) : Arguments := { posonlyargs := [], args := [{ arg := "_law_word_here", annotation := none, pos := p }], vararg := none, kwonlyargs := [], kw_defaults := [], kwarg := none, defaults := [] }
def lmB (p1 p2 p3 p4 p5 p6 : Pos) : Expr := .Tuple [.UnaryOp .USub (.Call (.Name "len" p1) [.Name "_law_word_here" p2] [] p3) p4, .Name "_law_word_here" p5] 0 p6
def lmS : Scope := { kind := .function, names := [(PySem.Str.ofString "_law_word_here", .local), (PySem.Str.ofString "len", .globalImplicit)], isGenerator := false, isCoroutine := false }
theorem ldL {M : Model} {s : Shared} {env : Env} {m : Str → Option Value} {pos : Pos} {v : Value} {Q : Value → Shared → Prop} {A : Around} {E : Value → Shared → Prop} (hk : env.scope.kind = .function) (hl : env.kindOf "_law_word_here" = some .local) (hn : s.heap.Ns env.locals m) (hv : m "_law_word_here" = some v) (h : Q v s) :
    wpAny M A (eval (.Name "_law_word_here" pos) env) Q E s := wpAny_Name (wpAny_loadName_local hk hl hn hv h) (by decide)
section
variable {prog : Program} {w : World} {A : Around} {E : Value → Shared → Prop} {s : Shared} {K : Frag} {mg : Str → Option Value} {base : Heap} {f c' : Addr} {qual : Str} {pm ctv : Value} {p0 p1 p2 p3 p4 p5 p6 : Pos}
theorem lam_rank (hf : s.heap.get? f = some (kla_obj "<lambda>" qual (lmA p0) (lmB p1 p2 p3 p4 p5 p6) lmS [] pm c' ctv)) (hc : s.heap.CodeRec (.ref c') qual) (Mo : L2.Mod K mg base) (kb : ∀ b o, base.get? b = some o → s.heap.get? b = some o) (hlen : mg "len" = none) (hroom : A.depth + 1 < recursionLimit)
    {w0 : Str} {t : Tok} (hw : w0.length ≤ sizeLine) : wpAny (model prog w) A (call (.ref f) [.str w0 t]) (KeyPure (rk w0) s) E s := by
  obtain ⟨mb, b1, b2⟩ := Mo.blt
  refine wpAny_call (kla_callFunE (by omega) hf rfl rfl rfl rfl hc ?_)
  refine wpAny_of_eq (show bindArgs _ _ = pure [(PySem.Str.ofString "_law_word_here", Value.str w0 t)] by first | rfl | with_unfolding_all rfl) ?_
  refine wpAny_newFunctionEnv (fun x hx => ?_) (fun x hx => ?_) (fun h' hn sb => ?_)
  · rcases List.mem_cons.mp hx with rfl | hx
    · decide
    · rcases List.mem_cons.mp hx with rfl | hx
      · decide
      · cases hx
  · obtain rfl := List.mem_singleton.mp hx
    first | rfl | decide
  have k : ∀ b o, s.heap.get? b = some o → h'.get? b = some o := fun b o e => (sb.2 b (Nat.ne_of_lt (Heap.lt_size e))).trans (Heap.get?_push_of_some _ e)
  refine ⟨Mo.nolimit.keeps fun b o e => k b o (kb b o e), kla_codeExpr ?_⟩
  have hn' : h'.Ns s.heap.objs.size fun x => List.lookup x [(PySem.Str.ofString "_law_word_here", Value.str w0 t)] := hn
  show wpAny _ _ (eval (lmB p1 p2 p3 p4 p5 p6) _) _ _ _
  unfold lmB
  refine wpAny_Tuple_spliced ?_
  show wpAny _ _ (spliced ((false, eval _ _) :: backTo p6 (starEach [_] _))) _ _ _
  refine Calls.spliced_cons (wpAny_UnaryOp ?_)
  refine wpAny_Call_Name_kw (Calls.Name_function_global rfl rfl (Calls.loadGlobal_builtin (Mo.glob.keeps fun b o e => k b o (kb b o e)) hlen (b1.keeps fun b o e => k b o (kb b o e)) ((b2 "len" (by decide)).trans boot_len) ?_) (by decide))
  have hs : sizeLine = 16777216 := sizeLine_eq
  have hl63 := L2.line63
  have hv : List.lookup (PySem.Str.ofString "_law_word_here") [(PySem.Str.ofString "_law_word_here", Value.str w0 t)] = some (Value.str w0 t) := by
    rw [List.lookup_cons_self]
  refine callWith_builtin1 (spliced_more (ldL (m := fun x => List.lookup x [(PySem.Str.ofString "_law_word_here", Value.str w0 t)]) (v := .str w0 t) rfl rfl hn' hv (spliced_none ?_))) rfl rfl
  refine len_str (by omega) (neg_int ?_)
  show wpAny _ _ (spliced ((false, eval _ _) :: backTo p6 (starEach [] _))) _ _ _
  refine Calls.spliced_cons (ldL (m := fun x => List.lookup x [(PySem.Str.ofString "_law_word_here", Value.str w0 t)]) (v := .str w0 t) rfl rfl hn' hv (Calls.spliced_nil ?_))
  refine ⟨by show 2 ≤ sizeLine; rw [sizeLine_eq]; decide, ?_⟩
  refine ⟨_, _, rfl, fun b o e => Heap.get?_push_of_some _ (k b o e), ?_⟩
  exact Reads.tuple (Heap.get?_push_size _ rfl) rfl rfl (by
    first
    | exact ReadsAll.cons (Reads.int _ _) (ReadsAll.cons (Reads.str _ _) ReadsAll.nil)
    | (have := ReadsAll.cons (h := Heap.push h' _) (Reads.int (-(w0.length : Int)) _) (ReadsAll.cons (Reads.str w0 t) ReadsAll.nil); simpa using this))
end
end Fp

set_option Elab.async false
set_option linter.all false
set_option maxRecDepth 100000
set_option maxHeartbeats 2000000
/-! sorted(xs, key=lambda _law_word_here: (-len(_law_word_here), _law_word_here)) -/
namespace L2
open PySem PySem.Spec PyProof.Rows
def tSortLam (K : PySem.W.Frag) (T : List (Addr × Str)) (t : TA) : TE := fun σ H Q => t σ H fun vs H1 => LamX.Tabs T H1 ∧ ∃ (a : Addr) (ws : List Str), vs = [.ref a] ∧ H1 a = some (.lst (ws.map V.str)) ∧ (∀ w ∈ ws, w.length ≤ sizeLine) ∧
  ∀ H2 p, LamX.ExtN H1 H2 → LamX.Tabs T H2 → H2 p = none → Q (.ref p) (upd H2 p (.lst ((ws.mergeSort Fp.leR).map V.str)))
theorem ext_ok {P : Program} {w : World} {H : Hp} {h : Heap} {a : Addr} {f : Heap → Prop} (x : ObjOk P w H h a (.ext f)) : f h := by
  unfold ObjOk at x
  exact x.1
theorem pe_sortLam {X : Cx} {T : List (Addr × Str)} {c P : Addr} {e : Expr} {t : TA} {p pos lpos kpos p0 p1 p2 p3 p4 p5 p6 : Pos} (hcalm : X.calm = true) (hg : Gl X "sorted") (hm : X.mg "sorted" = none) (hlen : X.mg "len" = none) (hr : Room 1 X.A) (ha : PA X [e] t)
    (TB : LamX.TabB X.base X.mg c P) (hcode : X.env.code = .ref c) (hT : (P, X.env.qual ++ Str.ofString "<lambda>") ∈ T) (hu : ∀ q ∈ T, q.1 = P → q.2 = X.env.qual ++ Str.ofString "<lambda>")
    (he : backTo pos (starEach [e] X.env) = (false, eval e X.env) :: backTo pos (starEach [] X.env) := by rfl) (hpl : ((backTo pos (starEach [e] X.env)).any fun x => x.1) = false := by rfl) (hall : ((backToKw pos (keywordEach [⟨some "key", .Lambda (Fp.lmA p0) (Fp.lmB p1 p2 p3 p4 p5 p6) Fp.lmS lpos, kpos⟩] X.env)).all fun x => x.1.isSome) = true := by rfl) (hnone : ((backToKw pos (keywordEach [⟨some "key", .Lambda (Fp.lmA p0) (Fp.lmB p1 p2 p3 p4 p5 p6) Fp.lmS lpos, kpos⟩] X.env)).any fun x => x.1.isNone) = false := by rfl) (hks : List.filterMap (fun x => x.1) (backToKw pos (keywordEach [⟨some "key", .Lambda (Fp.lmA p0) (Fp.lmB p1 p2 p3 p4 p5 p6) Fp.lmS lpos, kpos⟩] X.env)) = [Str.ofString "key"] := by rfl) :
    PE X (.Call (.Name "sorted" p) [e] [⟨some "key", .Lambda (Fp.lmA p0) (Fp.lmB p1 p2 p3 p4 p5 p6) Fp.lmS lpos, kpos⟩] pos) (tSortLam X.K T t) := by
  refine ⟨fun pins s σ H Q I h => ?_⟩
  refine wpAny_Call_Name_kw (ld_blt I hg hm (show bootBuiltins "sorted" = some (.builtin "sorted") by decide +kernel) (callWith_kw (thn (ha.run pos pins s σ H _ I h) fun us s1 ⟨vs, H1, I1, r1, q1⟩ => ?_) he hpl hall hnone) (by decide) (by decide))
  obtain ⟨hTabs, a, ws, rfl, hS, hwl, q⟩ := q1
  obtain rfl := Vals.ref1 r1
  refine wpAny_evalAll_cons (wpAny_bind ?_)
  refine LamX.lam_make2 I1 TB hcode hT hu hTabs rfl (fun y hy e => ?_) fun f c' pm ctv H2 s2 I2 hext htabs hf hfn hfr hco => ?_
  · rcases List.mem_cons.mp hy with rfl | hy
    · cases e
    · rcases List.mem_cons.mp hy with rfl | hy
      · cases e
      · cases hy
  refine wpAny_bind (wpAny_standAt (wpAny_pure ?_))
  refine wpAny_pure ?_
  have hS2 : SqL X.K H2 a (ws.map V.str) := SqL.of (hext _ _ hS (by intro ps e; cases e))
  obtain ⟨its, rv, hl, hz⟩ := I2.list hS2
  rw [hks]
  have hE : PySem.W.EachIs (fun v w => ∃ t, v = Value.str w t) its ws := by
    have hv := rv
    clear hl hz q hS hS2
    have hl' : its.length = ws.length := by rw [← rv.length, List.length_map]
    refine Fp.strs_each hl' fun j v e => ?_
    have hj : j < ws.length := by rw [← hl']; exact (List.getElem?_eq_some_iff.mp e).1
    have ew : ws[j]? = some ws[j] := List.getElem?_eq_getElem hj
    obtain ⟨u, hu', r⟩ := Vals.get rv (i := j) (x := .str ws[j]) (by rw [List.getElem?_map, ew]; rfl)
    rw [e] at hu'
    obtain ⟨t, rfl⟩ := r
    exact ⟨ws[j], t, ew, Option.some.inj hu'⟩
  have hz2 : ws.length ≤ sizeLine := by rw [List.length_map] at hz; exact hz
  have hun := hr.un
  refine PySem.W.sorted_key_data (b := false) Fp.rk hl.isList hE (Fp.rk_all ws) (Fp.rk_sortable ws) hz2 (fun w0 hw0 => ?_) (PyProof.Rows.ksk_s1 _ _) (fun x => PyProof.Rows.ksk_l1 _ _) (fun x => ksk_t1 _ _) (fun v w0 hR hw0 h tk kp => ?_) fun out n h' tk kp hnew hD hlen ho => ?_
  · have := Fp.rk_depth w0
    omega
  · obtain ⟨t, rfl⟩ := hR
    obtain ⟨oc, cvs, ct, hc1, hc2, hc3⟩ : ∃ oc vs t, s2.heap.get? c' = some oc ∧ oc.data = Data.fields vs ∧ vs[1]? = some (Value.str (X.env.qual ++ Str.ofString "<lambda>") t) := ext_ok (I2.hok _ _ hco)
    refine Fp.lam_rank (s := { heap := h, gens := s2.gens, drawn := s2.drawn, toks := tk, os := s2.os }) (qual := X.env.qual ++ Str.ofString "<lambda>") (kp _ _ hf) ⟨c', oc, cvs, ct, rfl, kp _ _ hc1, hc2, hc3⟩ I2.ok.mod (fun b o e => kp _ _ (I2.bk b o e)) hlen ?_ (hwl w0 hw0)
    have := hr.dp
    show X.A.depth + 1 < _
    omega
  · have hlen2 : ((ws.mergeSort Fp.leR).map V.str).length ≤ sizeLine := by
      rw [List.length_map, List.length_mergeSort]
      exact hz2
    exact ⟨.ref _, upd H2 (s2.heap.objs.size + 1) (.lst ((ws.mergeSort Fp.leR).map V.str)), I2.laid (t' := tk) (fun b o e => kp b o e) (Nat.le_succ _) ⟨hlen2, out, n, Fp.vals_strs ho, hD⟩, rfl, q _ _ hext htabs (I2.hok.fresh (Nat.le_succ _))⟩
end L2

set_option Elab.async false
set_option linter.all false
set_option maxRecDepth 100000
set_option maxHeartbeats 4000000
namespace L2
open PySem PySem.Spec PyProof.Rows
theorem FunD.okC {P : Program} {w : World} {K : PySem.W.Frag} {mg : Str → Option Value} {base : Heap} {x qual : Str} {params : Arguments} {body : List Stmt} {scope : Scope} {dvs : List V} {kws : List (Str × V)} {fd : FuncData} {q : He.Defn}
    {CX : CXT} {N ps : List Str} {k : Nat} {sp : Sp} (F : FunD K x qual params body scope dvs kws (He.fAd K q) fd) (S : FnScope N ps scope) (len : ∀ vs H Q E, sp vs H Q E → vs.length = ps.length)
    (hbody : ∀ (A : Around) (outer : List Env) (s : Shared) (H : Hp) (vs : List V) (Q : VK) (E : XK), Room k (A.deeper (envOfC qual scope s.heap.objs.size (He.fAd K q) (.ref (He.cT K q).1))) → sp vs H Q E →
      ∃ t, PSs (cxOf CX P w K mg base N qual scope (He.fAd K q) (.ref (He.cT K q).1) A outer s H E) body t ∧ t { nx := fun _ H' => Q .non H', rt := Q } (start N vs) H) : FnOk P w K mg base CX (k + 1) (He.fAd K q) fd ps sp := by
  obtain ⟨oc, od, dV, kV, doc, pm, an, cdv, ct, osl, rfl, lk, hcd, _, _⟩ := F.ex
  obtain ⟨c, rfl⟩ := He.codeIn_ref hcd
  have e : (He.cT K q).1 = c := He.codeOf_eq lk rfl
  rw [e] at hbody
  exact fn_of lk hcd S len fun A outer s H vs Q E hr hsp => hbody A outer s H vs Q E hr hsp
end L2
namespace Fp
open PySem PySem.Spec PyProof.Rows L2
theorem BagAt.ext {K : PySem.W.Frag} {H H' : Hp} {b : Addr} {c : Int} {L : Tb} (h : BagAt K H b c L) (k : LamX.ExtN H H') : BagAt K H' b c L := by
  obtain ⟨dx, t, h1, ps, o, e1, e2, e3⟩ := h
  exact ⟨dx, t, k _ _ h1 (by intro ps z; cases z), ps, o, k _ _ e1 (by intro ps z; cases z), e2, Paired.mapP e3 fun a q z => k _ _ z (by intro ps z; cases z)⟩
def dLs (L : Tb) : PyData := .list (L.map fun p => .tuple [.str p.1, .int p.2])
theorem dLs_plain (L : Tb) : (dLs L).plain = true := by
  have := dW_plain L
  simpa [dLs, dW, PyData.plain] using this
theorem dLs_depth (L : Tb) : (dLs L).depth ≤ 64 := by
  have := dW_depth L
  simpa [dLs, dW, PyData.depth] using this
theorem dLs_eqv (L : Tb) : PyData.eqv (dLs L) (dLs L) = true := by
  have := dW_eqv L L
  simpa [dLs, dW, PyData.eqv] using this
theorem dp_pairs {K : PySem.W.Frag} {H : Hp} {ps : List Addr} {L : Tb} (h : Paired (fun p (q : Str × Int) => H p = some (.tup [.str q.1, .int q.2])) ps L) : DpAll K H (ps.map V.ref) (L.map fun p => .tuple [.str p.1, .int p.2]) := by
  induction h with
  | nil => exact .nil
  | cons h t ih => exact .cons (.tup (.inl (.inl h)) (.cons (.str _) (.cons (.int _) .nil))) ih
theorem paired_getL {α β : Type} {F : α → β → Prop} {as : List α} {bs : List β} (h : Paired F as bs) : ∀ {i : Nat} {a : α}, as[i]? = some a → ∃ b, bs[i]? = some b ∧ F a b := by
  induction h with
  | nil => intro i b e; simp at e
  | @cons a b as bs h t ih =>
    intro i a' e
    cases i with
    | zero =>
      have : a = a' := by simpa using e
      exact ⟨b, rfl, this ▸ h⟩
    | succ i => exact ih (by simpa using e)
abbrev dIs : He.Defn := ("_law_is", none)
def qLam : Str := (envOfC "_law_is" (defScope s__law_is) 0 0 .none).qual ++ Str.ofString "<lambda>"
def TT (K : PySem.W.Frag) : List (Addr × Str) := [((He.cT K dIs).2, qLam)]
section
variable {P : Program} {w : World} {K : PySem.W.Frag} {mg : Str → Option Value} {base : Heap}
def spIsL (K : PySem.W.Frag) : Sp := fun vs H Q _ => ∃ (b d : Addr) (c : Int) (l : Tb), vs = [.ref b, .int c, .ref d] ∧ LamX.Tabs (TT K) H ∧ BagAt K H b c (canon l) ∧ H d = some (.dK (kv l)) ∧ Nd l ∧ (∀ p ∈ l, p.1.length ≤ 1000000) ∧ l.length ≤ 1000000 ∧ ∀ H', LamX.ExtN H H' → LamX.Tabs (TT K) H' → Q (.bl true) H'
abbrev nIsL : List Str := ["_law_thing", "_law_clock_here", "_law_words", "_law_due", "_law_word_here", "_law_pair"]
theorem sc_isL : FnScope nIsL ["_law_thing", "_law_clock_here", "_law_words"] (defScope s__law_is) := ⟨rfl, rfl, rfl, by decide +kernel, rfl, by decide +kernel, by decide +kernel⟩
theorem ok_is (T : Top K mg) (TB : LamX.TabB base mg (He.cT K dIs).1 (He.cT K dIs).2) : Ok P w K mg base 2 "_law_is" ["_law_thing", "_law_clock_here", "_law_words"] (spIsL K) := by
  obtain ⟨fd, F⟩ := fn__law_is T
  refine ⟨⟨fd, ?_, F.bindsN fun _ _ _ _ _ _ us hl => match us, hl with | [_, _, _], _ => rfl⟩, g__law_is T, F.kp⟩
  refine FunD.okC (q := dIs) F sc_isL (fun vs H Q E h => ?_) (fun A outer s H vs Q E hr h => ?_)
  · obtain ⟨b, d, c, l, rfl, _⟩ := h
    rfl
  · obtain ⟨b, d, c, l, rfl, tb, ⟨dx, t, ea, hw⟩, hd, hnd, hwl, hll, q⟩ := h
    have nd := sc_isL.nd
    have hu := hu_of hr
    have hs : sizeLine = 16777216 := sizeLine_eq
    refine ⟨_, PSs.nox (pss_cons (ps_if (PW.pt (pw_or (pt_not (pt_val (pe_callB call_isi (by rfl) (f_isinstance T) (by decide +kernel) (pa_cons (pv 0) (pa_cons (pe_glob (v := .ref (He.ga K "Bag")) rfl (g_Bag T) rfl) pa_nil))))) (pw_or1 (pt_cmpR op_ne (pe_fld (pv 0) rfl) (pv 1) (nomark _))))) (pss_one (ps_ret pe_bl)) pss_nil)
      (pss_cons (ps_setLc (i := 3) (own := [("_law_word_here", 4)]) (g := gName 4) (tt := tYes) (by rfl) nd rfl rfl (sw_true rfl rfl rfl (by decide +kernel)) (pi_list (pe_sortLam (T := TT K) (c := (He.cT K dIs).1) (P := (He.cT K dIs).2) (by rfl) (by rfl) (f_sorted T) (f_len T) hr (pa_cons (pe_callTy (call_listD rfl) (by rfl) (f_list T) (by decide +kernel) (pa_cons (pv 2) pa_nil)) pa_nil) TB rfl (List.mem_singleton.mpr rfl) (fun z hz _ => by rw [List.mem_singleton.mp hz]; rfl)))
        (blkOk_by (N := nIsL) (sc := defScope s__law_is) (by decide +kernel)) (fun _ _ _ _ _ => pg_name (i := 4) nd rfl (Or.inl rfl)) (fun _ _ _ _ _ => pts_nil) (fun _ _ _ _ _ => by exact pe_tup (pa_cons (pv 4) (pa_cons (pe_dget hu (pv 2) (pv 4) (fun _ _ => rfl)) pa_nil))))
      (pss_cons (ps_if (PW.pt (pw_or (pt_not (pt_val (pe_callB call_isi (by rfl) (f_isinstance T) (by decide +kernel) (pa_cons (pe_fld (pv 0) rfl) (pa_cons (pe_bltn (v := .ty "tuple") (by rfl) (f_tuple T) (by decide +kernel) rfl) pa_nil))))) (pw_or1 (pt_cmpR (op_neP hr.units) (pe_callTy call_list_of (by rfl) (f_list T) (by decide +kernel) (pa_cons (pe_fld (pv 0) rfl) pa_nil)) (pv 3) (nomark _))))) (pss_one (ps_ret pe_bl)) pss_nil)
      (pss_one (ps_ret (pe_cmpR op_eq (pe_callB call_len_seq (by rfl) (f_len T) PySem.boot_len (pa_cons (pe_lc (te := tVar 5) (own := [("_law_pair", 5)]) (g := gName 5) rfl nd (pi_tup (pe_fld (pv 0) rfl)) (blkOk_by (N := nIsL) (sc := defScope s__law_is) (by decide +kernel)) (fun _ _ _ _ _ => pg_name (i := 5) nd rfl (Or.inl rfl))
        (fun _ _ _ _ _ => by exact pts_one (PW.pt (pw_or (pt_val (pe_callB (id := "isinstance") (r := rIsi K) call_isi (by rfl) (f_isinstance T) (by decide +kernel) (pa_cons (pe_ix (r := rIxT K) ix_tup (pv 5) pe_int (fun _ _ => rfl)) (pa_cons (pe_bltn (v := .ty "bool") (by rfl) (f_bool T) (by decide +kernel) rfl) pa_nil)))) (pw_or1 (pt_not (pt_val (pe_callB (id := "isinstance") (r := rIsi K) call_isi (by rfl) (f_isinstance T) (by decide +kernel) (pa_cons (pe_ix (r := rIxT K) ix_tup (pv 5) pe_int (fun _ _ => rfl)) (pa_cons (pe_bltn (v := .ty "str") (by rfl) (f_str T) (by decide +kernel) rfl) pa_nil)))))))))
        (fun _ _ _ _ _ => by exact pv 5)) pa_nil)) pe_int (nomark _))))))), ?_⟩
    refine ⟨_, rfl, _, _, _, _, true, rfl, .own _, .base (.ins ea (cls_Bag T) (x_class T) (x_get T) (x_takes T) (x_mro T)), x_is T, true, rfl, iteF ?_⟩
    refine ⟨_, rfl, b, _, dx, _, _, rfl, ea, cls_Bag T, na_Bag_clock T, flds_clock _ _, _, rfl, rfl, _, rfl, ?_⟩
    rw [decide_eq_true rfl]
    refine iteF ?_
    refine ⟨_, rfl, d, kv l, rfl, .inl hd, fun A0 nA => ?_⟩
    have ek : ((kv l).map fun kv => kV kv.1) = (l.map (·.1)).map V.str := by
      unfold kv
      rw [List.map_map, List.map_map]
      rfl
    rw [ek]
    have sA := same_upd (o := .lst ((l.map (·.1)).map V.str)) nA
    have eA := upd_same (H := H) (a := A0) (o := HO.lst ((l.map (·.1)).map V.str))
    replace tb := tb.ext sA
    have xA : LamX.ExtN H (upd H A0 (.lst ((l.map (·.1)).map V.str))) := LamX.ExtN.of sA
    have hb : BagAt K (upd H A0 (.lst ((l.map (·.1)).map V.str))) b c (canon l) := BagAt.ext ⟨dx, t, ea, hw⟩ xA
    replace ea := sA _ _ ea
    replace hd := sA _ _ hd
    generalize upd H A0 (.lst ((l.map (·.1)).map V.str)) = H1 at eA tb xA hb ea hd ⊢
    refine ⟨tb, A0, l.map (·.1), rfl, eA, fun x hx => ?_, fun H2 S x2 tb2 nS => ?_⟩
    · obtain ⟨p, hp, rfl⟩ := List.mem_map.mp hx
      have := hwl p hp
      omega
    have sS := same_upd (o := .lst (((l.map (·.1)).mergeSort leR).map V.str)) nS
    have eS : (upd H2 S (.lst (((l.map (·.1)).mergeSort leR).map V.str))) S = some (.lst ((ordW l).map V.str)) := upd_same
    have x3 := x2.trans (LamX.ExtN.of sS)
    replace tb2 := tb2.ext sS
    replace hb := hb.ext x3
    replace hd := x3 _ _ hd (by intro ps z; cases z)
    have xH := xA.trans x3
    generalize upd H2 S (.lst (((l.map (·.1)).mergeSort leR).map V.str)) = H3 at eS tb2 hb hd xH ⊢
    clear x2 x3 sS xA ea hw eA tb
    refine ⟨S, rfl, ⟨_, SqL.of eS⟩, fun D hD => ?_⟩
    have nDS : S ≠ D := ne_of_none eS hD
    refine lc_it (walk_list (xs := (ordW l).map V.str)) (fun i H' => ∃ ps : List Addr, H' D = some (.lst (ps.map V.ref)) ∧ ps.length = i ∧ Paired (fun p (q : Str × Int) => H' p = some (.tup [.str q.1, .int q.2])) ps ((canon l).take i) ∧ Same H3 H' ∧ H' S = some (.lst ((ordW l).map V.str)))
      ⟨[], upd_same, rfl, .nil, same_upd hD, by rw [upd_ne nDS]; exact eS⟩ (fun i H' _ hP => .inl (.inl hP.choose_spec.2.2.2.2)) ?_ ?_
    · rintro i x H4 H5 hi ⟨ps, p1, p2, p3, p4, p5⟩ ⟨rfl, e⟩
      rw [List.length_map, ordW_len] at hi
      rw [List.getElem?_map] at e
      cases ew : (ordW l)[i]? with
      | none => rw [ew] at e; cases e
      | some x0 =>
        rw [ew] at e
        have e2 : V.str x0 = x := Option.some.inj e
        subst e2
        have hx0 : x0 ∈ l.map (·.1) := ordW_mem.mp (List.mem_of_getElem? ew)
        refine ⟨rfl, ?_⟩
        refine ⟨_, rfl, _, rfl, _, rfl, d, .int (num l x0), rfl, .inl ⟨kv l, Sum.inr x0, .inl (p4 _ _ hd), rfl, (valV_yes (has_iff.mpr hx0)).symm⟩, ?_⟩
        refine ⟨by show 2 ≤ sizeLine; omega, fun p hp => ?_⟩
        have npD : D ≠ p := ne_of_none p1 hp
        have npS : S ≠ p := ne_of_none p5 hp
        refine ⟨ps.map V.ref, by rw [upd_ne npD]; exact p1, by rw [List.length_map]; omega, ps ++ [p], ?_, ?_, ?_, ?_, ?_⟩
        · rw [upd_same, List.map_append]
          rfl
        · rw [List.length_append, p2]
          rfl
        · have ec : (canon l).take (i + 1) = (canon l).take i ++ [(x0, num l x0)] := by
            rw [List.take_add_one]
            unfold canon
            rw [List.getElem?_map, ew]
            rfl
          rw [ec]
          refine Paired.snoc (Paired.mapP p3 fun a b z => ?_) ?_
          · rw [upd_ne (ne_of z p1 (by intro y; cases y)), upd_ne (ne_of_none z hp)]
            exact z
          · rw [upd_ne npD.symm]
            exact upd_same
        · intro b o z
          rw [upd_ne (ne_of_none z hD), upd_ne (ne_of_none (p4 b o z) hp)]
          exact p4 b o z
        · rw [upd_ne nDS, upd_ne npS]
          exact p5
    rintro H4 ⟨ps, p1, p2, p3, p4, p5⟩
    have en : ((ordW l).map V.str).length = (canon l).length := by
      unfold canon
      rw [List.length_map, List.length_map]
    rw [en, List.take_length] at p3
    replace hb := hb.same p4
    replace xH := xH.trans (LamX.ExtN.of p4)
    replace tb2 := tb2.ext p4
    obtain ⟨dx2, t2, ea, ⟨qs, o, w1, w2, w3⟩⟩ := id hb
    have hcl : (canon l).length ≤ 1000000 := by
      rw [← en, List.length_map, ordW_len]
      exact hll
    have hqs := Paired.length w3
    refine ⟨_, rfl, b, _, dx2, _, _, rfl, ea, cls_Bag T, na_Bag_words T, flds_words _ _, _, _, _, _, true, rfl, .ty "tuple", .fTuple w1, kit_ty (by decide +kernel), true, rfl, iteF ?_⟩
    refine ⟨_, rfl, b, _, dx2, _, _, rfl, ea, cls_Bag T, na_Bag_words T, flds_words _ _, t2, _, rfl, .inr (.inl (.inr ⟨o, w1⟩)), fun A5 nA5 => ?_⟩
    have s5 := same_upd (o := .lst (qs.map V.ref)) nA5
    have e5 := upd_same (H := H4) (a := A5) (o := HO.lst (qs.map V.ref))
    replace p1 := s5 _ _ p1
    replace p3 := Paired.mapP p3 fun a b z => s5 _ _ z
    replace w3 := Paired.mapP w3 fun a b z => s5 _ _ z
    replace w1 := s5 _ _ w1
    replace ea := s5 _ _ ea
    replace xH := xH.trans (LamX.ExtN.of s5)
    replace tb2 := tb2.ext s5
    generalize upd H4 A5 (.lst (qs.map V.ref)) = H5 at e5 p1 p3 w3 w1 ea xH tb2 ⊢
    refine ⟨_, rfl, dLs (canon l), dLs (canon l), .lst (SqL.of e5) (dp_pairs w3), .lst (SqL.of p1) (dp_pairs p3), dLs_plain _, dLs_plain _, dLs_depth _, _, rfl, ?_⟩
    rw [dLs_eqv]
    refine iteF ?_
    -- plain pairs
    refine ⟨_, rfl, b, _, dx2, _, _, rfl, ea, cls_Bag T, na_Bag_words T, flds_words _ _, t2, rfl, ⟨_, .inl (.inr ⟨o, w1⟩)⟩, fun D2 hD2 => ?_⟩
    refine lc_it (walk_tup (xs := qs.map V.ref)) (fun i H' => H' D2 = some (.lst []) ∧ Same H5 H') ⟨upd_same, same_upd hD2⟩ (fun i H' _ hP => .inl (.inr ⟨o, hP.2 _ _ w1⟩)) ?_ ?_
    · rintro i x H6 H7 hi ⟨z1, z2⟩ ⟨rfl, e⟩
      rw [List.length_map] at hi
      have eq0 : qs[i]? = some qs[i] := List.getElem?_eq_getElem hi
      generalize qs[i] = qa at eq0
      rw [List.getElem?_map, eq0] at e
      obtain rfl : V.ref qa = x := Option.some.inj e
      obtain ⟨pr, _, eqa⟩ := paired_getL w3 eq0
      replace eqa := z2 _ _ eqa
      refine ⟨rfl, ?_⟩
      refine ⟨_, rfl, qa, _, 1, _, rfl, rfl, .inl (.inl eqa), rfl, _, _, _, _, false, rfl, .ty "bool", .base (.int _), kit_ty (by decide +kernel), false, rfl, iteF ?_⟩
      exact ⟨_, rfl, qa, _, 0, _, rfl, rfl, .inl (.inl eqa), rfl, _, _, _, _, true, rfl, .ty "str", .base (.str _), kit_ty (by decide +kernel), true, rfl, iteF ⟨z1, z2⟩⟩
    · rintro H6 ⟨z1, z2⟩
      refine ⟨D2, _, rfl, .inl (SqL.of z1), rfl, ?_⟩
      exact q H6 (xH.trans (LamX.ExtN.of z2)) (tb2.ext z2)
end
end Fp

set_option Elab.async false
set_option linter.all false
set_option maxRecDepth 100000
set_option maxHeartbeats 4000000
namespace Fp
open PySem PySem.Spec PyProof.Rows L2
/-- the bag that these beginnings make -/
def Gr (c : Int) (al : List Nat) (s t : Tb) : Prop := Lk c t ((oneM ++ scl (-1) s) ++ scl 1 (prs s (AT al)))
theorem gr_quot {c : Int} {al : List Nat} {s t : Tb} (hn : Nd t) (h : Gr c al s t) : Lk c (C1 t) (prs s (BT al)) := fun x => by
  have e := modc (h x) (tot oneM x)
  rw [tot_BT, tot_app, tot_scl, show tot oneM x + -1 * tot t x = tot oneM x - tot t x by omega, e, tot_app, tot_app, tot_scl, tot_scl]
  congr 1
  omega
theorem bt_cancel {c : Int} {al : List Nat} {q s : Tb} (ha : al.Nodup) (h : Lk c (prs q (BT al)) (prs s (BT al))) : Lk c q s := by
  have key : ∀ cs : List Nat, (tot q (W cs) - tot s (W cs)) % c = 0 := by
    refine snoc_ind ?_ fun l a ih => ?_
    · have h1 := h (W [])
      rw [tot_BT, tot_BT, W_nil, tot_AT0, tot_AT0] at h1
      have := Int.emod_eq_emod_iff_emod_sub_eq_zero.mp h1
      rw [W_nil]
      simpa using this
    · have h1 := h (W (l ++ [a]))
      rw [tot_BT, tot_BT, tot_AT q a l al ha, tot_AT s a l al ha] at h1
      have h2 := Int.emod_eq_emod_iff_emod_sub_eq_zero.mp h1
      obtain ⟨k, hk⟩ := Int.dvd_of_emod_eq_zero ih
      obtain ⟨k2, hk2⟩ := Int.dvd_of_emod_eq_zero h2
      refine Int.emod_eq_zero_of_dvd ?_
      by_cases hb : a ∈ al
      · rw [if_pos hb, if_pos hb] at hk2
        exact ⟨k2 + k, by grind⟩
      · rw [if_neg hb, if_neg hb] at hk2
        exact ⟨k2, by grind⟩
  intro x
  have := key x.cps.toList
  rw [W_cps] at this
  exact Int.emod_eq_emod_iff_emod_sub_eq_zero.mpr this
section
variable {P : Program} {w : World} {K : PySem.W.Frag} {mg : Str → Option Value} {base : Heap}
theorem sc_mult : FnScope nMult ["one", "other", "clock"] (defScope s_multiplied) := ⟨rfl, rfl, rfl, by decide +kernel, rfl, by decide +kernel, by decide +kernel⟩
theorem ok_multiplied (T : Top K mg) : Ok P w K mg base 2 "multiplied" ["one", "other", "clock"] spMult := by
  obtain ⟨fd, F⟩ := fn_multiplied T
  refine ⟨⟨fd, ?_, F.bindsN fun _ _ _ _ _ _ us hl => match us, hl with | [_, _, _], _ => rfl⟩, g_multiplied T, F.kp⟩
  refine F.ok sc_mult (fun vs H Q E h => ?_) (fun cdv A outer s H vs Q E hr h => ?_)
  · obtain ⟨d1, d2, c, m1, k1, m2, k2, l1, l2, rfl, _⟩ := h
    rfl
  · obtain ⟨d1, d2, c, m1, k1, m2, k2, l1, l2, rfl, hc, hc7, n12, h1, h2, v1, v2, hm1, hm2, hk, q⟩ := h
    have nd := sc_mult.nd
    have hu := hu_of hr
    have hs : sizeLine = 16777216 := sizeLine_eq
    have hkk : l1.length * l2.length ≤ 900000 := Nat.le_trans (Nat.mul_le_mul v1.ln v2.ln) hk
    refine ⟨_, PSs.nox (pss_cons (ps_set (i := 3) nd rfl (Or.inl rfl) pe_dnewK)
      (pss_cons (ps_lock (ps_for PassesOwn.never rfl (pi_items (pv 0)) (pg_tup rfl (pgs_cons (pg_name (i := 4) nd rfl (Or.inl rfl)) (pgs_cons (pg_name (i := 5) nd rfl (Or.inl rfl)) pgs_nil)))
        (pss_one (ps_lock (ps_for PassesOwn.never rfl (pi_items (pv 1)) (pg_tup rfl (pgs_cons (pg_name (i := 6) nd rfl (Or.inl rfl)) (pgs_cons (pg_name (i := 7) nd rfl (Or.inl rfl)) pgs_nil)))
          (pss_one (ps_dput hu (pv 3) (pe_op op_add_str (pv 4) (pv 6)) (pe_op op_add (pe_dget2 hu (pv 3) (pe_op op_add_str (pv 4) (pv 6)) pe_int ⟨rfl, rfl, rfl, rfl⟩) (pe_op op_mul (pv 5) (pv 7))) rfl)))))))
      (pss_one (ps_ret (pc (ok_tidied T) hr (pa_cons (pv 3) (pa_cons (pv 2) pa_nil))))))), ?_⟩
    refine fun F0 hF => ?_
    have n1F : d1 ≠ F0 := ne_of_none h1 hF
    have n2F : d2 ≠ F0 := ne_of_none h2 hF
    refine ⟨d1, .dK (kv l1), by rw [upd_ne n1F]; exact h1, trivial, fun od => ?_⟩
    refine ⟨_, rfl, d1, od, kv l1, rfl, upd_same, ?_⟩
    refine for_it walk_items (fun i σ H' => (∃ v u v2 u2, σ = [some (.ref d1), some (.ref d2), some (.int c), some (.ref F0), v, u, v2, u2]) ∧ H' F0 = some (.dK (kv (addT (prs (l1.take i) l2) []))) ∧ But d1 H H' ∧ H' d1 = some (.frz od (.dK (kv l1))))
      ⟨⟨none, none, none, none, rfl⟩, ?_, ?_, upd_same⟩ (fun i σ H' _ hP => hP.2.2.2) ?_ ?_
    · rw [upd_ne n1F.symm, upd_same]
      rfl
    · intro b o e n
      rw [upd_ne n, upd_ne (ne_of_none e hF)]
      exact e
    · rintro i x σ H1 H2 hi ⟨⟨v, u, v2', u2', rfl⟩, p1, p2, p3⟩ ⟨t, k, v', rfl, ht, rfl, e1, e2⟩
      obtain ⟨p, ep, rfl, rfl⟩ := kv_item e1 e2
      have hp : p ∈ l1 := List.mem_of_getElem? ep
      have hil : i < l1.length := (List.getElem?_eq_some_iff.mp ep).1
      have nFt : F0 ≠ t := ne_of_none p1 ht
      have ndt : d1 ≠ t := ne_of_none p3 ht
      have x1 : (upd H1 t (.tup [.str p.1, .int p.2])) F0 = some (.dK (kv (addT (prs (l1.take i) l2) []))) := by
        rw [upd_ne nFt]
        exact p1
      have x2 : But d1 H (upd H1 t (.tup [.str p.1, .int p.2])) := fun b o z n => by
        rw [upd_ne (ne_of_none (p2 b o z n) ht)]
        exact p2 b o z n
      have x3 : (upd H1 t (.tup [.str p.1, .int p.2])) d1 = some (.frz od (.dK (kv l1))) := by
        rw [upd_ne ndt]
        exact p3
      refine ⟨t, _, rfl, .inl (.inl upd_same), rfl, ?_⟩
      refine ⟨_, _, rfl, _, _, rfl, rfl, ?_⟩
      generalize upd H1 t (.tup [.str p.1, .int p.2]) = H1 at x1 x2 x3 ⊢
      clear p1 p2 p3 nFt ndt ht
      have hplen : (l1.take i).length = i := by rw [List.length_take]; omega
      refine ⟨d2, .dK (kv l2), x2 _ _ h2 n12.symm, trivial, fun od2 => ?_⟩
      refine ⟨_, rfl, d2, od2, kv l2, rfl, upd_same, ?_⟩
      refine for_it walk_items (fun j σ H' => (∃ v u, σ = [some (.ref d1), some (.ref d2), some (.int c), some (.ref F0), some (.str p.1), some (.int p.2), v, u]) ∧ H' F0 = some (.dK (kv (addT ((fwd p l2).take j) (addT (prs (l1.take i) l2) [])))) ∧
          (∀ b o, H b = some o → b ≠ d1 → b ≠ d2 → H' b = some o) ∧ H' d1 = some (.frz od (.dK (kv l1))) ∧ H' d2 = some (.frz od2 (.dK (kv l2))))
        ⟨⟨_, _, rfl⟩, ?_, ?_, ?_, upd_same⟩ (fun i σ H' _ hP => hP.2.2.2.2) ?_ ?_
      · rw [upd_ne n2F.symm]
        exact x1
      · intro b o z na nb
        rw [upd_ne nb]
        exact x2 b o z na
      · rw [upd_ne n12]
        exact x3
      · rintro j x σ H3 H4 hj ⟨⟨v, u, rfl⟩, r1, r2, r3, r4⟩ ⟨t2, k, v', rfl, ht2, rfl, e1, e2⟩
        obtain ⟨q0, eq0, rfl, rfl⟩ := kv_item e1 e2
        have hq : q0 ∈ l2 := List.mem_of_getElem? eq0
        have hjl : j < l2.length := (List.getElem?_eq_some_iff.mp eq0).1
        have hn1 := v1.nu p hp
        have hn2 := v2.nu q0 hq
        have hw1 := v1.wd p hp
        have hw2 := v2.wd q0 hq
        have nFt : F0 ≠ t2 := ne_of_none r1 ht2
        have y1 : (upd H3 t2 (.tup [.str q0.1, .int q0.2])) F0 = some (.dK (kv (addT ((fwd p l2).take j) (addT (prs (l1.take i) l2) [])))) := by
          rw [upd_ne nFt]
          exact r1
        have hwl : p.1.length + q0.1.length ≤ sizeLine := by have := hw1.2; have := hw2.2; omega
        refine ⟨t2, _, rfl, .inl (.inl upd_same), rfl, ?_⟩
        refine ⟨_, _, rfl, _, _, rfl, rfl, ?_⟩
        refine ⟨_, rfl, F0, rfl, .inl ⟨_, .inl y1⟩, _, rfl, _, rfl, _, _, rfl, rfl, hwl, _, DGet.k (k := Sum.inr (p.1 ++ q0.1)) y1, ?_⟩
        rw [num_eq]
        refine ⟨_, rfl, _, rfl, _, _, rfl, rfl, .inr ⟨by omega, by omega⟩, _, _, rfl, rfl, ?_⟩
        refine ⟨_, rfl, _, rfl, _, rfl, _, _, rfl, rfl, hwl, F0, _, rfl, DPut.k (k := Sum.inr (p.1 ++ q0.1)) y1 ?_, ?_⟩
        · have b1 := len_addT ((fwd p l2).take j) (addT (prs (l1.take i) l2) [])
          have b2 := len_addT (prs (l1.take i) l2) []
          rw [prs_len, hplen] at b2
          rw [List.length_take, fwd_len] at b1
          have b3 : (i + 1) * l2.length ≤ l1.length * l2.length := Nat.mul_le_mul_right _ hil
          rw [Nat.add_mul] at b3
          have b4 : ([] : Tb).length = 0 := rfl
          rw [kv_len]
          omega
        · refine ⟨⟨_, _, rfl⟩, ?_, ?_, ?_, ?_⟩
          · rw [upd_same, putK_kv, addT_take (fwd_get eq0)]
          · intro b o z na nb
            rw [upd_ne (ne_of_none z hF), upd_ne (ne_of_none (r2 b o z na nb) ht2)]
            exact r2 b o z na nb
          · rw [upd_ne n1F, upd_ne (ne_of_none r3 ht2)]
            exact r3
          · rw [upd_ne n2F, upd_ne (ne_of_none r4 ht2)]
            exact r4
      · rintro σ H3 ⟨⟨v, u, rfl⟩, r1, r2, r3, r4⟩
        rw [kv_len, List.take_of_length_le (by rw [fwd_len]; exact Nat.le_refl _)] at r1
        refine ⟨r4, ⟨_, _, _, _, rfl⟩, ?_, ?_, ?_⟩
        · rw [upd_ne n2F.symm, prs_take ep, addT_app]
          exact r1
        · intro b o z na
          by_cases nb : b = d2
          · rw [nb, upd_same, ← h2, ← nb, z]
          · rw [upd_ne nb]
            exact r2 b o z na nb
        · rw [upd_ne n12]
          exact r3
    · rintro σ H' ⟨⟨v, u, v2', u2', rfl⟩, p1, p2, p3⟩
      rw [kv_len, List.take_length] at p1
      refine ⟨p3, ?_⟩
      have base' : Same H (upd H' d1 (.dK (kv l1))) := fun b o e => by
        by_cases n : b = d1
        · rw [n, upd_same, ← h1, ← n, e]
        · rw [upd_ne n]
          exact p2 b o e n
      refine ⟨_, rfl, _, rfl, F0, c, _, rfl, hc, by rw [upd_ne n1F.symm]; exact p1, nd_addT _ _ (show Nd [] from List.nodup_nil), ?_, fun H2 D s2 nD eD => q H2 D (base'.trans s2) (base'.free nD) eD⟩
      have := len_addT (prs l1 l2) []
      rw [prs_len] at this
      have b4 : ([] : Tb).length = 0 := rfl
      omega
theorem sc_together : FnScope nTog nTog (defScope s_together) := ⟨rfl, rfl, rfl, by decide +kernel, rfl, by decide +kernel, by decide +kernel⟩
theorem ok_together (T : Top K mg) : OkX P w K mg base 8 "together" nTog (spTog K) := by
  obtain ⟨fd, F⟩ := fn_together T
  refine ⟨⟨fd, ?_, F.bindsN fun _ _ _ _ _ _ us hl => match us, hl with | [_, _], _ => rfl⟩, g_together T, F.kp⟩
  refine F.ok sc_together (fun vs H Q E h => ?_) (fun cdv A outer s H vs Q E hr h => ?_)
  · obtain ⟨a, b, c, c', m, k, m', k', l, l', rfl, _⟩ := h
    rfl
  · obtain ⟨a, b, c, c', m, k, m', k', l, l', rfl, h1, h2, hck, hm, hm', hk, q1, q2⟩ := h
    have hr1 : Room 1 _ := hr.mono (by decide)
    have hr2 : Room 2 _ := hr.mono (by decide)
    obtain ⟨hc2, hc7⟩ := ck_range hck
    have hc0 : 0 < c := by omega
    obtain ⟨dx, t, ea, wa⟩ := id h1.1
    refine ⟨_, pss_cons (ps_expr (pcX (takes_of rfl rfl rfl rfl) (ok_check_clocks T) hr1 (pa_cons (pv 0) (pa_cons (pv 1) pa_nil))))
      (pss_one (ps_ret (pc (ok_bag_of T) hr (pa_cons (pe_fld (pv 0) rfl) (pa_cons (pc (ok_added T) hr2 (pa_cons (pc (ok_table_of T) hr1 (pa_cons (pv 0) pa_nil)) (pa_cons (pc (ok_table_of T) hr1 (pa_cons (pv 1) pa_nil)) (pa_cons pe_int (pa_cons (pe_fld (pv 0) rfl) pa_nil))))) pa_nil))))), ?_⟩
    refine ⟨_, rfl, _, rfl, a, b, c, c', _, _, rfl, h1.1, h2.1, fun hcc => ?_, fun hcc => q2 hcc⟩
    subst hcc
    have v1 := vt_canon h1.2
    have v2 := vt_canon h2.2
    refine ⟨_, rfl, a, _, dx, _, _, rfl, ea, cls_Bag T, na_Bag_clock T, flds_clock _ _, ?_⟩
    refine ⟨_, rfl, a, c, canon l, rfl, h1.1, v1.nd, fun D1 hD1 => ?_⟩
    have s1 := same_upd (o := .dK (kv (canon l))) hD1
    refine ⟨_, rfl, b, c, canon l', rfl, h2.1.same s1, v2.nd, fun D2 hD2 => ?_⟩
    have s2 := same_upd (o := .dK (kv (canon l'))) hD2
    refine ⟨_, rfl, a, _, dx, _, _, rfl, s2 _ _ (s1 _ _ ea), cls_Bag T, na_Bag_clock T, flds_clock _ _, ?_⟩
    refine ⟨D1, D2, 1, c, canon l, canon l', rfl, hc0, hc7, s2 _ _ upd_same, upd_same, v1.nd, v2.nu, Nat.le_trans v1.ln (by omega), Nat.le_trans v2.ln (by omega), fun H3 D3 s3 n3 e3 => ?_⟩
    obtain ⟨w1, w2⟩ := vt_sum (f := 1) hc0 v1 v2
    obtain ⟨w3, w4⟩ := vt_again hc0 w1
    refine ⟨c, D3, _, rfl, hck, e3, w1.nd, fun p hp => Nat.le_trans (w1.wd p hp).2 (by omega), Nat.le_trans w1.ln (by omega), fun H4 r s4 n4 hb4 => ?_⟩
    have s := ((s1.trans s2).trans s3)
    refine q1 rfl H4 r _ (s.trans s4) (s.free n4) ⟨hb4, w3⟩ (w4.trans (w2.trans ?_))
    rw [scl_one]
    exact (lk_canon h1.2.nd).app (lk_canon h2.2.nd)
theorem sc_behind : FnScope nTog nTog (defScope s_behind) := ⟨rfl, rfl, rfl, by decide +kernel, rfl, by decide +kernel, by decide +kernel⟩
theorem ok_behind (T : Top K mg) : OkX P w K mg base 8 "behind" nTog (spBeh K) := by
  obtain ⟨fd, F⟩ := fn_behind T
  refine ⟨⟨fd, ?_, F.bindsN fun _ _ _ _ _ _ us hl => match us, hl with | [_, _], _ => rfl⟩, g_behind T, F.kp⟩
  refine F.ok sc_behind (fun vs H Q E h => ?_) (fun cdv A outer s H vs Q E hr h => ?_)
  · obtain ⟨a, b, c, c', m, k, m', k', l, l', rfl, _⟩ := h
    rfl
  · obtain ⟨a, b, c, c', m, k, m', k', l, l', rfl, h1, h2, hck, hm, hm', hk, q1, q2⟩ := h
    have hr1 : Room 1 _ := hr.mono (by decide)
    have hr2 : Room 2 _ := hr.mono (by decide)
    obtain ⟨hc2, hc7⟩ := ck_range hck
    have hc0 : 0 < c := by omega
    obtain ⟨dx, t, ea, wa⟩ := id h1.1
    refine ⟨_, pss_cons (ps_expr (pcX (takes_of rfl rfl rfl rfl) (ok_check_clocks T) hr1 (pa_cons (pv 0) (pa_cons (pv 1) pa_nil))))
      (pss_one (ps_ret (pc (ok_bag_of T) hr (pa_cons (pe_fld (pv 0) rfl) (pa_cons (pc (ok_multiplied T) hr2 (pa_cons (pc (ok_table_of T) hr1 (pa_cons (pv 0) pa_nil)) (pa_cons (pc (ok_table_of T) hr1 (pa_cons (pv 1) pa_nil)) (pa_cons (pe_fld (pv 0) rfl) pa_nil)))) pa_nil))))), ?_⟩
    refine ⟨_, rfl, _, rfl, a, b, c, c', _, _, rfl, h1.1, h2.1, fun hcc => ?_, fun hcc => q2 hcc⟩
    subst hcc
    have v1 := vt_canon h1.2
    have v2 := vt_canon h2.2
    refine ⟨_, rfl, a, _, dx, _, _, rfl, ea, cls_Bag T, na_Bag_clock T, flds_clock _ _, ?_⟩
    refine ⟨_, rfl, a, c, canon l, rfl, h1.1, v1.nd, fun D1 hD1 => ?_⟩
    have s1 := same_upd (o := .dK (kv (canon l))) hD1
    refine ⟨_, rfl, b, c, canon l', rfl, h2.1.same s1, v2.nd, fun D2 hD2 => ?_⟩
    have s2 := same_upd (o := .dK (kv (canon l'))) hD2
    refine ⟨_, rfl, a, _, dx, _, _, rfl, s2 _ _ (s1 _ _ ea), cls_Bag T, na_Bag_clock T, flds_clock _ _, ?_⟩
    have n12 : D1 ≠ D2 := fun e => by
      rw [← e, upd_same] at hD2
      cases hD2
    refine ⟨D1, D2, c, m, k, m', k', canon l, canon l', rfl, hc0, hc7, n12, s2 _ _ upd_same, upd_same, v1, v2, hm, hm', hk, fun H3 D3 s3 n3 e3 => ?_⟩
    obtain ⟨w1, w2⟩ := vt_mul hc0 v1 v2
    obtain ⟨w3, w4⟩ := vt_again hc0 w1
    refine ⟨c, D3, _, rfl, hck, e3, w1.nd, fun p hp => Nat.le_trans (w1.wd p hp).2 (by omega), Nat.le_trans w1.ln (by omega), fun H4 r s4 n4 hb4 => ?_⟩
    have s := ((s1.trans s2).trans s3)
    exact q1 rfl H4 r _ (s.trans s4) (s.free n4) ⟨hb4, w3⟩ (w4.trans (w2.trans (Lk.prs (lk_canon h1.2.nd) (lk_canon h2.2.nd))))
abbrev nFlg2 : List Str := ["_law_told", "_law_due"]
theorem sc_flag : FnScope nFlg2 nFlg2 (defScope s__law_flag) := ⟨rfl, rfl, rfl, by decide +kernel, rfl, by decide +kernel, by decide +kernel⟩
theorem ok_flag (T : Top K mg) : Ok P w K mg base 1 "_law_flag" nFlg2 spFlag := by
  obtain ⟨fd, F⟩ := fn__law_flag T
  refine ⟨⟨fd, ?_, F.bindsN fun _ _ _ _ _ _ us hl => match us, hl with | [_, _], _ => rfl⟩, g__law_flag T, F.kp⟩
  refine F.ok sc_flag (fun vs H Q E h => ?_) (fun cdv A outer s H vs Q E hr h => ?_)
  · obtain ⟨a, b, rfl, _⟩ := h
    rfl
  · obtain ⟨a, b, rfl, q⟩ := h
    refine ⟨_, PSs.nox (pss_one (ps_ret (pe_and (pe_callB call_isi (by rfl) (f_isinstance T) (by decide +kernel) (pa_cons (pv 0) (pa_cons (pe_bltn (v := .ty "bool") (by rfl) (f_bool T) (by decide +kernel) rfl) pa_nil)))
      (pe_one (pe_cmpR op_eq (pv 0) (pv 1) (nomark _)))))), ?_⟩
    refine ⟨_, rfl, .bl a, _, _, _, true, rfl, .ty "bool", .base (.bl a), kit_ty (by decide +kernel), true, rfl, iteT ?_⟩
    refine ⟨_, rfl, _, rfl, rfl, ?_⟩
    have e : decide (V.bl a = V.bl b) = decide (a = b) := decide_eq_decide.mpr ⟨fun z => by injection z, fun z => by rw [z]⟩
    rw [e]
    exact q
end
end Fp

set_option Elab.async false
set_option linter.all false
set_option maxRecDepth 100000
set_option maxHeartbeats 4000000
namespace Fp
open PySem PySem.Spec PyProof.Rows L2
theorem emod_dv {c x y : Int} (h : x % c = y % c) : ∃ q, x = y + c * q := by
  obtain ⟨q, e⟩ := Int.dvd_of_emod_eq_zero (Int.emod_eq_emod_iff_emod_sub_eq_zero.mp h)
  exact ⟨q, by omega⟩
theorem Bg.ext {K : PySem.W.Frag} {H H' : Hp} {b : Addr} {c : Int} {m k : Nat} {l : Tb} (h : Bg K H b c m k l) (x : LamX.ExtN H H') : Bg K H' b c m k l := ⟨h.1.ext x, h.2⟩
section
variable {P : Program} {w : World} {K : PySem.W.Frag} {mg : Str → Option Value} {base : Heap}
def spFits (K : PySem.W.Frag) : Sp := fun vs H Q _ => ∃ (c : Int) (z : Str) (d e : Addr) (m k mS kS L : Nat) (l s : Tb), vs = [.int c, .str z, .ref d, .ref e] ∧ isCk c ∧ isAl z ∧ H d = some (.dK (kv l)) ∧ H e = some (.dK (kv s)) ∧ VT c m k l ∧ m ≤ 12 ∧ k ≤ 100 ∧ OverT z.cps.toList L l ∧ L ≤ 1000 ∧ VT c mS kS s ∧ mS ≤ 1000 ∧ kS ≤ 1000 ∧ Gr c z.cps.toList s l ∧ LamX.Tabs (TT K) H ∧
  ∀ H', LamX.ExtN H H' → LamX.Tabs (TT K) H' → Q (.bl true) H'
abbrev nFits : List Str := ["_law_clock_here", "_law_alphabet", "_law_words", "_law_starts", "_law_bag", "_law_told", "_law_one", "_law_letters", "_law_letter"]
theorem sc_fits : FnScope nFits ["_law_clock_here", "_law_alphabet", "_law_words", "_law_starts"] (defScope s__law_fits) := ⟨rfl, rfl, rfl, by decide +kernel, rfl, by decide +kernel, by decide +kernel⟩
theorem ok_fits (T : Top K mg) (TB : LamX.TabB base mg (He.cT K dIs).1 (He.cT K dIs).2) : Ok P w K mg base 11 "_law_fits" ["_law_clock_here", "_law_alphabet", "_law_words", "_law_starts"] (spFits K) := by
  obtain ⟨fd, F⟩ := fn__law_fits T
  refine ⟨⟨fd, ?_, F.bindsN fun _ _ _ _ _ _ us hl => match us, hl with | [_, _, _, _], _ => rfl⟩, g__law_fits T, F.kp⟩
  refine F.ok sc_fits (fun vs H Q E h => ?_) (fun cdv A outer s0 H vs Q E hr h => ?_)
  · obtain ⟨c, z, d, e, m, k, mS, kS, L, l, s, rfl, _⟩ := h
    rfl
  · obtain ⟨c, z, d, e, m, k, mS, kS, L, l, s, rfl, hck, hz, ed, ee, v, hm, hk, ho, hL, vS, hmS, hkS, gr, tb, q⟩ := h
    have nd := sc_fits.nd
    have hu := hu_of hr
    have hs : sizeLine = 16777216 := sizeLine_eq
    have hr1 : Room 1 _ := hr.mono (by decide)
    have hr2 : Room 2 _ := hr.mono (by decide)
    have hr6 : Room 6 _ := hr.mono (by decide)
    have hr8 : Room 8 _ := hr.mono (by decide)
    have hr9 : Room 9 _ := hr.mono (by decide)
    obtain ⟨hc2, hc7⟩ := ck_range hck
    have c0 : 0 < c := by omega
    refine ⟨_, PSs.nox (pss_cons (ps_set (i := 4) nd rfl (Or.inl rfl) (pbag T hr6 (pa_cons (pv 0) (pa_cons (pv 2) pa_nil))))
      (pss_cons (ps_set (i := 5) nd rfl (Or.inl rfl) (pc (ok_beg T) hr (pa_cons (pv 1) (pa_cons (pv 4) pa_nil))))
      (pss_cons (ps_if (pt_not (pt_val (pc (ok_is T TB) hr2 (pa_cons (pv 5) (pa_cons (pv 0) (pa_cons (pv 3) pa_nil)))))) (pss_one (ps_ret pe_bl)) pss_nil)
      (pss_cons (ps_set (i := 6) nd rfl (Or.inl rfl) (pbag T hr6 (pa_cons (pv 0) (pa_cons (pe_disp (pps_cons pe_str pe_int pps_nil) (by rfl) (by rfl) (fun z => by cases z) (by decide)) pa_nil))))
      (pss_cons (ps_set (i := 7) nd rfl (Or.inl rfl) (pbag T hr6 (pa_cons (pv 0) (pa_cons (pe_callTy (call_dictP rfl) (by rfl) (f_dict T) (by decide +kernel) (pa_cons (pe_lc (own := [("_law_letter", 8)]) (g := gName 8) (tt := tYes) rfl nd (pi_str (pv 1)) (blkOk_by (N := nFits) (sc := defScope s__law_fits) (by decide +kernel)) (fun _ _ _ _ _ => pg_name (i := 8) nd rfl (Or.inl rfl)) (fun _ _ _ _ _ => pts_nil) (fun _ _ _ _ _ => by exact (pe_tup (pa_cons (pv 8) (pa_cons pe_int pa_nil))))) pa_nil)) pa_nil))))
      (pss_cons (ps_if (PW.pt (pw_or (pt_cmpR (opNe T hr2) (pcL (ok_behind T) hr8 (pa_cons (pv 5) (pa_cons (pcL (ok_less T) hr8 (pa_cons (pv 6) (pa_cons (pv 7) pa_nil))) pa_nil))) (pcL (ok_less T) hr8 (pa_cons (pv 6) (pa_cons (pv 4) pa_nil))) (nomark _)) (pw_or1 (pt_cmpR (opNe T hr2) (pc (ok_Ahead T) hr9 (pa_cons (pcL (ok_less T) hr8 (pa_cons (pv 6) (pa_cons (pv 4) pa_nil))) (pa_cons (pcL (ok_less T) hr8 (pa_cons (pv 6) (pa_cons (pv 7) pa_nil))) pa_nil))) (pv 5) (nomark _))))) (pss_one (ps_ret pe_bl)) pss_nil)
      (pss_one (ps_ret (pe_cmpR (opEq T hr1) (pcL (ok_together T) hr8 (pa_cons (pv 4) (pa_cons (pv 5) pa_nil))) (pcL (ok_together T) hr8 (pa_cons (pv 6) (pa_cons (pcL (ok_behind T) hr8 (pa_cons (pv 5) (pa_cons (pv 7) pa_nil))) pa_nil))) (nomark _)))))))))), ?_⟩
    have vU : VT c 0 1 oneM := vt_unit hc2 0
    have vA := vt_AT hc2 hz
    have hzs : z.cps.toList.length = z.length := len_list z
    refine ⟨_, rfl, _, rfl, fun b dx hb hdx ne => ?_⟩
    refine ⟨b, d, dx, c, l, rfl, upd_same, hck, made_dict ed hb hdx, v.mono hm (by omega), fun H1 k1 hB => ⟨rfl, ?_⟩⟩
    have s1 := made_same k1 hb hdx
    have gB : Bg K H1 b c m k l := ⟨hB, v⟩
    replace ee := s1 _ _ ee
    replace tb := tb.ext s1
    have xH := LamX.ExtN.of s1
    clear k1 s1 hB hb hdx ne ed
    refine ⟨_, rfl, _, rfl, b, c, z, m, k, L, l, rfl, gB, hck, hz, ho, hL, by omega, by omega, fun H2 x s2 hopt => ?_⟩
    have gq := gr_quot v.nd gr
    have hK1 : (1 + k) + (1 + k) * ((max 0 m + 1) * ((1 + 3) + 1)) ≤ 7000 := by
      have : (1 + k) * ((max 0 m + 1) * ((1 + 3) + 1)) ≤ 101 * (13 * 5) := Nat.mul_le_mul (by omega) (Nat.mul_le_mul (by omega) (by omega))
      omega
    generalize (1 + k) + (1 + k) * ((max 0 m + 1) * ((1 + 3) + 1)) = K1 at hK1 hopt
    rcases hopt with ⟨_, hno⟩ | ⟨r, qt, rfl, gR, lq⟩
    · exact absurd gq (hno s)
    replace gB := gB.same s2
    replace ee := s2 _ _ ee
    replace tb := tb.ext s2
    replace xH := xH.trans (LamX.ExtN.of s2)
    clear s2
    have lqs : Lk c qt s := bt_cancel hz.nd (lq.symm.trans gq)
    have ecq : canon qt = canon s := lk_same c0 gR.2 vS lqs
    refine ⟨_, rfl, _, rfl, _, rfl, r, _, c, s, rfl, tb, by have := gR.1; rw [ecq] at this; exact this, ee, vS.nd, fun p hp => by have := (vS.wd p hp).2; omega, by have := vS.ln; omega, fun H3 x3 tb3 => ⟨true, rfl, iteF ?_⟩⟩
    replace gB := gB.ext x3
    replace gR := gR.ext x3
    replace tb := tb3
    replace xH := xH.trans x3
    clear x3 tb3 ee
    -- one
    refine ⟨_, rfl, fun D1 nD1 => ⟨upd_same, kv oneM, rfl, Nat.le_of_ble_eq_true rfl, ?_⟩⟩
    rw [upd_upd, merge_kv vU.nd]
    have s4 := same_upd (o := .dK (kv oneM)) nD1
    have e4 := upd_same (H := H3) (a := D1) (o := HO.dK (kv oneM))
    replace gB := gB.same s4
    replace gR := gR.same s4
    replace tb := tb.ext s4
    replace xH := xH.trans (LamX.ExtN.of s4)
    generalize upd H3 D1 (.dK (kv oneM)) = H4 at e4 gB gR tb xH ⊢
    clear s4 nD1
    refine fun b5 dx5 hb5 hdx5 ne5 => ?_
    refine ⟨b5, D1, dx5, c, oneM, rfl, upd_same, hck, made_dict e4 hb5 hdx5, vU.mono (by decide) (by decide), fun H5 k5 hB5 => ⟨rfl, ?_⟩⟩
    have s5 := made_same k5 hb5 hdx5
    have gO : Bg K H5 b5 c 0 1 oneM := ⟨hB5, vU⟩
    replace gB := gB.same s5
    replace gR := gR.same s5
    replace tb := tb.ext s5
    replace xH := xH.trans (LamX.ExtN.of s5)
    clear k5 s5 hB5 hb5 hdx5 ne5 e4
    -- the letters
    refine ⟨_, rfl, _, rfl, z, rfl, fun D hD => ?_⟩
    refine lc_it walk_str (fun i H' => ∃ ps : List Addr, H' D = some (.lst (ps.map V.ref)) ∧ Paired (fun p (q : Str × Int) => H' p = some (.tup [.str q.1, .int q.2])) ps (AT (z.cps.toList.take i)) ∧ Same H5 H') ⟨[], upd_same, .nil, same_upd hD⟩ (fun _ _ _ _ => trivial) ?_ ?_
    · rintro i v H5 H6 hi ⟨ps, q1, q2, q3⟩ ⟨rfl, ch, ech, rfl⟩
      have ech' : z.cps.toList[i]? = some ch := by rw [Array.getElem?_toList]; exact ech
      have hi3 : i < 3 := by
        have := hz.len.2
        have e : z.cps.size = z.length := rfl
        omega
      refine ⟨rfl, ?_⟩
      refine ⟨_, rfl, by show 2 ≤ sizeLine; omega, fun t ht => ?_⟩
      have st := same_upd (o := .tup [.str (⟨#[ch]⟩ : Str), .int 1]) ht
      have eD7 := st _ _ q1
      have hlen := q2.length
      unfold AT at hlen
      rw [List.length_map, List.length_take] at hlen
      refine ⟨_, eD7, by rw [List.length_map]; omega, ps ++ [t], by rw [upd_same, List.map_append]; rfl, ?_, fun y o zz => ?_⟩
      · rw [AT_take ech']
        refine Paired.snoc (Paired.mapP q2 fun y q e => ?_) ?_
        · rw [upd_ne (ne_of (st _ _ e) eD7 (by intro y; cases y))]
          exact st _ _ e
        · rw [upd_ne (ne_of_none q1 ht).symm]
          exact upd_same
      · rw [upd_ne (ne_of_none zz hD)]
        exact st _ _ (q3 _ _ zz)
    rintro H6 ⟨ps, q1, q2, q3⟩
    rw [show z.cps.size = z.cps.toList.length from by rw [hzs]; rfl, List.take_length] at q2
    refine ⟨D, ps, kv (AT z.cps.toList), rfl, SqL.of q1, pairs_kv q2, fun u nu => ?_⟩
    rw [merge_kv vA.nd]
    have su := q3.trans (same_upd (o := .dK (kv (AT z.cps.toList))) nu)
    have eu : (upd H6 u (.dK (kv (AT z.cps.toList)))) u = some (.dK (kv (AT z.cps.toList))) := upd_same
    replace gB := gB.same su
    replace gR := gR.same su
    replace gO := gO.same su
    replace tb := tb.ext su
    replace xH := xH.trans (LamX.ExtN.of su)
    generalize upd H6 u (.dK (kv (AT z.cps.toList))) = H7 at eu gB gR gO tb xH ⊢
    clear su q1 q2 q3 nu hD
    refine fun b8 dx8 hb8 hdx8 ne8 => ?_
    refine ⟨b8, u, dx8, c, AT z.cps.toList, rfl, upd_same, hck, made_dict eu hb8 hdx8, vA.mono (by decide) (by decide), fun H8 k8 hB8 => ⟨rfl, ?_⟩⟩
    have s8 := made_same k8 hb8 hdx8
    have gL : Bg K H8 b8 c 1 3 (AT z.cps.toList) := ⟨hB8, vA⟩
    replace gB := gB.same s8
    replace gR := gR.same s8
    replace gO := gO.same s8
    replace tb := tb.ext s8
    replace xH := xH.trans (LamX.ExtN.of s8)
    clear k8 s8 hB8 hb8 hdx8 ne8 eu
    have hm2 : max 0 m ≤ 12 := by omega
    -- ahead of 1 less the letters
    refine ⟨_, rfl, _, rfl, _, rfl, b5, b8, c, 0, 1, 1, 3, oneM, AT z.cps.toList, rfl, gO, gL, hck, by decide, by decide, by decide, fun H9 r9 t9 s9 n9 g9 l9 => ?_⟩
    replace gB := gB.same s9
    replace gR := gR.same s9
    replace gO := gO.same s9
    replace gL := gL.same s9
    replace tb := tb.ext s9
    replace xH := xH.trans (LamX.ExtN.of s9)
    refine ⟨r, r9, c, c, max 0 m, K1, max 0 1, 1 + 3, qt, t9, rfl, gR, g9, hck, by omega, by decide, by omega, fun _ H10 r10 t10 s10 n10 g10 l10 => ?_, fun y => absurd rfl y⟩
    replace gB := gB.same s10
    replace gR := gR.same s10
    replace gO := gO.same s10
    replace gL := gL.same s10
    replace tb := tb.ext s10
    replace xH := xH.trans (LamX.ExtN.of s10)
    refine ⟨_, rfl, _, rfl, b5, b, c, 0, 1, m, k, oneM, l, rfl, gO, gB, hck, by decide, by omega, by omega, fun H11 r11 t11 s11 n11 g11 l11 => ?_⟩
    replace gB := gB.same s11
    replace gR := gR.same s11
    replace gO := gO.same s11
    replace gL := gL.same s11
    replace tb := tb.ext s11
    replace xH := xH.trans (LamX.ExtN.of s11)
    replace g10 := g10.same s11
    have lBT : Lk c t9 (BT z.cps.toList) := l9
    have lC1 : Lk c t11 (C1 l) := l11
    have h10 : Lk c t10 (prs qt (BT z.cps.toList)) := l10.trans (Lk.prs_r qt lBT)
    refine rd_ne T g10.1 g11.1 ?_
    rw [decide_eq_true (show c = c ∧ canon t10 = canon t11 from ⟨rfl, lk_same c0 g10.2 g11.2 (h10.trans (lq.symm.trans lC1.symm))⟩)]
    refine ⟨false, rfl, iteF ?_⟩
    clear s9 s10 s11 n9 n10 n11 g9 g10 g11 l9 l10 l11 lBT lC1 h10
    -- as rest_ahead tells
    refine ⟨_, rfl, _, rfl, b5, b, c, 0, 1, m, k, oneM, l, rfl, gO, gB, hck, by decide, by omega, by omega, fun H12 r12 t12 s12 n12 g12 l12 => ?_⟩
    replace gB := gB.same s12
    replace gR := gR.same s12
    replace gO := gO.same s12
    replace gL := gL.same s12
    replace tb := tb.ext s12
    replace xH := xH.trans (LamX.ExtN.of s12)
    refine ⟨_, rfl, _, rfl, b5, b8, c, 0, 1, 1, 3, oneM, AT z.cps.toList, rfl, gO, gL, hck, by decide, by decide, by decide, fun H13 r13 t13 s13 n13 g13 l13 => ?_⟩
    replace gB := gB.same s13
    replace gR := gR.same s13
    replace gO := gO.same s13
    replace gL := gL.same s13
    replace tb := tb.ext s13
    replace xH := xH.trans (LamX.ExtN.of s13)
    replace g12 := g12.same s13
    have lBT : Lk c t13 (BT z.cps.toList) := l13
    have lC1 : Lk c t12 (C1 l) := l12
    have hbd : (1 + k) + (1 + k) * ((max 0 m + 1) * ((1 + 3) + 1)) ≤ 1000000 := by
      have : (1 + k) * ((max 0 m + 1) * ((1 + 3) + 1)) ≤ 101 * (13 * 5) := Nat.mul_le_mul (by omega) (Nat.mul_le_mul (by omega) (by omega))
      omega
    have hquot : Lk c t12 (prs qt t13) := lC1.trans (lq.trans (Lk.prs_r qt lBT.symm))
    refine ⟨r12, r13, c, t12, t13, max 0 m, 1 + k, max 0 1, 1 + 3, rfl, g12, g13, hck, by omega, by decide, by decide, by omega, hbd, bt_ne (m := 0) (k := 0) hc2 hz lBT, fun H14 r14 q14 s14 n14 g14 l14 => ?_, fun H14 s14 hno => absurd hquot (hno qt)⟩
    replace gB := gB.same s14
    replace gR := gR.same s14
    replace gO := gO.same s14
    replace gL := gL.same s14
    replace tb := tb.ext s14
    replace xH := xH.trans (LamX.ExtN.of s14)
    have hqq : Lk c q14 qt := bt_cancel hz.nd (((Lk.prs_r q14 lBT).symm.trans l14.symm).trans (lC1.trans lq))
    refine ⟨_, rfl, rd_ne T g14.1 gR.1 ?_⟩
    rw [decide_eq_true (show c = c ∧ canon q14 = canon qt from ⟨rfl, lk_same c0 g14.2 gR.2 hqq⟩)]
    refine ⟨false, rfl, iteF ?_⟩
    clear s12 s13 s14 n12 n13 n14 g12 g13 g14 l12 l13 l14 lBT lC1 hquot hqq hbd
    -- together
    refine ⟨_, rfl, _, rfl, b, r, c, c, m, k, max 0 m, K1, l, qt, rfl, gB, gR, hck, by omega, by omega, by omega, fun _ H15 r15 t15 s15 n15 g15 l15 => ?_, fun y => absurd rfl y⟩
    replace gR := gR.same s15
    replace gO := gO.same s15
    replace gL := gL.same s15
    replace tb := tb.ext s15
    replace xH := xH.trans (LamX.ExtN.of s15)
    refine ⟨_, rfl, _, rfl, _, rfl, r, b8, c, c, max 0 m, K1, 1, 3, qt, AT z.cps.toList, rfl, gR, gL, hck, by omega, by decide, by omega, fun _ H16 r16 t16 s16 n16 g16 l16 => ?_, fun y => absurd rfl y⟩
    replace gO := gO.same s16
    replace tb := tb.ext s16
    replace xH := xH.trans (LamX.ExtN.of s16)
    replace g15 := g15.same s16
    refine ⟨b5, r16, c, c, 0, 1, max 0 m + 1, K1 * 3, oneM, t16, rfl, gO, g16, hck, by decide, by omega, by omega, fun _ H17 r17 t17 s17 n17 g17 l17 => ?_, fun y => absurd rfl y⟩
    replace tb := tb.ext s17
    replace xH := xH.trans (LamX.ExtN.of s17)
    replace g15 := g15.same s17
    have hlk : Lk c t15 t17 := fun x => by
      have e1 := l15 x
      have e2 := l17 x
      have e3 := l16 x
      have e4 := lq x
      rw [tot_app] at e1 e2
      rw [tot_BT, tot_C1 v.nd] at e4
      rw [e1, e2]
      obtain ⟨q3, p3⟩ := emod_dv e3
      obtain ⟨q4, p4⟩ := emod_dv e4
      rw [p3, tot_num v.nd]
      have e5 : tot oneM x = if x = "" then 1 else 0 := by
        show tot [(("" : Str), (1 : Int))] x = _
        rw [tot_cons, tot_nil, Int.add_zero]
        by_cases hx : x = ""
        · rw [if_pos hx, if_pos hx.symm]
        · rw [if_neg hx, if_neg fun y => hx y.symm]
      rw [e5]
      generalize (if x = "" then (1 : Int) else 0) = O at p4
      refine Int.emod_eq_emod_iff_emod_sub_eq_zero.mpr (Int.emod_eq_zero_of_dvd ⟨-(q3 + q4), ?_⟩)
      grind
    refine rd_eq T g15.1 g17.1 ?_
    rw [decide_eq_true (show c = c ∧ canon t15 = canon t17 from ⟨rfl, lk_same c0 g15.2 g17.2 hlk⟩)]
    exact q H17 xH tb
end
end Fp

set_option Elab.async false
set_option linter.all false
set_option maxRecDepth 100000
set_option maxHeartbeats 4000000
namespace Fp
open PySem PySem.Spec PyProof.Rows L2
theorem gr_left {c : Int} {al : List Nat} {lv : List (List Nat)} {s : Tb} (h : LeftS al lv s) : Gr c al s (LV lv) := fun x => by
  rw [h x, tot_app, tot_app, tot_scl, tot_scl]
  congr 1
  omega
theorem vt_LV {c : Int} {z : Str} {lv : List (List Nat)} (hc : 2 ≤ c) (hz : isAl z) (hp : PF lv) (ho : ∀ u ∈ lv, (∀ b ∈ u, b ∈ z.cps.toList) ∧ u.length ≤ 5) (hl : lv.length ≤ 11) : VT c 5 11 (LV lv) ∧ OverT z.cps.toList 5 (LV lv) := by
  have key : ∀ p ∈ LV lv, ∃ u ∈ lv, p = (W u, 1) := fun p hp => by
    obtain ⟨u, hu, e⟩ := List.mem_map.mp (show p ∈ lv.map fun u => (W u, (1 : Int)) from hp)
    exact ⟨u, hu, e.symm⟩
  have ov : ∀ p ∈ LV lv, (∀ b ∈ p.1.cps.toList, b ∈ z.cps.toList) ∧ p.1.length ≤ 5 := fun p hp => by
    obtain ⟨u, hu, rfl⟩ := key p hp
    obtain ⟨h1, h2⟩ := ho u hu
    refine ⟨fun b hb => h1 b ?_, by show (W u).length ≤ 5; rw [W_len]; exact h2⟩
    rw [show ((W u, (1 : Int)) : Str × Int).1.cps.toList = u from cps_W u] at hb
    exact hb
  refine ⟨⟨?_, fun p hp => ?_, fun p hp => ?_, ?_⟩, fun p hp => (ov p hp).1, fun p hp => (ov p hp).2⟩
  · show ((LV lv).map (·.1)).Nodup
    unfold LV
    rw [List.map_map]
    exact List.Pairwise.map _ (fun a b hne y => hne (W_inj y)) hp.nd
  · obtain ⟨u, hu, rfl⟩ := key p hp
    exact ⟨by show (1 : Int) ≤ 1; decide, by show (1 : Int) < c; omega⟩
  · obtain ⟨h1, h2⟩ := ov p hp
    exact ⟨fun b hb => hz.xyz b (h1 b hb), h2⟩
  · unfold LV
    rw [List.length_map]
    exact hl
theorem vt_StA {c : Int} {z : Str} {lv : List (List Nat)} {sl : Tb} (hc : 2 ≤ c) (hz : isAl z) (h : StA z.cps.toList lv sl 5) : VT c 5 5 sl ∧ OverT z.cps.toList 5 sl := by
  obtain ⟨h1, h2, h3⟩ := h
  have ov : ∀ p ∈ sl, (∀ b ∈ p.1.cps.toList, b ∈ z.cps.toList) ∧ p.1.length ≤ 5 := fun p hp => by
    obtain ⟨_, t, e, g1, g2, _⟩ := h3 p hp
    rw [e, W_len, cps_W]
    exact ⟨g1, by omega⟩
  refine ⟨⟨h1, fun p hp => ?_, fun p hp => ?_, h2⟩, fun p hp => (ov p hp).1, fun p hp => (ov p hp).2⟩
  · rw [(h3 p hp).1]
    exact ⟨by decide, by omega⟩
  · exact ⟨fun b hb => hz.xyz b ((ov p hp).1 b hb), (ov p hp).2⟩
section
variable {P : Program} {w : World} {K : PySem.W.Frag} {mg : Str → Option Value} {base : Heap}
/-- a full bag and its beginnings -/
structure FB (c : Int) (z : Str) (l s : Tb) : Prop where
  v : VT c 5 21 l
  o : OverT z.cps.toList 5 l
  vS : VT c 5 5 s
  oS : OverT z.cps.toList 5 s
  gr : Gr c z.cps.toList s l
def spMadeS : Sp := fun vs H Q _ => ∃ (h ca : Addr) (c : Int) (z : Str), vs = [.ref h, .int c, .str z] ∧ TapeAt ca H h ∧ isCk c ∧ isAl z ∧
  ∀ H' p r e l s, TapeAt ca H' h → But h H H' → H' p = some (.tup [.ref r, .ref e]) → H' r = some (.dK (kv l)) → H' e = some (.dK (kv s)) → H r = none → H e = none → FB c z l s → Q (.ref p) H'
abbrev nMadeS : List Str := ["_law_tape_here", "_law_clock_here", "_law_alphabet", "_law_starts"]
theorem sc_madeS : FnScope nMadeS ["_law_tape_here", "_law_clock_here", "_law_alphabet"] (defScope s__law_made) := ⟨rfl, rfl, rfl, by decide +kernel, rfl, by decide +kernel, by decide +kernel⟩
theorem ok_madeS (T : Top K mg) : Ok P w K mg base 5 "_law_made" ["_law_tape_here", "_law_clock_here", "_law_alphabet"] spMadeS := by
  obtain ⟨fd, F⟩ := fn__law_made T
  refine ⟨⟨fd, ?_, F.bindsN fun _ _ _ _ _ _ us hl => match us, hl with | [_, _, _], _ => rfl⟩, g__law_made T, F.kp⟩
  refine F.ok sc_madeS (fun vs H Q E h => ?_) (fun cdv A outer s0 H vs Q E hr h => ?_)
  · obtain ⟨h, ca, c, z, rfl, _⟩ := h
    rfl
  · obtain ⟨h, ca, c, z, rfl, hh, hck, hz, q⟩ := h
    have nd := sc_madeS.nd
    have hs : sizeLine = 16777216 := sizeLine_eq
    have hr1 : Room 1 _ := hr.mono (by decide)
    have hr2 : Room 2 _ := hr.mono (by decide)
    have hr3 : Room 3 _ := hr.mono (by decide)
    obtain ⟨hc2, hc7⟩ := ck_range hck
    refine ⟨_, PSs.nox (pss_cons (ps_if (pt_cmpR op_eq (pc (ok_tdraw T) hr1 (pa_cons (pv 0) (pa_cons pe_int pa_nil))) pe_int (nomark _)) (pss_one (ps_ret (pc (ok_code T) hr2 (pa_cons (pv 0) (pa_cons (pv 2) (pa_cons pe_int pa_nil)))))) pss_nil)
      (pss_cons (ps_set (i := 3) nd rfl (Or.inl rfl) (pc (ok_tsome T) hr (pa_cons (pv 0) (pa_cons (pv 1) (pa_cons (pv 2) (pa_cons (pe_op op_sub pe_int (pe_callB call_len_str (by rfl) (f_len T) PySem.boot_len (pa_cons (pv 2) pa_nil))) (pa_cons pe_int pa_nil)))))))
      (pss_one (ps_ret (pe_tup (pa_cons (pc (ok_grown T) hr3 (pa_cons (pv 1) (pa_cons (pv 2) (pa_cons (pv 3) pa_nil)))) (pa_cons (pv 3) pa_nil))))))), ?_⟩
    obtain ⟨hz1, hz3⟩ := hz.len
    have hz2 : 2 ≤ z.length := by rcases hz with rfl | rfl <;> decide
    refine ⟨_, rfl, h, ca, 3, rfl, by decide, by decide, hh, fun r H1 z1 z2 hh1 k1 => ⟨rfl, _, rfl, ?_⟩⟩
    have back : ∀ {J : Hp} {a : Addr}, TapeAt ca J h → But h H J → J a = none → H a = none := fun {J a} hj k n => by
      cases e : H a with
      | none => rfl
      | some o =>
        have := k a o e (hj.fresh n).1
        rw [n] at this
        cases this
    refine ite2 (fun _ => ?_) (fun _ => ?_)
    · refine ⟨_, rfl, _, rfl, h, ca, z, rfl, hh1, hz, fun H2 p d d' lv sl hh2 k2 e2 e3 e4 n3 n4 hp hl hst ho hn => ?_⟩
      obtain ⟨v, o⟩ := vt_LV hc2 hz hp ho hn
      obtain ⟨vS, oS⟩ := vt_StA hc2 hz hst
      exact q H2 p d d' (LV lv) sl hh2 (k1.trans k2) e2 e3 e4 (back hh1 k1 n3) (back hh1 k1 n4) ⟨v.mono (by decide) (by decide), o, vS, oS, gr_left hl⟩
    · refine ⟨_, rfl, _, rfl, _, rfl, _, rfl, z, rfl, by omega, _, _, rfl, rfl, ?_⟩
      refine ⟨h, ca, c, z, 6 - z.length, 5, by show [V.ref h, V.int c, V.str z, V.int (6 - (z.length : Int)), V.int 5] = _; rw [show (6 : Int) - (z.length : Int) = ((6 - z.length : Nat) : Int) by omega]; rfl, hh1, hc2, hc7, hz.xyz, hz1, by omega, by omega, by decide, fun H2 d l hh2 k2 n2 e2 v2 o2 => ?_⟩
      refine ⟨_, rfl, _, rfl, _, rfl, c, z, d, 6 - z.length, 5, 6 - z.length, l, rfl, hck, hz, e2, v2, o2, by omega, by decide, fun H3 r3 t s3 n3 e3 v3 o3 q3 => ?_⟩
      refine ⟨_, rfl, by show 2 ≤ sizeLine; omega, fun p np => ?_⟩
      have sp := same_upd (o := .tup [.ref r3, .ref d]) np
      have hh3 := (hh2.same s3).same sp
      have kk := ((k1.trans k2).trans (But.of s3)).trans (But.of sp)
      refine q _ p r3 d t l hh3 kk upd_same (sp _ _ e3) (sp _ _ (s3 _ _ e2)) (back hh2 (k1.trans k2) n3) (back hh1 k1 n2) ⟨v3.mono (by omega) (by decide), o3.mono (by omega), v2.mono (by omega) (by decide), o2.mono (by omega), q3⟩
end
end Fp

set_option Elab.async false
set_option linter.all false
set_option maxRecDepth 100000
set_option maxHeartbeats 4000000
namespace Fp
open PySem PySem.Spec PyProof.Rows L2
theorem vt_sing {c n : Int} {x : Str} (hx : xyz x) (h1 : 1 ≤ n) (h2 : n < c) : VT c x.length 1 [(x, n)] := ⟨by show [x].Nodup; simp, fun q hq => by
  obtain rfl : q = (x, n) := by simpa using hq
  exact ⟨h1, h2⟩, fun q hq => by
  obtain rfl : q = (x, n) := by simpa using hq
  exact ⟨hx, Nat.le_refl _⟩, Nat.le_refl 1⟩
section
variable {P : Program} {w : World} {K : PySem.W.Frag} {mg : Str → Option Value} {base : Heap}
def spSetIn : Sp := fun vs H Q _ => ∃ (c n : Int) (d e : Addr) (x : Str) (m k m2 k2 : Nat) (l l2 : Tb), vs = [.int c, .ref d, .str x, .int n, .ref e] ∧ isCk c ∧ H d = some (.dK (kv l)) ∧ H e = some (.dK (kv l2)) ∧ VT c m k l ∧ VT c m2 k2 l2 ∧ xyz x ∧ x.length ≤ 3 ∧ 1 ≤ n ∧ n < c ∧ m ≤ 20 ∧ m2 ≤ 20 ∧ k ≤ 300 ∧ k2 ≤ 300 ∧
  ∀ H' r t, Same H H' → H r = none → H' r = some (.dK (kv t)) → VT c (max (max m 3) (3 + m2)) (k + 1 + k2) t → Lk c t ((l ++ scl (-1) [(x, n)]) ++ scl 1 (prs [(x, n)] l2)) → Q (.ref r) H'
abbrev nSetIn : List Str := ["_law_clock_here", "_law_words", "_law_word_here", "_law_number", "_law_other", "_law_found"]
theorem sc_setIn : FnScope nSetIn ["_law_clock_here", "_law_words", "_law_word_here", "_law_number", "_law_other"] (defScope s__law_set_in) := ⟨rfl, rfl, rfl, by decide +kernel, rfl, by decide +kernel, by decide +kernel⟩
theorem ok_setIn (T : Top K mg) : Ok P w K mg base 3 "_law_set_in" ["_law_clock_here", "_law_words", "_law_word_here", "_law_number", "_law_other"] spSetIn := by
  obtain ⟨fd, F⟩ := fn__law_set_in T
  refine ⟨⟨fd, ?_, F.bindsN fun _ _ _ _ _ _ us hl => match us, hl with | [_, _, _, _, _], _ => rfl⟩, g__law_set_in T, F.kp⟩
  refine F.ok sc_setIn (fun vs H Q E h => ?_) (fun cdv A outer s0 H vs Q E hr h => ?_)
  · obtain ⟨c, n, d, e, x, m, k, m2, k2, l, l2, rfl, _⟩ := h
    rfl
  · obtain ⟨c, n, d, e, x, m, k, m2, k2, l, l2, rfl, hck, ed, ee, v, v2, hx, hxl, hn1, hn2, hm, hm2, hk, hk2, q⟩ := h
    have nd := sc_setIn.nd
    have hs : sizeLine = 16777216 := sizeLine_eq
    obtain ⟨hc2, hc7⟩ := ck_range hck
    have c0 : 0 < c := by omega
    have vx : VT c 3 1 [(x, n)] := (vt_sing hx hn1 hn2).mono hxl (Nat.le_refl 1)
    refine ⟨_, PSs.nox (pss_cons (ps_set (i := 5) nd rfl (Or.inl rfl) (pc (ok_ladd T) hr (pa_cons (pv 0) (pa_cons (pv 1) (pa_cons (pe_disp (pps_cons (pv 2) (pv 3) pps_nil) (by rfl) (by rfl) (fun z => by cases z) (by decide)) (pa_cons (pe_un un_neg pe_int) pa_nil))))))
      (pss_one (ps_ret (pc (ok_ladd T) hr (pa_cons (pv 0) (pa_cons (pv 5) (pa_cons (pc (ok_lprod T) hr (pa_cons (pv 0) (pa_cons (pe_disp (pps_cons (pv 2) (pv 3) pps_nil) (by rfl) (by rfl) (fun z => by cases z) (by decide)) (pa_cons (pv 4) pa_nil)))) (pa_cons pe_int pa_nil)))))))), ?_⟩
    refine ⟨_, rfl, _, rfl, fun p np => ⟨_, rfl, _, rfl, upd_same, kv [(x, n)], rfl, Nat.le_of_ble_eq_true rfl, ?_⟩⟩
    rw [upd_upd, merge_kv vx.nd]
    have s1 := same_upd (o := .dK (kv [(x, n)])) np
    refine ⟨_, rfl, d, p, -1, c, m, k, 3, 1, l, [(x, n)], rfl, c0, hc7, s1 _ _ ed, upd_same, v, vx, by omega, fun H2 D2 t2 s2 n2 e2 v2' k2' => ?_⟩
    have s12 := s1.trans s2
    refine ⟨_, rfl, _, rfl, _, rfl, fun p2 np2 => ⟨_, rfl, _, rfl, upd_same, kv [(x, n)], rfl, Nat.le_of_ble_eq_true rfl, ?_⟩⟩
    rw [upd_upd, merge_kv vx.nd]
    have s3 := same_upd (o := .dK (kv [(x, n)])) np2
    have ne2 : p2 ≠ e := (ne_of_none (s12 _ _ ee) np2).symm
    refine ⟨_, rfl, p2, e, c, 3, 1, m2, k2, [(x, n)], l2, rfl, c0, hc7, ne2, upd_same, s3 _ _ (s12 _ _ ee), vx, v2, by decide, by omega, by omega, fun H4 D4 t4 s4 n4 e4 v4 k4 => ?_⟩
    refine ⟨D2, D4, 1, c, max m 3, k + 1, 3 + m2, 1 * k2, t2, t4, rfl, c0, hc7, s4 _ _ (s3 _ _ e2), e4, v2', v4, by omega, fun H5 r t s5 n5 e5 v5 k5 => ?_⟩
    have sall := ((s12.trans s3).trans s4).trans s5
    refine q H5 r t sall (((s12.trans s3).trans s4).free n5) e5 (v5.mono (Nat.le_refl _) (by omega)) ?_
    exact k5.trans (Lk.app k2' (Lk.scl 1 k4))
end
end Fp

set_option Elab.async false
set_option linter.all false
set_option maxRecDepth 100000
set_option maxHeartbeats 4000000
namespace Fp
open PySem PySem.Spec PyProof.Rows L2
def rowA (al : List Nat) (w : Nat) (u : List Nat) : Tb := (al.filter fun a => decide (a ≠ w)).map fun a => (W (u ++ [a]), (1 : Int))
def lwT (al ws : List Nat) (k : Nat) : Tb := (List.range k).flatMap fun i => rowA al (ws.getD i 0) (ws.take i)
def slT (ws : List Nat) (k : Nat) : Tb := (List.range k).map fun i => (W (ws.take i), (1 : Int))
theorem lwT_succ (al ws : List Nat) (k : Nat) : lwT al ws (k + 1) = lwT al ws k ++ rowA al (ws.getD k 0) (ws.take k) := by
  unfold lwT
  rw [List.range_succ, List.flatMap_append]
  simp
theorem slT_succ (ws : List Nat) (k : Nat) : slT ws (k + 1) = slT ws k ++ [(W (ws.take k), 1)] := by
  unfold slT
  rw [List.range_succ, List.map_append]
  rfl
theorem tot_split (u : List Nat) (w : Nat) (x : Str) : ∀ al : List Nat, al.Nodup → w ∈ al → tot (al.map fun a => (W (u ++ [a]), (1 : Int))) x = tot (rowA al w u) x + (if W (u ++ [w]) = x then 1 else 0) := by
  have no : ∀ al : List Nat, w ∉ al → tot (al.map fun a => (W (u ++ [a]), (1 : Int))) x = tot (rowA al w u) x := fun al h => by
    unfold rowA
    rw [List.filter_eq_self.mpr fun a ha => by
      refine decide_eq_true fun z => h (z ▸ ha)]
  intro al
  induction al with
  | nil => intro _ h; cases h
  | cons a r ih =>
    intro hn hw
    obtain ⟨h1, h2⟩ := List.nodup_cons.mp hn
    rw [List.map_cons, tot_cons]
    by_cases e : a = w
    · subst e
      rw [no r h1]
      unfold rowA
      rw [List.filter_cons_of_neg (by simp)]
      show (if W (u ++ [a]) = x then (1 : Int) else 0) + _ = _
      rw [Int.add_comm]
    · have hw' : w ∈ r := by
        rcases List.mem_cons.mp hw with z | z
        · exact absurd z.symm e
        · exact z
      rw [ih h2 hw']
      unfold rowA
      rw [List.filter_cons_of_pos (by simpa using e), List.map_cons, tot_cons]
      show (if W (u ++ [a]) = x then (1 : Int) else 0) + _ = (if W (u ++ [a]) = x then (1 : Int) else 0) + _ + _
      rw [Int.add_assoc]
theorem along_tot {al ws : List Nat} (hn : al.Nodup) (hw : ∀ b ∈ ws, b ∈ al) : ∀ k, k ≤ ws.length → ∀ x, tot (lwT al ws k) x + (if W (ws.take k) = x then 1 else 0) = tot oneM x - tot (slT ws k) x + tot (prs (slT ws k) (AT al)) x
  | 0, _, x => by
    show tot [] x + (if W [] = x then (1 : Int) else 0) = tot oneM x - tot [] x + tot [] x
    rw [tot_nil]
    have : tot oneM x = if W [] = x then (1 : Int) else 0 := by
      show tot [(("" : Str), (1 : Int))] x = _
      rw [tot_cons, tot_nil, Int.add_zero]
      rfl
    rw [this]
    omega
  | k + 1, hk, x => by
    have ih := along_tot hn hw k (by omega) x
    have ek : ws[k]? = some ws[k] := List.getElem?_eq_getElem (by omega)
    have eg : ws.getD k 0 = ws[k] := by rw [List.getD_eq_getElem?_getD, ek]; rfl
    have et : ws.take (k + 1) = ws.take k ++ [ws[k]] := by rw [List.take_add_one, ek]; rfl
    have hs := tot_split (ws.take k) ws[k] x al hn (hw _ (List.getElem_mem _))
    have em : (AT al).map (fun q => (W (ws.take k) ++ q.1, 1 * q.2)) = al.map fun a => (W (ws.take k ++ [a]), (1 : Int)) := by
      unfold AT
      rw [List.map_map]
      refine List.map_congr_left fun a _ => ?_
      show ((W (ws.take k) ++ W [a], 1 * 1) : Str × Int) = _
      rw [W_app]
      rfl
    rw [lwT_succ, slT_succ, tot_app, tot_app, prs_snoc, et, eg]
    show _ + tot (rowA al ws[k] (ws.take k)) x + _ = _ - (_ + tot [(W (ws.take k), (1 : Int))] x) + (tot ((AT al).map fun q => (W (ws.take k) ++ q.1, 1 * q.2)) x + _)
    have e1 : tot [(W (ws.take k), (1 : Int))] x = if W (ws.take k) = x then (1 : Int) else 0 := by rw [tot_cons, tot_nil, Int.add_zero]
    rw [em, hs, e1]
    generalize (if W (ws.take k) = x then (1 : Int) else 0) = A at *
    generalize (if W (ws.take k ++ [ws[k]]) = x then (1 : Int) else 0) = B at *
    omega
theorem gr_along {c : Int} {al ws : List Nat} (hn : al.Nodup) (hw : ∀ b ∈ ws, b ∈ al) : Gr c al (slT ws ws.length) ((W ws, 1) :: lwT al ws ws.length) := fun x => by
  have h := along_tot hn hw ws.length (Nat.le_refl _) x
  rw [List.take_length] at h
  rw [tot_cons, tot_app, tot_app, tot_scl, tot_scl]
  show ((if W ws = x then (1 : Int) else 0) + _) % c = _
  congr 1
  omega
/-- where the keys come from -/
theorem lwT_key {al ws : List Nat} {k : Nat} {p : Str × Int} (hp : p ∈ lwT al ws k) : ∃ i a, i < k ∧ a ∈ al ∧ a ≠ ws.getD i 0 ∧ p = (W (ws.take i ++ [a]), 1) := by
  obtain ⟨i, hi, h⟩ := List.mem_flatMap.mp hp
  obtain ⟨a, ha, rfl⟩ := List.mem_map.mp h
  obtain ⟨h1, h2⟩ := List.mem_filter.mp ha
  exact ⟨i, a, List.mem_range.mp hi, h1, of_decide_eq_true h2, rfl⟩
theorem key_new {al ws : List Nat} {k a : Nat} (hk : k < ws.length) (ha : a ≠ ws.getD k 0) {al' : List Nat} (hal : a ∉ al') : has ((W ws, 1) :: lwT al ws k ++ rowA al' (ws.getD k 0) (ws.take k)) (W (ws.take k ++ [a])) = false := by
  refine Bool.eq_false_iff.mpr fun z => ?_
  obtain ⟨p, hp, e⟩ := List.mem_map.mp (has_iff.mp z)
  have lt : ∀ j, j ≤ ws.length → (ws.take j).length = j := fun j hj => by rw [List.length_take]; omega
  rcases List.mem_append.mp hp with hp | hp
  · rcases List.mem_cons.mp hp with rfl | hp
    · have e2 : ws = ws.take k ++ [a] := W_inj e
      have : ws.getD k 0 = a := by
        rw [List.getD_eq_getElem?_getD]
        conv => lhs; rw [e2]
        rw [List.getElem?_append_right (by rw [lt k (by omega)]; exact Nat.le_refl _), lt k (by omega), Nat.sub_self]
        rfl
      exact ha this.symm
    · obtain ⟨i, b, hi, _, _, rfl⟩ := lwT_key hp
      have := congrArg List.length (W_inj e)
      rw [List.length_append, List.length_append, lt i (by omega), lt k (by omega)] at this
      simp at this
      omega
  · obtain ⟨b, hb, rfl⟩ := List.mem_map.mp hp
    have e2 := List.append_cancel_left (W_inj e)
    have : b = a := by simpa using e2
    subst this
    exact hal (List.mem_filter.mp hb).1
theorem sl_new {ws : List Nat} {k : Nat} (hk : k ≤ ws.length) : has (slT ws k) (W (ws.take k)) = false := by
  refine Bool.eq_false_iff.mpr fun z => ?_
  obtain ⟨p, hp, e⟩ := List.mem_map.mp (has_iff.mp z)
  obtain ⟨i, hi, rfl⟩ := List.mem_map.mp hp
  have := congrArg List.length (W_inj e)
  have hi := List.mem_range.mp hi
  rw [List.length_take, List.length_take] at this
  omega
theorem nd_putT {l : Tb} {x : Str} {n : Int} (h : Nd l) (hn : has l x = false) : Nd (l ++ [(x, n)]) := by
  show ((l ++ [(x, n)]).map (·.1)).Nodup
  rw [List.map_append, List.nodup_append]
  refine ⟨h, by simp, fun a ha b hb z => ?_⟩
  have : b = x := by simpa using hb
  rw [this] at z
  rw [z] at ha
  rw [has_iff.mpr ha] at hn
  cases hn
theorem nd_sl (ws : List Nat) : ∀ k, k ≤ ws.length → Nd (slT ws k)
  | 0, _ => List.nodup_nil
  | k + 1, h => by
    rw [slT_succ]
    exact nd_putT (nd_sl ws k (by omega)) (sl_new (by omega))
end Fp

set_option Elab.async false
set_option linter.all false
set_option maxRecDepth 100000
set_option maxHeartbeats 4000000
namespace Fp
open PySem PySem.Spec PyProof.Rows L2
theorem rowA_len (al : List Nat) (w : Nat) (u : List Nat) : (rowA al w u).length ≤ al.length := by
  unfold rowA
  rw [List.length_map]
  exact List.length_filter_le _ _
theorem lwT_len (al ws : List Nat) : ∀ k, (lwT al ws k).length ≤ k * al.length
  | 0 => by simp [lwT]
  | k + 1 => by
    rw [lwT_succ, List.length_append, Nat.succ_mul]
    have := lwT_len al ws k
    have := rowA_len al (ws.getD k 0) (ws.take k)
    omega
theorem rowA_snoc (al : List Nat) (w : Nat) (u : List Nat) (a : Nat) : rowA (al ++ [a]) w u = if a = w then rowA al w u else rowA al w u ++ [(W (u ++ [a]), 1)] := by
  unfold rowA
  rw [List.filter_append]
  by_cases h : a = w
  · rw [if_pos h, List.filter_cons_of_neg (by simpa using h)]
    simp
  · rw [if_neg h, List.filter_cons_of_pos (by simpa using h), List.map_append]
    simp
theorem cutW {ws : List Nat} {k : Nat} (h : k ≤ ws.length) : cutS (W ws) none (some (k : Int)) = W (ws.take k) := PySem.W.str_of_cps (by rw [cut_front_list (by rw [W_len]; exact h), cps_W, cps_W])
def Along (z : Str) (l s : Tb) : Prop := ∃ ws : List Nat, (∀ b ∈ ws, b ∈ z.cps.toList) ∧ ws.length ≤ 12 ∧ Nd l ∧ l = (W ws, 1) :: lwT z.cps.toList ws ws.length ∧ s = slT ws ws.length
theorem Along.facts {c : Int} {z : Str} {l s : Tb} (hc : 2 ≤ c) (hz : isAl z) (h : Along z l s) : VT c 12 40 l ∧ OverT z.cps.toList 12 l ∧ VT c 12 12 s ∧ Gr c z.cps.toList s l := by
  obtain ⟨ws, hw, hn, hnd, rfl, rfl⟩ := h
  have hzs : z.cps.toList.length = z.length := len_list z
  have hz3 := hz.len.2
  have key : ∀ p ∈ (W ws, (1 : Int)) :: lwT z.cps.toList ws ws.length, p.2 = 1 ∧ (∀ b ∈ p.1.cps.toList, b ∈ z.cps.toList) ∧ p.1.length ≤ 12 := fun p hp => by
    rcases List.mem_cons.mp hp with rfl | hp
    · exact ⟨rfl, by rw [cps_W]; exact hw, by rw [W_len]; exact hn⟩
    · obtain ⟨i, a, hi, ha, _, rfl⟩ := lwT_key hp
      refine ⟨rfl, fun b hb => ?_, ?_⟩
      · rw [cps_W] at hb
        rcases List.mem_append.mp hb with hb | hb
        · exact hw b (List.mem_of_mem_take hb)
        · have : b = a := by simpa using hb
          rw [this]; exact ha
      · rw [W_len, List.length_append, List.length_take]
        show _ + 1 ≤ 12
        omega
  have keyS : ∀ p ∈ slT ws ws.length, p.2 = 1 ∧ (∀ b ∈ p.1.cps.toList, b ∈ z.cps.toList) ∧ p.1.length ≤ 12 := fun p hp => by
    obtain ⟨i, _, rfl⟩ := List.mem_map.mp hp
    exact ⟨rfl, by rw [cps_W]; exact fun b hb => hw b (List.mem_of_mem_take hb), by rw [W_len, List.length_take]; omega⟩
  refine ⟨⟨hnd, fun p hp => by rw [(key p hp).1]; exact ⟨by decide, by omega⟩, fun p hp => ⟨fun b hb => hz.xyz b ((key p hp).2.1 b hb), (key p hp).2.2⟩, ?_⟩, ⟨fun p hp => (key p hp).2.1, fun p hp => (key p hp).2.2⟩, ⟨nd_sl ws _ (Nat.le_refl _), fun p hp => by rw [(keyS p hp).1]; exact ⟨by decide, by omega⟩, fun p hp => ⟨fun b hb => hz.xyz b ((keyS p hp).2.1 b hb), (keyS p hp).2.2⟩, ?_⟩, gr_along hz.nd hw⟩
  · have h1 := lwT_len z.cps.toList ws ws.length
    have h2 : ws.length * z.cps.toList.length ≤ 12 * 3 := Nat.mul_le_mul hn (by omega)
    rw [List.length_cons]
    omega
  · unfold slT
    rw [List.length_map, List.length_range]
    exact hn
section
variable {P : Program} {w : World} {K : PySem.W.Frag} {mg : Str → Option Value} {base : Heap}
def spAlong : Sp := fun vs H Q _ => ∃ (h ca : Addr) (z : Str), vs = [.ref h, .str z] ∧ TapeAt ca H h ∧ isAl z ∧
  ∀ H' p r e l s, TapeAt ca H' h → But h H H' → H' p = some (.tup [.ref r, .ref e]) → H' r = some (.dK (kv l)) → H' e = some (.dK (kv s)) → Along z l s → Q (.ref p) H'
abbrev nAlong : List Str := ["_law_tape_here", "_law_alphabet", "_law_k", "_law_whole", "_law_words", "_law_starts", "_law_letter"]
theorem sc_along : FnScope nAlong ["_law_tape_here", "_law_alphabet"] (defScope s__law_along) := ⟨rfl, rfl, rfl, by decide +kernel, rfl, by decide +kernel, by decide +kernel⟩
theorem ok_along (T : Top K mg) : Ok P w K mg base 2 "_law_along" ["_law_tape_here", "_law_alphabet"] spAlong := by
  obtain ⟨fd, F⟩ := fn__law_along T
  refine ⟨⟨fd, ?_, F.bindsN fun _ _ _ _ _ _ us hl => match us, hl with | [_, _], _ => rfl⟩, g__law_along T, F.kp⟩
  refine F.ok sc_along (fun vs H Q E h => ?_) (fun cdv A outer s0 H vs Q E hr h => ?_)
  · obtain ⟨h, ca, z, rfl, _⟩ := h
    rfl
  · obtain ⟨h, ca, z, rfl, hh, hz, q⟩ := h
    have nd := sc_along.nd
    have hu := hu_of hr
    have hs : sizeLine = 16777216 := sizeLine_eq
    obtain ⟨hz1, hz3⟩ := hz.len
    have hzs : z.cps.toList.length = z.length := len_list z
    refine ⟨_, PSs.nox (pss_cons (ps_set (i := 3) nd rfl (Or.inl rfl) (pe_join pe_str (pe_lc (own := [("_law_k", 2)]) (g := gName 2) (tt := tYes) rfl nd (pi_range1 (by rfl) (f_range T) (pa_cons (pe_op op_add pe_int (pc (ok_tdraw T) hr (pa_cons (pv 0) (pa_cons pe_int pa_nil)))) pa_nil))
        (blkOk_by (N := nAlong) (sc := defScope s__law_along) (by decide +kernel)) (fun _ _ _ _ _ => pg_name (i := 2) nd rfl (Or.inl rfl)) (fun _ _ _ _ _ => pts_nil)
        (fun _ _ _ _ _ => pe_item_str (pv 1) (pc (ok_tdraw T) hr (pa_cons (pv 0) (pa_cons (pe_callB call_len_str (by rfl) (f_len T) PySem.boot_len (pa_cons (pv 1) pa_nil)) pa_nil))) (fun _ _ => rfl)))))
      (pss_cons (ps_set (i := 4) nd rfl (Or.inl rfl) (pe_disp (pps_cons (pv 3) pe_int pps_nil) (by rfl) (by rfl) (fun z => by cases z) (by decide)))
      (pss_cons (ps_set (i := 5) nd rfl (Or.inl rfl) pe_dnewK)
      (pss_cons (ps_for PassesOwn.never rfl (pi_range1 (by rfl) (f_range T) (pa_cons (pe_callB call_len_str (by rfl) (f_len T) PySem.boot_len (pa_cons (pv 3) pa_nil)) pa_nil)) (pg_name (i := 2) nd rfl (Or.inl rfl))
        (pss_cons (ps_dput hu (pv 5) (pe_slice sl_str (pv 3) po_none (po_some (pv 2))) pe_int rfl)
        (pss_one (ps_for PassesOwn.never rfl (pi_str (pv 1)) (pg_name (i := 6) nd rfl (Or.inl rfl))
          (pss_one (ps_if (pt_cmpR op_ne (pv 6) (pe_item_str (pv 3) (pv 2) (fun _ _ => rfl)) (nomark _)) (pss_one (ps_dput hu (pv 4) (pe_op op_add_str (pe_slice sl_str (pv 3) po_none (po_some (pv 2))) (pv 6)) pe_int rfl)) pss_nil))))))
      (pss_one (ps_ret (pe_tup (pa_cons (pv 4) (pa_cons (pv 5) pa_nil))))))))), ?_⟩
    refine ⟨⟨_, rfl⟩, ?_⟩
    refine ⟨_, rfl, h, ca, 7, rfl, by decide, by decide, hh, fun r1 H1 hr0 hr2 hh1 k1 => ?_⟩
    refine ⟨_, _, rfl, rfl, 6 + r1, rfl, by omega, by omega, fun D hD => ?_⟩
    obtain ⟨nDh, nDc⟩ := hh1.fresh hD
    refine lc_it walk_range (fun i H' => (∃ ys : List Str, H' D = some (.lst (ys.map V.str)) ∧ ys.length = i ∧ ∀ y ∈ ys, ∃ c, y = ⟨#[c]⟩ ∧ c ∈ z.cps.toList) ∧ TapeAt ca H' h ∧ But h H1 H')
      ⟨⟨[], upd_same, rfl, fun y hy => (by cases hy)⟩, hh1.same (same_upd hD), But.of (same_upd hD)⟩ (fun _ _ _ _ => trivial) ?_ ?_
    · rintro i x H2 H3 hi ⟨⟨ys, p1, p2, p3⟩, p4, p5⟩ ⟨rfl, rfl⟩
      refine ⟨rfl, ?_⟩
      refine ⟨_, rfl, _, rfl, _, rfl, z, rfl, by omega, h, ca, (z.length : Int), rfl, by omega, by omega, p4, fun r2 H4 hr3 hr4 hh4 k4 => ?_⟩
      obtain ⟨n, rfl⟩ : ∃ n : Nat, r2 = n := ⟨r2.toNat, (Int.toNat_of_nonneg hr3).symm⟩
      have hn : n < z.cps.size := by
        have : z.length = z.cps.size := rfl
        omega
      refine ⟨z, _, z.cps[n], rfl, rfl, by omega, by omega, hr4, ?_, ?_⟩
      · rw [Int.toNat_natCast, Array.getElem?_eq_getElem hn]
      · refine ⟨_, k4 _ _ p1 nDh, ?_, ⟨ys ++ [⟨#[z.cps[n]]⟩], ?_, ?_, ?_⟩, ?_, ?_⟩
        · rw [List.length_map]
          have : i < 13 := by omega
          omega
        · rw [upd_same, List.map_append]
          rfl
        · rw [List.length_append, p2]
          rfl
        · intro y hy
          rcases List.mem_append.mp hy with hy | hy
          · exact p3 y hy
          · have : y = ⟨#[z.cps[n]]⟩ := by simpa using hy
            exact ⟨_, this, by simp⟩
        · exact hh4.off (d := D) but_upd nDh.symm nDc.symm
        · intro b o z' n'
          have nb : b ≠ D := ne_of_none z' hD
          rw [upd_ne nb]
          exact k4 b o (p5 b o z' n') n'
    rintro H2 ⟨⟨ys, p1, p2, p3⟩, p4, p5⟩
    obtain ⟨j1, j2⟩ := join_over z ys p3
    refine ⟨_, D, ys, rfl, rfl, .inl (.inl (.inl p1)), ?_, ?_⟩
    · have e : (ys.map (·.length)).sum = ys.length := by
        clear p1 p2 j1 j2
        induction ys with
        | nil => rfl
        | cons y r ih =>
          obtain ⟨c, rfl, _⟩ := p3 y List.mem_cons_self
          rw [List.map_cons, List.sum_cons, ih fun w hw => p3 w (List.mem_cons_of_mem _ hw), List.length_cons]
          show 1 + r.length = _
          omega
      rw [e]
      show ys.length + ys.length * 0 ≤ _
      omega
    have kb : But h H H2 := k1.trans p5
    have hwl : (PySem.Txt.join "" ys).length ≤ 12 := by omega
    generalize PySem.Txt.join "" ys = word at j1 hwl ⊢
    obtain ⟨ws, rfl⟩ : ∃ ws, word = W ws := ⟨word.cps.toList, (W_cps word).symm⟩
    have hws : ∀ b ∈ ws, b ∈ z.cps.toList := by
      have := j1
      unfold over at this
      rwa [cps_W] at this
    rw [W_len] at hwl
    clear j1 j2 p1 p2 p3 p5 nDh nDc hD k1 hh1 hr0 hr2
    have nd1 : Nd [(W ws, (1 : Int))] := by
      show [W ws].Nodup
      simp
    refine fun L nL => ⟨_, rfl, upd_same, kv [(W ws, 1)], rfl, Nat.le_of_ble_eq_true rfl, ?_⟩
    rw [upd_upd, merge_kv nd1]
    have sL := same_upd (o := .dK (kv [(W ws, 1)])) nL
    have eL := upd_same (H := H2) (a := L) (o := HO.dK (kv [(W ws, 1)]))
    obtain ⟨nLh, nLc⟩ := p4.fresh nL
    have fromH : ∀ {J : Hp} {a : Addr}, TapeAt ca J h → But h H J → J a = none → ∀ b o, H b = some o → b ≠ a := fun {J a} hj k n b o e y => by
      subst y
      by_cases hb : b = h
      · exact (hj.fresh n).1 hb
      · have := k b o e hb
        rw [n] at this
        cases this
    have hL := fromH p4 kb nL
    replace p4 := p4.same sL
    replace kb := kb.trans (But.of sL)
    generalize upd H2 L (.dK (kv [(W ws, 1)])) = H3 at eL p4 kb ⊢
    refine fun S nS => ?_
    have sS := same_upd (o := .dK []) nS
    have eS := upd_same (H := H3) (a := S) (o := HO.dK [])
    obtain ⟨nSh, nSc⟩ := p4.fresh nS
    have hS := fromH p4 kb nS
    have nLS : L ≠ S := ne_of_none eL nS
    replace eL := sS _ _ eL
    replace p4 := p4.same sS
    replace kb := kb.trans (But.of sS)
    generalize upd H3 S (.dK []) = H4 at eL eS p4 kb ⊢
    clear sL sS nL nS fromH
    refine ⟨_, rfl, W ws, rfl, by rw [W_len]; omega, (ws.length : Int), by show [V.int ((W ws).length : Int)] = _; rw [W_len], by omega, by omega, ?_⟩
    refine for_it walk_range (fun i σ H' => (∃ x2 x6, σ = [some (.ref h), some (.str z), x2, some (.str (W ws)), some (.ref L), some (.ref S), x6]) ∧ H' L = some (.dK (kv ((W ws, 1) :: lwT z.cps.toList ws i))) ∧ H' S = some (.dK (kv (slT ws i))) ∧ Nd ((W ws, 1) :: lwT z.cps.toList ws i) ∧ TapeAt ca H' h ∧ But h H H')
      ⟨⟨_, _, rfl⟩, eL, eS, nd1, p4, kb⟩ (fun _ _ _ _ _ => trivial) ?_ ?_
    · rintro i x σ Ga Gb hi ⟨⟨x2, x6, rfl⟩, gL, gS, gn, g4, gk⟩ ⟨rfl, rfl⟩
      show gName 2 (V.int (0 + (i : Int))) _ _ _
      rw [Int.zero_add]
      have hiw : i < ws.length := by simpa using hi
      have hsl : (slT ws i).length = i := by
        unfold slT
        rw [List.length_map, List.length_range]
      refine ⟨_, rfl, _, rfl, _, rfl, _, rfl, W ws, rfl, by rw [W_len]; omega, S, _, rfl, DPut.k (k := Sum.inr (cutS (W ws) none (some (i : Int)))) gS (by rw [kv_len, hsl]; omega), ?_⟩
      rw [cutW (by omega), putK_kv, putT_new (sl_new (by omega)), ← slT_succ]
      have eS5 := upd_same (H := Gb) (a := S) (o := HO.dK (kv (slT ws (i + 1))))
      have eL5 : (upd Gb S (.dK (kv (slT ws (i + 1))))) L = some (.dK (kv ((W ws, 1) :: lwT z.cps.toList ws i))) := by rw [upd_ne nLS]; exact gL
      have h5 : TapeAt ca (upd Gb S (.dK (kv (slT ws (i + 1))))) h := g4.off but_upd nSh.symm nSc.symm
      have k5 : But h H (upd Gb S (.dK (kv (slT ws (i + 1))))) := fun b o e n => by
        rw [upd_ne (hS b o e)]
        exact gk b o e n
      generalize upd Gb S (.dK (kv (slT ws (i + 1)))) = Gc at eS5 eL5 h5 k5 ⊢
      have ew : ws[i]? = some ws[i] := List.getElem?_eq_getElem hiw
      have egd : ws.getD i 0 = ws[i] := by rw [List.getD_eq_getElem?_getD, ew]; rfl
      refine ⟨_, rfl, z, rfl, ?_⟩
      refine for_it walk_str (fun j σ H' => (∃ x6, σ = [some (.ref h), some (.str z), some (.int (i : Nat)), some (.str (W ws)), some (.ref L), some (.ref S), x6]) ∧ H' L = some (.dK (kv ((W ws, 1) :: lwT z.cps.toList ws i ++ rowA (z.cps.toList.take j) (ws.getD i 0) (ws.take i)))) ∧ H' S = some (.dK (kv (slT ws (i + 1)))) ∧ Nd ((W ws, 1) :: lwT z.cps.toList ws i ++ rowA (z.cps.toList.take j) (ws.getD i 0) (ws.take i)) ∧ TapeAt ca H' h ∧ But h H H')
        ⟨⟨_, rfl⟩, by rw [List.take_zero]; show Gc L = some (.dK (kv (((W ws, 1) :: lwT z.cps.toList ws i) ++ []))); rw [List.append_nil]; exact eL5, eS5, by rw [List.take_zero]; show Nd (((W ws, 1) :: lwT z.cps.toList ws i) ++ []); rw [List.append_nil]; exact gn, h5, k5⟩ (fun _ _ _ _ _ => trivial) ?_ ?_
      · rintro j x σ Gd Ge hj ⟨⟨x6', rfl⟩, q1, q2, q3, q4, q5⟩ ⟨rfl, ch, ech, rfl⟩
        have ech' : z.cps.toList[j]? = some ch := by rw [Array.getElem?_toList]; exact ech
        have hj3 : j < 3 := by
          have e : z.cps.size = z.length := rfl
          omega
        have hnd := hz.nd
        have hnot : ch ∉ z.cps.toList.take j := fun hm => by
          obtain ⟨i', hi'⟩ := List.getElem?_of_mem hm
          rw [List.getElem?_take] at hi'
          split at hi'
          · rename_i hlt
            have a1 := List.getElem?_eq_some_iff.mp hi'
            have a2 := List.getElem?_eq_some_iff.mp ech'
            obtain ⟨b1, b2⟩ := a1
            obtain ⟨b3, b4⟩ := a2
            have := List.pairwise_iff_getElem.mp hnd i' j b1 b3 hlt
            rw [b2, b4] at this
            exact this rfl
          · cases hi'
        have etk : z.cps.toList.take (j + 1) = z.cps.toList.take j ++ [ch] := by rw [List.take_add_one, ech']; rfl
        rw [etk, rowA_snoc]
        have ecp : (W ws).cps[i]? = some ws[i] := by
          rw [← Array.getElem?_toList, cps_W]
          exact ew
        refine ⟨_, rfl, _, rfl, _, rfl, W ws, (i : Int), ws[i], rfl, rfl, by omega, by omega, by rw [W_len]; omega, by rw [Int.toNat_natCast]; exact ecp, rfl, _, rfl, ?_⟩
        show if (!decide (V.str (⟨#[ch]⟩ : Str) = V.str (⟨#[ws[i]]⟩ : Str))) = true then _ else _
        by_cases hc : ch = ws[i]
        · rw [decide_eq_true (show V.str (⟨#[ch]⟩ : Str) = V.str (⟨#[ws[i]]⟩ : Str) by rw [hc])]
          refine iteF ?_
          rw [if_pos (by rw [egd]; exact hc)]
          exact ⟨⟨_, rfl⟩, q1, q2, q3, q4, q5⟩
        · rw [decide_eq_false (fun y : V.str (⟨#[ch]⟩ : Str) = V.str (⟨#[ws[i]]⟩ : Str) => hc (by
            have e1 : (⟨#[ch]⟩ : Str) = ⟨#[ws[i]]⟩ := V.str.inj y
            have e2 := congrArg (fun s : Str => s.cps.toList) e1
            simpa using e2))]
          refine iteT ?_
          rw [if_neg (by rw [egd]; exact hc)]
          have hnew := key_new (al := z.cps.toList) hiw (a := ch) (by rw [egd]; exact hc) hnot
          have hlenL : ((W ws, (1 : Int)) :: lwT z.cps.toList ws i ++ rowA (z.cps.toList.take j) (ws.getD i 0) (ws.take i)).length ≤ 1000 := by
            have l1 := lwT_len z.cps.toList ws i
            have l2 := rowA_len (z.cps.toList.take j) (ws.getD i 0) (ws.take i)
            have l3 : i * z.cps.toList.length ≤ 12 * 3 := Nat.mul_le_mul (by omega) (by omega)
            rw [List.length_append, List.length_cons]
            rw [List.length_take] at l2
            omega
          refine ⟨_, rfl, _, rfl, _, rfl, _, rfl, W ws, rfl, by rw [W_len]; omega, _, rfl, _, _, rfl, rfl, ?_, L, _, rfl, DPut.k (k := Sum.inr (cutS (W ws) none (some (i : Int)) ++ (⟨#[ch]⟩ : Str))) q1 (by rw [kv_len]; omega), ?_⟩
          · rw [cutW (by omega), W_len, List.length_take]
            show _ + 1 ≤ _
            omega
          have ekey : cutS (W ws) none (some (i : Int)) ++ (⟨#[ch]⟩ : Str) = W (ws.take i ++ [ch]) := by
            rw [cutW (by omega), ← W_app]
            rfl
          rw [ekey, putK_kv, putT_new hnew, List.append_assoc]
          refine ⟨⟨_, rfl⟩, upd_same, by rw [upd_ne nLS.symm]; exact q2, ?_, q4.off but_upd nLh.symm nLc.symm, fun b o e n => ?_⟩
          · rw [← List.append_assoc]
            exact nd_putT q3 hnew
          · rw [upd_ne (hL b o e)]
            exact q5 b o e n
      · rintro σ Gd ⟨⟨x6', rfl⟩, q1, q2, q3, q4, q5⟩
        rw [show z.cps.size = z.cps.toList.length from by rw [hzs]; rfl, List.take_length] at q1 q3
        have ec : ((W ws, (1 : Int)) :: lwT z.cps.toList ws i ++ rowA z.cps.toList (ws.getD i 0) (ws.take i)) = (W ws, 1) :: lwT z.cps.toList ws (i + 1) := by
          rw [lwT_succ]
          rfl
        rw [ec] at q1 q3
        exact ⟨⟨_, _, rfl⟩, q1, q2, q3, q4, q5⟩
    · rintro σ Ga ⟨⟨x2, x6, rfl⟩, gL, gS, gn, g4, gk⟩
      refine ⟨_, rfl, _, rfl, by show 2 ≤ sizeLine; omega, fun p np => ?_⟩
      have sp := same_upd (o := .tup [.ref L, .ref S]) np
      exact q _ p L S _ _ (g4.same sp) (fun b o e n => sp _ _ (gk b o e n)) upd_same (sp _ _ gL) (sp _ _ gS) ⟨ws, hws, hwl, gn, rfl, rfl⟩
end
end Fp

set_option Elab.async false
set_option linter.all false
set_option maxRecDepth 100000
set_option maxHeartbeats 8000000
namespace Fp
open PySem PySem.Spec PyProof.Rows L2
theorem scl_1 (l : Tb) : scl 1 l = l := by
  unfold scl
  conv => rhs; rw [← List.map_id l]
  refine List.map_congr_left fun p _ => ?_
  show ((p.1, 1 * p.2) : Str × Int) = p
  rw [Int.one_mul]
theorem prs_sclR (f : Int) (Y m : Tb) : prs Y (scl f m) = scl f (prs Y m) := by
  unfold prs scl
  rw [List.map_flatMap]
  congr 1
  funext p
  rw [List.map_map, List.map_map]
  refine List.map_congr_left fun q _ => ?_
  show ((p.1 ++ q.1, p.2 * (f * q.2)) : Str × Int) = (p.1 ++ q.1, f * (p.2 * q.2))
  congr 1
  grind
theorem prs_app_l (a b m : Tb) : prs (a ++ b) m = prs a m ++ prs b m := List.flatMap_append
theorem gr_chain {c : Int} {al : List Nat} {l1 s1 l2 s2 Y W S : Tb} (h1 : Gr c al s1 l1) (h2 : Gr c al s2 l2) (hW : Lk c W ((l1 ++ scl (-1) Y) ++ scl 1 (prs Y l2))) (hS : Lk c S (s1 ++ scl 1 (prs Y s2))) : Gr c al S W := fun x => by
  have e1 := hW x
  have e2 := h1 x
  have e3 := (Lk.prs_r Y h2) x
  have e4 := hS x
  have e5 := (Lk.prs_l (AT al) hS) x
  rw [tot_app, tot_app, tot_scl, tot_scl] at e1 e2
  rw [prs_app_r, tot_app, prs_app_r, tot_app, prs_sclR, prs_sclR, tot_scl, tot_scl, show prs Y oneM = Y from prs_one_r Y, ← prs_assoc] at e3
  rw [tot_app, tot_scl] at e4
  rw [prs_app_l, tot_app, scl_1] at e5
  rw [tot_app, tot_app, tot_scl, tot_scl]
  obtain ⟨q1, p1⟩ := emod_dv e1
  obtain ⟨q2, p2⟩ := emod_dv e2
  obtain ⟨q3, p3⟩ := emod_dv e3
  obtain ⟨q4, p4⟩ := emod_dv e4
  obtain ⟨q5, p5⟩ := emod_dv e5
  generalize tot W x = aW at *
  generalize tot l1 x = al1 at *
  generalize tot Y x = aY at *
  generalize tot (prs Y l2) x = aYl at *
  generalize tot oneM x = aO at *
  generalize tot s1 x = as1 at *
  generalize tot (prs s1 (AT al)) x = as1A at *
  generalize tot (prs Y s2) x = aYs at *
  generalize tot (prs (prs Y s2) (AT al)) x = aYsA at *
  generalize tot S x = aS at *
  generalize tot (prs S (AT al)) x = aSA at *
  refine Int.emod_eq_emod_iff_emod_sub_eq_zero.mpr (Int.emod_eq_zero_of_dvd ⟨q1 + q2 + q3 + q4 - q5, ?_⟩)
  grind
/-- all but the tape and the tables -/
def Kp (h : Addr) (H H' : Hp) : Prop := ∀ b o, H b = some o → b ≠ h → (∀ ps, o ≠ .tbl ps) → H' b = some o
theorem Kp.ext {h : Addr} {H H' : Hp} (x : LamX.ExtN H H') : Kp h H H' := fun b o e _ n => x b o e n
theorem Kp.but {h : Addr} {H H' : Hp} (x : But h H H') : Kp h H H' := fun b o e n _ => x b o e n
theorem Kp.trans {h : Addr} {H H1 H2 : Hp} (a : Kp h H H1) (b : Kp h H1 H2) : Kp h H H2 := fun c o e n m => b c o (a c o e n m) n m
theorem TapeAt.ext {ca : Addr} {H H' : Hp} {h : Addr} (x : TapeAt ca H h) (k : LamX.ExtN H H') : TapeAt ca H' h := by
  obtain ⟨cs, a, l, sd, h1, h2, h3, h4⟩ := x
  exact ⟨cs, a, l, sd, k _ _ h1 (by intro ps z; cases z), k _ _ h2 (by intro ps z; cases z), h3, h4⟩
theorem tabs_but {T : List (Addr × Str)} {H H' : Hp} {h : Addr} (t : LamX.Tabs T H) (hl : ∃ xs, H h = some (.lst xs)) (k : But h H H') : LamX.Tabs T H' := fun p hp => by
  obtain ⟨xs, hx⟩ := hl
  obtain ⟨ps, h1, h2, h3⟩ := t p hp
  refine ⟨ps, k _ _ h1 (ne_of h1 hx (by intro y; cases y)), h2, fun pos cv hc => ?_⟩
  obtain ⟨c, e1, e2⟩ := h3 pos cv hc
  exact ⟨c, e1, k _ _ e2 (ne_of e2 hx (by intro y; cases y))⟩
/-- the tape, the tables, dicts of words -/
structure LZ (K : PySem.W.Frag) (ca h : Addr) (ds : List (Addr × Tb)) (H : Hp) : Prop where
  hh : TapeAt ca H h
  tb : LamX.Tabs (TT K) H
  ed : ∀ p ∈ ds, H p.1 = some (.dK (kv p.2))
theorem LZ.ext {K : PySem.W.Frag} {ca h : Addr} {ds : List (Addr × Tb)} {H H' : Hp} (z : LZ K ca h ds H) (x : LamX.ExtN H H') (t : LamX.Tabs (TT K) H') : LZ K ca h ds H' := ⟨z.hh.ext x, t, fun p hp => x _ _ (z.ed p hp) (by intro ps z; cases z)⟩
theorem LZ.same {K : PySem.W.Frag} {ca h : Addr} {ds : List (Addr × Tb)} {H H' : Hp} (z : LZ K ca h ds H) (s : Same H H') : LZ K ca h ds H' := z.ext (LamX.ExtN.of s) (z.tb.ext s)
theorem LZ.but {K : PySem.W.Frag} {ca h : Addr} {ds : List (Addr × Tb)} {H H' : Hp} (z : LZ K ca h ds H) (k : But h H H') (hh : TapeAt ca H' h) : LZ K ca h ds H' := ⟨hh, tabs_but z.tb z.hh.lst k, fun p hp => k _ _ (z.ed p hp) (z.hh.neD (z.ed p hp))⟩
theorem LZ.add {K : PySem.W.Frag} {ca h : Addr} {ds : List (Addr × Tb)} {H : Hp} {d : Addr} {l : Tb} (z : LZ K ca h ds H) (e : H d = some (.dK (kv l))) : LZ K ca h ((d, l) :: ds) H := ⟨z.hh, z.tb, fun p hp => by
  rcases List.mem_cons.mp hp with rfl | hp
  · exact e
  · exact z.ed p hp⟩
theorem LZ.kp {K : PySem.W.Frag} {ca h : Addr} {ds : List (Addr × Tb)} {H H' : Hp} (z : LZ K ca h ds H) (k : Kp h H H') (hh : TapeAt ca H' h) (t : LamX.Tabs (TT K) H') : LZ K ca h ds H' := ⟨hh, t, fun p hp => k _ _ (z.ed p hp) (z.hh.neD (z.ed p hp)) (by intro ps y; cases y)⟩
def tLong70 (K : PySem.W.Frag) : TS := fun D σ H => ∃ (x0 x4 x5 x6 x7 x8 x9 x10 x11 x12 x13 x14 : Option V) (h ca : Addr) (z : Str) (c : Int), σ = [x0, some (.ref h), some (.str z), some (.int c), x4, x5, x6, x7, x8, x9, x10, x11, x12, x13, x14] ∧ TapeAt ca H h ∧ LamX.Tabs (TT K) H ∧ isCk c ∧ isAl z ∧
  ∀ H' x10 x11, TapeAt ca H' h → LamX.Tabs (TT K) H' → Kp h H H' → D.nx [x0, some (.ref h), some (.str z), some (.int c), x4, x5, x6, x7, x8, x9, x10, x11, x12, x13, x14] H'
theorem tabs_dk {T : List (Addr × Str)} {H : Hp} {x : Addr} {kvs : List (Key × V)} {o : HO} (t : LamX.Tabs T H) (hx : H x = some (.dK kvs)) : LamX.Tabs T (upd H x o) := fun p hp => by
  obtain ⟨ps, h1, h2, h3⟩ := t p hp
  refine ⟨ps, by rw [upd_ne (ne_of h1 hx (by intro y; cases y))]; exact h1, h2, fun pos cv hc => ?_⟩
  obtain ⟨c, e1, e2⟩ := h3 pos cv hc
  exact ⟨c, e1, by rw [upd_ne (ne_of e2 hx (by intro y; cases y))]; exact e2⟩
theorem gr_nil {c : Int} {al : List Nat} : Gr c al [] oneM := fun x => by
  rw [tot_app, tot_app]
  show tot oneM x % c = (tot oneM x + tot [] x + tot [] x) % c
  rw [tot_nil, Int.add_zero, Int.add_zero]
section
variable {P : Program} {w : World} {K : PySem.W.Frag} {mg : Str → Option Value} {base : Heap}
def spLaw (K : PySem.W.Frag) : Sp := fun vs H Q _ => ∃ (a : Addr) (ns : List Int), vs = [.ref a] ∧ H (He.cT K dIs).2 = some (.tbl #[]) ∧ SqL K H a (ns.map V.int) ∧ ∀ H', Q (.bl true) H'
abbrev nLaw : List Str := ["_law_script", "_law_tape_here", "_law_alphabet", "_law_clock_here", "_law_one", "_law_ahead", "_law_other", "_law_later", "_law_word_here", "_law_number", "_law_long", "_law_begun", "_law_both", "_law_starts", "_law_wrong"]
theorem sc_law : FnScope nLaw ["_law_script"] (defScope s_law) := ⟨rfl, rfl, rfl, by decide +kernel, rfl, by decide +kernel, by decide +kernel⟩
theorem ok_law (T : Top K mg) (TB : LamX.TabB base mg (He.cT K dIs).1 (He.cT K dIs).2) {fd : FuncData} (F : FnP K "law" "law" s_law (He.fAd K ("law", none)) fd) : FnOk P w K mg base CX0 12 (He.ga K "law") fd ["_law_script"] (spLaw K) := by
  refine F.ok sc_law (fun vs H Q E h => ?_) (fun cdv A outer s H vs Q E hr h => ?_)
  · obtain ⟨a, ns, rfl, _⟩ := h
    rfl
  · obtain ⟨a, ns, rfl, hP, hS, q⟩ := h
    have nd := sc_law.nd
    have hu := hu_of hr
    have hs : sizeLine = 16777216 := sizeLine_eq
    have hr1 : Room 1 _ := hr.mono (by decide)
    have hr2 : Room 2 _ := hr.mono (by decide)
    have hr3 : Room 3 _ := hr.mono (by decide)
    have hr5 : Room 5 _ := hr.mono (by decide)
    have hr6 : Room 6 _ := hr.mono (by decide)
    have hr8 : Room 8 _ := hr.mono (by decide)
    have hr10 : Room 10 _ := hr.mono (by decide)
    refine ⟨_, PSs.nox (pss_cons (ps_set (i := 1) nd rfl (Or.inl rfl) (pc (ok_tape T) hr1 (pa_cons (pv 0) pa_nil)))
      (pss_cons (ps_set (i := 2) nd rfl (Or.inl rfl) (pe_ix ix_list (pe_lst (pa_cons pe_str (pa_cons pe_str (pa_cons pe_str pa_nil)))) (pc (ok_tdraw T) hr1 (pa_cons (pv 1) (pa_cons pe_int pa_nil))) (fun _ _ => rfl)))
      (pss_cons (ps_set (i := 3) nd rfl (Or.inl rfl) (pc (ok_tck T) hr2 (pa_cons (pv 1) pa_nil)))
      (pss_cons (ps_asg (pc (ok_madeS T) hr5 (pa_cons (pv 1) (pa_cons (pv 3) (pa_cons (pv 2) pa_nil)))) (pg_tup rfl (pgs_cons (pg_name (i := 4) nd rfl (Or.inl rfl)) (pgs_cons (pg_name (i := 5) nd rfl (Or.inl rfl)) pgs_nil))))
      (pss_cons (ps_asg (pc (ok_madeS T) hr5 (pa_cons (pv 1) (pa_cons (pv 3) (pa_cons (pv 2) pa_nil)))) (pg_tup rfl (pgs_cons (pg_name (i := 6) nd rfl (Or.inl rfl)) (pgs_cons (pg_name (i := 7) nd rfl (Or.inl rfl)) pgs_nil))))
      (pss_cons (ps_if (PW.pt (pw_or (pt_not (pt_val (pc (ok_fits T TB) hr (pa_cons (pv 3) (pa_cons (pv 2) (pa_cons (pv 4) (pa_cons (pv 5) pa_nil))))))) (pw_or1 (pt_not (pt_val (pc (ok_fits T TB) hr (pa_cons (pv 3) (pa_cons (pv 2) (pa_cons (pv 6) (pa_cons (pv 7) pa_nil)))))))))) (pss_one (ps_ret pe_bl)) pss_nil)
      (pss_cons (ps_set (i := 8) nd rfl (Or.inl rfl) (pc (ok_twrd T) hr3 (pa_cons (pv 1) (pa_cons (pv 2) (pa_cons pe_int pa_nil)))))
      (pss_cons (ps_set (i := 9) nd rfl (Or.inl rfl) (pe_op op_add pe_int (pc (ok_tdraw T) hr1 (pa_cons (pv 1) (pa_cons (pe_op op_sub (pv 3) pe_int) pa_nil)))))
      (pss_cons (PS.weak (t' := tLong70 K) (ps_if (pt_cmpR op_eq (pc (ok_tdraw T) hr1 (pa_cons (pv 1) (pa_cons pe_int pa_nil))) pe_int (nomark _)) (pss_cons (ps_asg (pc (ok_along T) hr2 (pa_cons (pv 1) (pa_cons (pv 2) pa_nil))) (pg_tup rfl (pgs_cons (pg_name (i := 10) nd rfl (Or.inl rfl)) (pgs_cons (pg_name (i := 11) nd rfl (Or.inl rfl)) pgs_nil))))
      (pss_one (ps_if (pt_not (pt_val (pc (ok_fits T TB) hr (pa_cons (pv 3) (pa_cons (pv 2) (pa_cons (pv 10) (pa_cons (pv 11) pa_nil))))))) (pss_one (ps_ret pe_bl)) pss_nil))) pss_nil) ?w1)
      (pss_cons (ps_set (i := 12) nd rfl (Or.inl rfl) (pc (ok_setIn T) hr3 (pa_cons (pv 3) (pa_cons (pv 4) (pa_cons (pv 8) (pa_cons (pv 9) (pa_cons (pv 6) pa_nil)))))))
      (pss_cons (ps_set (i := 13) nd rfl (Or.inl rfl) (pc (ok_ladd T) hr2 (pa_cons (pv 3) (pa_cons (pv 5) (pa_cons (pc (ok_lprod T) hr2 (pa_cons (pv 3) (pa_cons (pe_disp (pps_cons (pv 8) (pv 9) pps_nil) (by rfl) (by rfl) (fun z => by cases z) (by decide)) (pa_cons (pv 7) pa_nil)))) (pa_cons pe_int pa_nil))))))
      (pss_cons (ps_if (pt_not (pt_val (pc (ok_fits T TB) hr (pa_cons (pv 3) (pa_cons (pv 2) (pa_cons (pv 12) (pa_cons (pv 13) pa_nil))))))) (pss_one (ps_ret pe_bl)) pss_nil)
      (pss_cons (ps_set (i := 12) nd rfl (Or.inl rfl) (pcL (ok_behind T) hr8 (pa_cons (pbag T hr6 (pa_cons (pv 3) (pa_cons (pv 4) pa_nil))) (pa_cons (pbag T hr6 (pa_cons (pv 3) (pa_cons (pv 6) pa_nil))) pa_nil))))
      (pss_cons (ps_set (i := 13) nd rfl (Or.inl rfl) (pc (ok_ladd T) hr2 (pa_cons (pv 3) (pa_cons (pv 5) (pa_cons (pc (ok_lprod T) hr2 (pa_cons (pv 3) (pa_cons (pv 4) (pa_cons (pv 7) pa_nil)))) (pa_cons pe_int pa_nil))))))
      (pss_cons (ps_if (PW.pt (pw_or (pt_not (pt_val (pc (ok_flag T) hr1 (pa_cons (pc (ok_full T) hr (pa_cons (pv 2) (pa_cons (pv 12) pa_nil))) (pa_cons pe_bl pa_nil))))) (pw_or1 (pt_not (pt_val (pc (ok_is T TB) hr2 (pa_cons (pc (ok_beg T) hr10 (pa_cons (pv 2) (pa_cons (pv 12) pa_nil))) (pa_cons (pv 3) (pa_cons (pv 13) pa_nil))))))))) (pss_one (ps_ret pe_bl)) pss_nil)
      (pss_cons (ps_set (i := 14) nd rfl (Or.inl rfl) (pc (ok_ladd T) hr2 (pa_cons (pv 3) (pa_cons (pv 4) (pa_cons (pe_disp (pps_cons (pc (ok_twrd T) hr3 (pa_cons (pv 1) (pa_cons (pv 2) (pa_cons pe_int pa_nil)))) pe_int pps_nil) (by rfl) (by rfl) (fun z => by cases z) (by decide)) (pa_cons (pe_op op_add pe_int (pc (ok_tdraw T) hr1 (pa_cons (pv 1) (pa_cons (pe_op op_sub (pv 3) pe_int) pa_nil)))) pa_nil))))))
      (pss_cons (ps_if (pt_cmpR op_notN (pc (ok_beg T) hr10 (pa_cons (pv 2) (pa_cons (pbag T hr6 (pa_cons (pv 3) (pa_cons (pv 14) pa_nil))) pa_nil))) pe_non (nomark _)) (pss_one (ps_ret pe_bl)) pss_nil)
      (pss_one (ps_ret (pe_and (pc (ok_fits T TB) hr (pa_cons (pv 3) (pa_cons (pv 2) (pa_cons (pe_disp (pps_cons pe_str pe_int pps_nil) (by rfl) (by rfl) (fun z => by cases z) (by decide)) (pa_cons pe_dnewK pa_nil))))) (pe_one (pe_cmpR op_isN (pc (ok_beg T) hr10 (pa_cons (pv 2) (pa_cons (pbag T hr6 (pa_cons (pv 3) (pa_cons pe_dnewK pa_nil))) pa_nil))) pe_non (nomark _))))))))))))))))))))))), ?_⟩
    case w1 =>
      rintro D σ H ⟨x0, x4, x5, x6, x7, x8, x9, x10, x11, x12, x13, x14, h, ca, z, c, rfl, hh, tb, hck, hz, k⟩
      obtain ⟨hc2, hc7⟩ := ck_range hck
      refine ⟨_, rfl, h, ca, 3, rfl, by decide, by decide, hh, fun r H1 z1 z2 hh1 k1 => ⟨rfl, _, rfl, ?_⟩⟩
      have tb1 := tabs_but tb hh.lst k1
      refine ite2 (fun _ => ?_) (fun _ => k H1 _ _ hh1 tb1 (Kp.but k1))
      refine ⟨_, rfl, _, rfl, h, ca, z, rfl, hh1, hz, fun H2 p r e l s hh2 k2 ep er ee al => ?_⟩
      obtain ⟨v, o, vS, gr⟩ := al.facts hc2 hz
      have tb2 := tabs_but tb1 hh1.lst k2
      refine ⟨p, _, rfl, .inl (.inl ep), rfl, ?_⟩
      refine ⟨_, _, rfl, _, _, rfl, rfl, ?_⟩
      refine ⟨_, rfl, _, rfl, _, rfl, _, rfl, c, z, r, e, 12, 40, 12, 12, 12, l, s, rfl, hck, hz, er, ee, v, by decide, by decide, o, by decide, vS, by decide, by decide, gr, tb2, fun H3 x3 tb3 => ⟨true, rfl, iteF ?_⟩⟩
      exact k H3 _ _ (hh2.ext x3) tb3 (((Kp.but k1).trans (Kp.but k2)).trans (Kp.ext x3))
    refine ⟨_, rfl, a, ns, rfl, hS, fun H1 h ca s1 hh1 => ?_⟩
    have tb0 : LamX.Tabs (TT K) H := fun p hp => by
      rw [List.mem_singleton.mp hp]
      exact LamX.TabS.nil hP
    have z : LZ K ca h [] H1 := ⟨hh1, tb0.ext s1, fun p hp => by cases hp⟩
    have hh1' := hh1
    clear hh1 tb0 s1
    refine ⟨by show 3 ≤ sizeLine; omega, fun A0 nA => ?_⟩
    have sA := same_upd (o := .lst [.str "xy", .str "xyz", .str "xy"]) nA
    have eA := upd_same (H := H1) (a := A0) (o := HO.lst [.str "xy", .str "xyz", .str "xy"])
    replace z := z.same sA
    have nAx : A0 ≠ h := (hh1'.fresh nA).1
    generalize upd H1 A0 (.lst [.str "xy", .str "xyz", .str "xy"]) = H2 at eA z ⊢
    clear sA nA
    refine ⟨_, rfl, h, ca, 3, rfl, by decide, by decide, z.hh, fun r H3 z1 z2 hh3 k3 => ?_⟩
    replace eA := k3 _ _ eA nAx
    replace z := z.but k3 hh3
    obtain ⟨j, rfl⟩ : ∃ j : Nat, r = j := ⟨r.toNat, (Int.toNat_of_nonneg z1).symm⟩
    have hj3 : j < 3 := by omega
    obtain ⟨zz, hzz, ej⟩ : ∃ zz : Str, isAl zz ∧ ([.str "xy", .str "xyz", .str "xy"] : List V)[j]? = some (.str zz) := by
      match j, hj3 with
      | 0, _ => exact ⟨"xy", .inl rfl, rfl⟩
      | 1, _ => exact ⟨"xyz", .inr rfl, rfl⟩
      | 2, _ => exact ⟨"xy", .inl rfl, rfl⟩
    refine ⟨A0, _, (j : Int), .str zz, rfl, rfl, SqL.of eA, atI_nat ej, ?_⟩
    clear eA nAx z1 z2 k3 hh3 ej hj3
    obtain ⟨hz1, hz3⟩ := hzz.len
    refine ⟨_, rfl, h, ca, rfl, z.hh, fun H4 c hh4 k4 hck => ?_⟩
    obtain ⟨hc2, hc7⟩ := ck_range hck
    have c0 : 0 < c := by omega
    replace z := z.but k4 hh4
    refine ⟨_, rfl, _, rfl, _, rfl, h, ca, c, zz, rfl, z.hh, hck, hzz, fun H5 p4 d4 d5 l1 s1 hh5 k5 ep e4 e5 n4 n5 fb1 => ?_⟩
    replace z := ((z.but k5 hh5).add e5).add e4
    refine ⟨p4, _, rfl, .inl (.inl ep), rfl, ?_⟩
    refine ⟨_, _, rfl, _, _, rfl, rfl, ?_⟩
    refine ⟨_, rfl, _, rfl, _, rfl, h, ca, c, zz, rfl, z.hh, hck, hzz, fun H6 p6 d6 d7 l2 s2 hh6 k6 ep6 e6 e7 n6 n7 fb2 => ?_⟩
    have ne47 : d4 ≠ d7 := ne_of_none e4 n7
    replace z := ((z.but k6 hh6).add e7).add e6
    clear hh4 k4 hh5 k5 ep e4 e5 n4 n5 hh6 k6 e6 e7 n6 n7
    refine ⟨p6, _, rfl, .inl (.inl ep6), rfl, ?_⟩
    refine ⟨_, _, rfl, _, _, rfl, rfl, ?_⟩
    clear ep6
    have g4 : ∀ {J : Hp}, LZ K ca h [(d6, l2), (d7, s2), (d4, l1), (d5, s1)] J → J d4 = some (.dK (kv l1)) := fun y => y.ed (d4, l1) (by simp)
    have g5 : ∀ {J : Hp}, LZ K ca h [(d6, l2), (d7, s2), (d4, l1), (d5, s1)] J → J d5 = some (.dK (kv s1)) := fun y => y.ed (d5, s1) (by simp)
    have g6 : ∀ {J : Hp}, LZ K ca h [(d6, l2), (d7, s2), (d4, l1), (d5, s1)] J → J d6 = some (.dK (kv l2)) := fun y => y.ed (d6, l2) (by simp)
    have g7 : ∀ {J : Hp}, LZ K ca h [(d6, l2), (d7, s2), (d4, l1), (d5, s1)] J → J d7 = some (.dK (kv s2)) := fun y => y.ed (d7, s2) (by simp)
    refine ⟨_, rfl, _, rfl, _, rfl, _, rfl, c, zz, d4, d5, 5, 21, 5, 5, 5, l1, s1, rfl, hck, hzz, g4 z, g5 z, fb1.v, by decide, by decide, fb1.o, by decide, fb1.vS, by decide, by decide, fb1.gr, z.tb, fun H7 x7 tb7 => ⟨true, rfl, iteF ?_⟩⟩
    replace z := z.ext x7 tb7
    refine ⟨_, rfl, _, rfl, _, rfl, _, rfl, c, zz, d6, d7, 5, 21, 5, 5, 5, l2, s2, rfl, hck, hzz, g6 z, g7 z, fb2.v, by decide, by decide, fb2.o, by decide, fb2.vS, by decide, by decide, fb2.gr, z.tb, fun H8 x8 tb8 => ⟨true, rfl, iteF ?_⟩⟩
    replace z := z.ext x8 tb8
    clear x7 tb7 x8 tb8
    refine ⟨_, rfl, _, rfl, h, ca, zz, 3, rfl, z.hh, hz1, by omega, by decide, fun H9 wd hh9 k9 ow hwl => ?_⟩
    replace z := z.but k9 hh9
    have hwx : xyz wd := fun b hb => hzz.xyz b (ow b hb)
    refine ⟨_, rfl, _, rfl, _, _, rfl, rfl, h, ca, c - 1, rfl, by omega, by omega, z.hh, fun f H10 z1 z2 hh10 k10 => ?_⟩
    replace z := z.but k10 hh10
    refine ⟨_, _, rfl, rfl, ?_⟩
    have hn1 : 1 ≤ 1 + f := by omega
    have hn2 : 1 + f < c := by omega
    clear z1 z2 hh9 k9 hh10 k10
    refine ⟨_, _, _, _, _, _, _, _, _, _, _, _, h, ca, zz, c, rfl, z.hh, z.tb, hck, hzz, fun H11 y10 y11 hh11 tb11 kp11 => ?_⟩
    replace z := z.kp kp11 hh11 tb11
    clear hh11 tb11 kp11
    -- set in
    refine ⟨_, rfl, _, rfl, _, rfl, _, rfl, _, rfl, c, 1 + f, d4, d6, wd, 5, 21, 5, 21, l1, l2, rfl, hck, g4 z, g6 z, fb1.v, fb2.v, hwx, hwl, hn1, hn2, by decide, by decide, by decide, by decide, fun H12 r12 t12 s12 n12 e12 v12 k12 => ?_⟩
    replace z := z.same s12
    have vx : VT c 3 1 [(wd, 1 + f)] := (vt_sing hwx hn1 hn2).mono hwl (Nat.le_refl 1)
    have ox : OverT zz.cps.toList 3 [(wd, 1 + f)] := ⟨fun p hp => by
      obtain rfl : p = (wd, 1 + f) := by simpa using hp
      exact ow, fun p hp => by
      obtain rfl : p = (wd, 1 + f) := by simpa using hp
      exact hwl⟩
    refine ⟨_, rfl, _, rfl, _, rfl, fun p13 np => ⟨_, rfl, _, rfl, upd_same, kv [(wd, 1 + f)], rfl, Nat.le_of_ble_eq_true rfl, ?_⟩⟩
    rw [upd_upd, merge_kv vx.nd]
    have s13 := same_upd (o := .dK (kv [(wd, 1 + f)])) np
    have e13 := upd_same (H := H12) (a := p13) (o := HO.dK (kv [(wd, 1 + f)]))
    have ne13 : p13 ≠ d7 := (ne_of_none (g7 z) np).symm
    replace z := z.same s13
    replace e12 := s13 _ _ e12
    generalize upd H12 p13 (.dK (kv [(wd, 1 + f)])) = H13 at e13 z e12 ⊢
    clear s12 s13 np n12
    refine ⟨_, rfl, p13, d7, c, 3, 1, 5, 5, [(wd, 1 + f)], s2, rfl, c0, hc7, ne13, e13, g7 z, vx, fb2.vS, by decide, by decide, by decide, fun H14 D14 t14 s14 n14 e14 v14 k14 => ?_⟩
    replace z := z.same s14
    replace e12 := s14 _ _ e12
    refine ⟨d5, D14, 1, c, 5, 5, 3 + 5, 1 * 5, s1, t14, rfl, c0, hc7, g5 z, e14, fb1.vS, v14, by decide, fun H15 r15 t15 s15 n15 e15 v15 k15 => ?_⟩
    replace z := z.same s15
    replace e12 := s15 _ _ e12
    have ls15 : Lk c t15 (s1 ++ scl 1 (prs [(wd, 1 + f)] s2)) := k15.trans (Lk.app (Lk.refl c s1) (Lk.scl 1 k14))
    have g12 : Gr c zz.cps.toList t15 t12 := gr_chain fb1.gr fb2.gr k12 ls15
    have v12' : VT c 8 43 t12 := v12.mono (by decide) (by decide)
    have o12 : OverT zz.cps.toList 8 t12 := over_lk c0 v12' k12 (((fb1.o.mono (by decide)).app ((ox.mono (by decide)).scl (-1))).app ((ox.prs fb2.o).scl 1))
    refine ⟨_, rfl, _, rfl, _, rfl, _, rfl, c, zz, r12, r15, 8, 43, _, _, 8, t12, t15, rfl, hck, hzz, e12, e15, v12', by decide, by decide, o12, by decide, v15, by decide, by decide, g12, z.tb, fun H16 x16 tb16 => ⟨true, rfl, iteF ?_⟩⟩
    replace z := z.ext x16 tb16
    clear s14 s15 n14 n15 e12 e13 e14 e15 v12 v14 v15 k12 k14 k15 ls15 g12 v12' o12 x16 tb16
    -- the product
    refine ⟨_, rfl, _, rfl, fun b17 dx17 hb17 hdx17 ne17 => ?_⟩
    refine ⟨b17, d4, dx17, c, l1, rfl, upd_same, hck, made_dict (g4 z) hb17 hdx17, fb1.v.mono (by decide) (by decide), fun H17 k17 hB17 => ⟨rfl, ?_⟩⟩
    have s17 := made_same k17 hb17 hdx17
    replace z := z.same s17
    clear k17 s17 hb17 hdx17 ne17
    refine ⟨_, rfl, _, rfl, fun b18 dx18 hb18 hdx18 ne18 => ?_⟩
    refine ⟨b18, d6, dx18, c, l2, rfl, upd_same, hck, made_dict (g6 z) hb18 hdx18, fb2.v.mono (by decide) (by decide), fun H18 k18 hB18 => ⟨rfl, ?_⟩⟩
    have s18 := made_same k18 hb18 hdx18
    replace z := z.same s18
    replace hB17 := hB17.same s18
    clear k18 s18 hb18 hdx18 ne18
    refine ⟨b17, b18, c, c, 5, 21, 5, 21, l1, l2, rfl, ⟨hB17, fb1.v⟩, ⟨hB18, fb2.v⟩, hck, by decide, by decide, by decide, fun _ H19 B tB s19 nB gB lB => ?_, fun y => absurd rfl y⟩
    replace z := z.same s19
    clear s19 nB hB17 hB18
    obtain ⟨M, KK, hM, hKK, gB⟩ : ∃ M KK : Nat, M ≤ 10 ∧ KK ≤ 441 ∧ Bg K H19 B c M KK tB := ⟨5 + 5, 21 * 21, by decide, by decide, gB⟩
    refine ⟨_, rfl, _, rfl, _, rfl, _, rfl, _, rfl, d4, d7, c, 5, 21, 5, 5, l1, s2, rfl, c0, hc7, ne47, g4 z, g7 z, fb1.v, fb2.vS, by decide, by decide, by decide, fun H20 D20 t20 s20 n20 e20 v20 k20 => ?_⟩
    replace z := z.same s20
    replace gB := gB.same s20
    refine ⟨d5, D20, 1, c, 5, 5, 5 + 5, 21 * 5, s1, t20, rfl, c0, hc7, g5 z, e20, fb1.vS, v20, by decide, fun H21 r21 t21 s21 n21 e21 v21 k21 => ?_⟩
    replace z := z.same s21
    replace gB := gB.same s21
    have ls21 : Lk c t21 (s1 ++ scl 1 (prs l1 s2)) := k21.trans (Lk.app (Lk.refl c s1) (Lk.scl 1 k20))
    have lB2 : Lk c tB ((l1 ++ scl (-1) l1) ++ scl 1 (prs l1 l2)) := lB.trans fun x => by
      rw [tot_app, tot_app, tot_scl, tot_scl]
      congr 1
      omega
    have gr21 : Gr c zz.cps.toList t21 tB := gr_chain fb1.gr fb2.gr lB2 ls21
    have oB : OverT zz.cps.toList 10 tB := over_lk c0 gB.2 lB (fb1.o.prs fb2.o)
    have qB := gr_quot gB.2.nd gr21
    clear s20 s21 n20 n21 e20 v20 k20 k21 ls21 lB2
    refine ⟨_, rfl, _, rfl, B, c, zz, M, KK, 10, tB, rfl, gB, hck, hzz, oB, by decide, by omega, by omega, fun H22 bb s22 hbb => ?_⟩
    have hbt : bb = true := hbb.mpr ⟨t21, qB⟩
    subst hbt
    replace z := z.same s22
    replace gB := gB.same s22
    replace e21 := s22 _ _ e21
    refine ⟨true, true, rfl, ?_⟩
    rw [decide_eq_true (rfl : true = true)]
    refine ⟨true, rfl, iteF ?_⟩
    refine ⟨_, rfl, _, rfl, B, c, zz, M, KK, 10, tB, rfl, gB, hck, hzz, oB, by decide, by omega, by omega, fun H23 x s23 hopt => ?_⟩
    generalize (1 + KK) + (1 + KK) * ((max 0 M + 1) * ((1 + 3) + 1)) = K2 at hopt
    rcases hopt with ⟨_, hno⟩ | ⟨r23, q23, rfl, gR, lq⟩
    · exact absurd qB (hno t21)
    replace z := z.same s23
    replace e21 := s23 _ _ e21
    have ecq : canon q23 = canon t21 := lk_same c0 gR.2 v21 (bt_cancel hzz.nd (lq.symm.trans qB))
    refine ⟨_, rfl, _, rfl, r23, _, c, t21, rfl, z.tb, by have := gR.1; rw [ecq] at this; exact this, e21, v21.nd, fun p hp => Nat.le_trans (v21.wd p hp).2 (by decide), Nat.le_trans v21.ln (by decide), fun H24 x24 tb24 => ⟨true, rfl, iteF ?_⟩⟩
    replace z := z.ext x24 tb24
    clear s22 s23 x24 tb24 gR lq ecq e21 v21 gB oB qB hbb
    -- one number changed
    refine ⟨_, rfl, _, rfl, fun p25 np25 => ?_⟩
    obtain ⟨nph, npc⟩ := z.hh.fresh np25
    have npd : ∀ q ∈ [(d6, l2), (d7, s2), (d4, l1), (d5, s1)], q.1 ≠ p25 := fun q hq => ne_of_none (z.ed q hq) np25
    have s25 := same_upd (o := .dK []) np25
    have e25 := upd_same (H := H24) (a := p25) (o := HO.dK [])
    replace z := z.same s25
    generalize upd H24 p25 (.dK []) = H25 at e25 z ⊢
    clear s25 np25
    refine ⟨_, rfl, _, rfl, h, ca, zz, 5, rfl, z.hh, hz1, by omega, by decide, fun H26 wq hh26 k26 owq hwq => ?_⟩
    replace e25 := k26 _ _ e25 nph
    replace z := z.but k26 hh26
    have hwx2 : xyz wq := fun b hb => hzz.xyz b (owq b hb)
    have vq : VT c 5 1 [(wq, 1)] := (vt_sing hwx2 (by decide) (by omega)).mono hwq (Nat.le_refl 1)
    refine ⟨e25, kv [(wq, 1)], rfl, Nat.le_of_ble_eq_true rfl, ?_⟩
    rw [merge_kv vq.nd]
    have e27 := upd_same (H := H26) (a := p25) (o := HO.dK (kv [(wq, 1)]))
    replace z : LZ K ca h [(d6, l2), (d7, s2), (d4, l1), (d5, s1)] (upd H26 p25 (.dK (kv [(wq, 1)]))) := ⟨z.hh.off but_upd nph.symm npc.symm, tabs_dk z.tb e25, fun q hq => by rw [upd_ne (npd q hq)]; exact z.ed q hq⟩
    generalize upd H26 p25 (.dK (kv [(wq, 1)])) = H27 at e27 z ⊢
    clear hh26 k26 e25 npc npd
    refine ⟨_, rfl, _, rfl, _, _, rfl, rfl, h, ca, c - 1, rfl, by omega, by omega, z.hh, fun f2 H28 z1 z2 hh28 k28 => ?_⟩
    replace e27 := k28 _ _ e27 nph
    replace z := z.but k28 hh28
    have hf1 : 1 ≤ 1 + f2 := by omega
    have hf2 : 1 + f2 < c := by omega
    clear z1 z2 hh28 k28
    refine ⟨_, _, rfl, rfl, d4, p25, 1 + f2, c, 5, 21, 5, 1, l1, [(wq, 1)], rfl, c0, hc7, g4 z, e27, fb1.v, vq, by decide, fun H29 r29 t29 s29 n29 e29 v29 k29 => ?_⟩
    replace z := z.same s29
    have el : scl (1 + f2) [(wq, (1 : Int))] = [(W wq.cps.toList, 1 + f2)] := by
      show [(wq, (1 + f2) * 1)] = _
      rw [W_cps, Int.mul_one]
    rw [el] at k29
    obtain ⟨M3, K3, hM3, hK3, v29⟩ : ∃ M3 K3 : Nat, M3 ≤ 5 ∧ K3 ≤ 22 ∧ VT c M3 K3 t29 := ⟨max 5 5, 21 + 1, by decide, by decide, v29⟩
    have oq : OverT zz.cps.toList 5 [(W wq.cps.toList, 1 + f2)] := ⟨fun p hp => by
      obtain rfl : p = (W wq.cps.toList, 1 + f2) := by simpa using hp
      rw [W_cps]
      exact owq, fun p hp => by
      obtain rfl : p = (W wq.cps.toList, 1 + f2) := by simpa using hp
      rw [W_cps]
      exact hwq⟩
    have o29 : OverT zz.cps.toList 5 t29 := over_lk c0 v29 k29 (fb1.o.app oq)
    have hnq : ¬ Qt c zz.cps.toList t29 := qt_changed hc2 hzz.nd hzz.ne fb1.v.nd v29.nd fb1.o o29 owq (by rw [len_list]; exact hwq) hf1 hf2 k29 ⟨s1, gr_quot fb1.v.nd fb1.gr⟩
    clear e27 k29 el s29 n29 oq vq
    refine ⟨_, rfl, _, rfl, _, rfl, fun b30 dx30 hb30 hdx30 ne30 => ?_⟩
    refine ⟨b30, r29, dx30, c, t29, rfl, upd_same, hck, made_dict e29 hb30 hdx30, v29.mono (by omega) (by omega), fun H30 k30 hB30 => ⟨rfl, ?_⟩⟩
    have s30 := made_same k30 hb30 hdx30
    replace z := z.same s30
    clear k30 s30 hb30 hdx30 ne30 e29
    refine ⟨b30, c, zz, M3, K3, 5, t29, rfl, ⟨hB30, v29⟩, hck, hzz, o29, by decide, by omega, by omega, fun H31 x31 s31 hopt => ?_⟩
    generalize (1 + K3) + (1 + K3) * ((max 0 M3 + 1) * ((1 + 3) + 1)) = K4 at hopt
    rcases Or.symm hopt with ⟨r31, q31, rfl, _, lq31⟩ | ⟨rfl, _⟩
    · exact absurd ⟨q31, lq31⟩ hnq
    replace z := z.same s31
    refine ⟨rfl, _, rfl, ?_⟩
    rw [decide_eq_true (rfl : V.non = V.non)]
    refine iteF ?_
    clear s31 hnq o29 v29 hB30
    -- one, nothing
    have vU : VT c 0 1 oneM := vt_unit hc2 0
    refine ⟨_, rfl, _, rfl, fun p32 np32 => ⟨upd_same, kv oneM, rfl, Nat.le_of_ble_eq_true rfl, ?_⟩⟩
    rw [upd_upd, merge_kv vU.nd]
    have s32 := same_upd (o := .dK (kv oneM)) np32
    have e32 := upd_same (H := H31) (a := p32) (o := HO.dK (kv oneM))
    replace z := z.same s32
    generalize upd H31 p32 (.dK (kv oneM)) = H32 at e32 z ⊢
    refine fun p33 np33 => ?_
    have s33 := same_upd (o := .dK []) np33
    have e33 := upd_same (H := H32) (a := p33) (o := HO.dK [])
    replace z := z.same s33
    replace e32 := s33 _ _ e32
    generalize upd H32 p33 (.dK []) = H33 at e32 e33 z ⊢
    refine ⟨c, zz, p32, p33, 0, 1, 0, 0, 0, oneM, [], rfl, hck, hzz, e32, e33, vU, by decide, by decide, over_one _ 1, by decide, vt_nil c 0, by decide, by decide, gr_nil, z.tb, fun H34 x34 tb34 => ?_⟩
    replace z := z.ext x34 tb34
    refine ⟨true, rfl, iteT ?_⟩
    refine ⟨_, rfl, _, rfl, fun p35 np35 => ?_⟩
    have e35 := upd_same (H := H34) (a := p35) (o := HO.dK [])
    generalize upd H34 p35 (.dK []) = H35 at e35 ⊢
    refine fun b36 dx36 hb36 hdx36 ne36 => ?_
    refine ⟨b36, p35, dx36, c, [], rfl, upd_same, hck, made_dict e35 hb36 hdx36, (vt_nil c 0).mono (by decide) (by decide), fun H36 k36 hB36 => ⟨rfl, ?_⟩⟩
    obtain ⟨M5, K5, hM5, hK5, v0⟩ : ∃ M5 K5 : Nat, M5 ≤ 5 ∧ K5 ≤ 5 ∧ VT c M5 K5 ([] : Tb) := ⟨0, 0, by decide, by decide, vt_nil c 0⟩
    have o0 : OverT zz.cps.toList 0 [] := ⟨(fun p hp => by cases hp), (fun p hp => by cases hp)⟩
    refine ⟨b36, c, zz, M5, K5, 0, [], rfl, ⟨hB36, v0⟩, hck, hzz, o0, by decide, by omega, by omega, fun H37 x37 s37 hopt => ?_⟩
    generalize (1 + K5) + (1 + K5) * ((max 0 M5 + 1) * ((1 + 3) + 1)) = K6 at hopt
    rcases Or.symm hopt with ⟨r37, q37, rfl, _, lq37⟩ | ⟨rfl, _⟩
    · have hf := full_of_quot hc2 v0.nd hzz.nd hzz.ne o0 lq37 [] (fun b hb => by cases hb) rfl
      rw [preL_nil] at hf
      have h0 : num [] "" = 0 := rfl
      rw [h0, Int.zero_emod] at hf
      cases hf
    refine ⟨rfl, ?_⟩
    rw [decide_eq_true (rfl : V.non = V.non)]
    exact q _
end
end Fp

set_option Elab.async false
set_option linter.all false
set_option maxRecDepth 100000
set_option maxHeartbeats 0
namespace Fp
open PySem PySem.Spec PyProof.Rows L2
abbrev R : PySem.W.OpenRow := PySem.W.OpenLaw.row PySem.Challenge.rw_frontparts_k70_whole_beginnings_put_toge
abbrev hk : PySem.W.Hook := He.hookX 5 fa fn [] [("_law_is", none)] ex
def ob (s : PySem.W.SharedT) : He.AlX := He.obsX 5 fa fn [] [("_law_is", none)] ex (HandSHeadRun.getT s)
theorem ob_eq (s : PySem.W.SharedT) : ob s = hk.obs s.abs := He.obsX_eq (HandSHeadRun.getT_eq s)
def loose : List PySem.Str := "__name__" :: "BagError" :: "BadBag" :: "UnlikeClocks" :: "IsNothing" :: "NoAlphabet" :: "NoLetters" :: "CLOCKS" :: "LETTERS" :: "is_integer" :: "is_from_to" :: "is_clock" :: "is_word" :: "INVERSES" :: "inverse" :: "rank_of" :: "first_word" :: "tidied" :: "scaled" :: "added" :: "multiplied" :: "MOST_WORDS" :: "MOST_LETTERS" :: "Bag" :: "are_words" :: "is_short_word" :: "pairs_of" :: "bag_of" :: "table_of" :: "has_only" :: "check_clocks" :: "check_something" :: "together" :: "less" :: "behind" :: "mirrored" :: "reduced" :: "reduce_at" :: "start_of" :: "take_off" :: "divided" :: "rest_behind" :: "rest_ahead" :: "ALPHABETS" :: "is_full" :: "beginnings" :: "check_alphabet" :: "check_over" :: "_law_tape" :: "_law_draw" :: "_law_added" :: "_law_product" :: "_law_is" :: "_law_clock" :: "_law_word" :: "_law_some" :: "_law_flag" :: "_law_grown" :: "_law_code" :: "_law_made" :: "_law_fits" :: "_law_set_in" :: "_law_along" :: []
theorem run_false (w0 : World) : (fun w => HandSHeadRun.RunEqI R (PySem.W.view R.prog [0, 71]) hk ob 20000 loose w) (w0.withFollow "special-get-raises" false) := by
  show HandSHeadRun.RunEqI _ _ _ _ _ _ _
  unfold HandSHeadRun.RunEqI
  kernel_rfl
theorem run_true (w0 : World) : (fun w => HandSHeadRun.RunEqI R (PySem.W.view R.prog [0, 71]) hk ob 20000 loose w) (w0.withFollow "special-get-raises" true) := by
  show HandSHeadRun.RunEqI _ _ _ _ _ _ _
  unfold HandSHeadRun.RunEqI
  kernel_rfl
theorem run (w : World) : HandSHeadRun.RunEqI R (PySem.W.view R.prog [0, 71]) hk ob 20000 loose w := PySem.W.byRow2 "special-get-raises" (P := fun w => HandSHeadRun.RunEqI R (PySem.W.view R.prog [0, 71]) hk ob 20000 loose w) run_false run_true w
theorem top_of {w : World} {h h' : Heap} {K : PySem.W.Frag} {mg : Str → Option Value} (X : K.In h) (G : h.Ns mainGlobals mg) (c : He.SaysX fa fn [] [("_law_is", none)] ex w h' K) : Top K mg := ⟨⟨h, X, G⟩, c.t.d, c.more⟩
end Fp

set_option Elab.async false
set_option linter.all false
set_option maxRecDepth 100000
set_option maxHeartbeats 2000000
namespace LamX
open PySem PySem.Spec PyProof.Rows L2
/-- the end of a law with tables, the written part told by the head -/
theorem walk_ofTE {l : PySem.W.OpenLaw} {n k : Nat} {q : Program} {loose : List Str} {XP : (Str → Option Value) → Heap → Prop} {YP : World → Heap → Prop} {d : DefRec} {CX : CXT} {x : Str}
    (hn : l.most = some n) (hn2 : n ≤ sizeLine) (hdf : d.params.defaults = []) (hr : Room k callerA)
    (F : ∀ (w : World) (mg : Str → Option Value) (fa : Addr) (h : Heap), YP w h → h.Ns mainGlobals mg → mg d.name = some (.ref fa) →
      ∃ K : PySem.W.Frag, K.In h ∧ LawAtS l w K CX k n x mg fa h)
    (hCX : ∀ (H : Hp) (s : Shared) (e : Value) (s' : Shared), CX [] H s (fun _ _ _ => False) e s' → False) :
    PySem.W.WalkO q loose XP YP l.row.toRowW d [] (fun f vs => PySem.call f vs) := by
  refine Att.attach_callB hn hdf fun w s₀ s₁ mg mb fa o pm cd doc a vs ns G Y ho hd hcd hmg hobj hints hlen hbits hg => ?_
  obtain ⟨K, KX, fd, cs, sp, hT, nT, C, hb, hsp, hF⟩ := F w mg fa _ Y G.T.g hmg
  exact law_callTs KX G.T.g G.T.b G.T.builtins G.T.nolimit hg hT nT C G.T.bmain hobj hints (Nat.le_trans hlen hn2) hr hF hb (fun H hH hS => hsp H a ns hlen hbits hH hS) fun H e s' => hCX H s₁ e s'
end LamX

set_option Elab.async false
set_option linter.all false
set_option maxRecDepth 100000
set_option maxHeartbeats 8000000
open PySem PySem.W PySem.Calls PyProof.Rows
theorem PySem.Challenge.cw_frontparts_k70_whole_beginnings_put_toge_holds : PySem.Challenge.rw_frontparts_k70_whole_beginnings_put_toge.Holds := by
  w_on; o_law
  refine HandSHeadRun.head_imp (r := OpenLaw.row PySem.Challenge.rw_frontparts_k70_whole_beginnings_put_toge) (q := view (OpenLaw.row PySem.Challenge.rw_frontparts_k70_whole_beginnings_put_toge).prog [0, 71]) (H := Fp.hk) (ob := Fp.ob) (M := 20000) (loose := Fp.loose) (d := HandSHeadRun.topDef (OpenLaw.row PySem.Challenge.rw_frontparts_k70_whole_beginnings_put_toge).prog 71) (kwd := []) Fp.ob_eq
    Fp.run (by kernel_rfl) (by kernel_rfl) (by kernel_rfl) (by rfl) (by first | assumption | decide +kernel) (by decide +kernel) ⟨rfl, rfl, rfl, rfl, rfl, by decide +kernel⟩ ?hw ?hc
  case hw => w_witness2
  case hc =>
    refine LamX.walk_ofTE (l := PySem.Challenge.rw_frontparts_k70_whole_beginnings_put_toge) (n := 63) (k := 12) (x := "_law_script") (CX := L2.CX0) rfl (by decide) (by kernel_rfl) ⟨rfl, by decide, by decide⟩ ?F (fun _ _ _ _ z => z)
    intro w mg fa h Y G hmg0
    obtain ⟨K, KX, c⟩ := Y
    have hmg : mg ("law" : PySem.Str) = some (.ref fa) := by
      have e : (HandSHeadRun.topDef (OpenLaw.row PySem.Challenge.rw_frontparts_k70_whole_beginnings_put_toge).prog 71).name = ("law" : PySem.Str) := by kernel_rfl
      rw [← e]
      exact hmg0
    have T := Fp.top_of KX G c
    obtain ⟨fd, F⟩ := Fp.fn_law T
    have e := hmg.symm.trans (Fp.g_law T)
    cases e
    have b := L2.FunD.bindsA (ps := ["_law_script"]) F fun _ _ _ _ _ _ us hl => match us, hl with | [_], _ => rfl
    exact ⟨K, KX, fd, [He.cT K Fp.dIs], Fp.spLaw K, fun p hp => by
      rw [List.mem_singleton.mp hp]
      exact c.empty _ (List.mem_singleton.mpr rfl), fun p hp => by
      rw [List.mem_singleton.mp hp]
      exact c.out _ (List.mem_singleton.mpr rfl), fun p hp => by
      rw [List.mem_singleton.mp hp]
      exact PySem.W.codeHd_of_K KX (c.hd _ (List.mem_singleton.mpr rfl)), fun s v => b s [v] rfl, fun H a ns hl _ hP hS => ⟨a, ns, rfl, hP _ (List.mem_singleton.mpr rfl), hS, fun _ => rfl⟩, fun base _ _ TB => Fp.ok_law T (TB _ (List.mem_singleton.mpr rfl)) F⟩
