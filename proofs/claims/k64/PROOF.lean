import PyProof.Rows.All
import Wide.All
import OpenK.AllK
import Wide.FinOn
import HandS.ForMost
import HandS.More
import HandS.OwnEq
import HandS.IsInst
import HandS.WordsExc
import HandS.Defaults
import HandS.SortKw
import KE.SortData
import KE.SortKeyHeap
import HandS.StrMore
import HandS.Walk
import HandS.Style
import KE.KDictPairs
import HandS.HeadHook1
import HandS.HeadHook2
import HandS.HeadHook3
import HandS.HeadHook4
import Wide.Once
import KE.KStateDown
import Lean
import HandS.Head0
import HandS.Head1
import HandS.Head2
import HandS.Head3
import HandS.HeadEnd
import KE.DataEq
import HandS.DictComp
import HandS.ForExc
import KE.DataCmp
import KE.DataMinKey
import HandS.Gcd
import HandS.TryOnly
import KE.KRevSl
import PyProof.ReprRoads
import HandS.TupAny
import PyProof.ReprLen
import PySem.Challenge.RW_frontparts_k64_whole_sums_of_powers
set_option Elab.async false
set_option linter.all false
set_option maxRecDepth 100000
set_option maxHeartbeats 2000000
/-! == and != of an instance by an own __eq__, whatever stands at the right -/
namespace Fp
open PySem PySem.Spec PyProof.Rows PySem.SeqAt
section
variable {M : Model} {prog : Program} {w : World} {A : Around} {E : Value → Shared → Prop} {s : Shared} {K : PySem.W.Frag} {x C f : Addr} {ox : Obj} {od : Option Obj} {b tb : Value}
theorem ifBound_objNe {args : List Value} {Q : Option Value → Shared → Prop} (X : K.In s.heap) (I : PySem.W.InstAt s.heap x ox C od) (hs : PySem.W.findIn K (.ref C) "__ne__" = some (some (.builtin "object.__ne__")))
    (h : wpAny M A (call (.builtin "object.__ne__") (.ref x :: args)) (fun v => Q (some v)) E s) : wpAny M A (callSpecialIfBound? (.ref x) "__ne__" args) Q E s := by
  simp only [callSpecialIfBound?, bindSpecialIfBound?]
  refine wpAny_holding (wpAny_bind (wpAny_bind (wpAny_bind (I.type.here ((PySem.W.looks_findIn X hs).here ?_)))))
  refine wpAny_bind (wpAny_askSetting (wpAny_ite ?_))
  have fin : wpAny M A (call (.builtin "object.__ne__") ([.ref x] ++ args) >>= fun v => pure (some v)) Q E s := wpAny_bind (wpAny_mono h (fun v s' h' => wpAny_pure h') fun _ _ h' => h')
  split
  · exact wpAny_bind (wpAny_of_eq (F.cmp_object.ne.bind _) (wpAny_pure (by exact fin)))
  · exact wpAny_tryCatch (wpAny_bind (wpAny_of_eq (F.cmp_object.ne.bind _) (wpAny_pure (by exact fin))))
theorem entry_ne {Q : Fin → Shared → Prop} (hu : A.units < cLine) (X : K.In s.heap) (I : PySem.W.InstAt s.heap x ox C od) (hs : PySem.W.findIn K (.ref C) "__eq__" = some (some (.ref f))) (hf : PySem.W.isFn K (.ref f) = true)
    (hcall : wpAny (model prog w) A (call (.ref f) [.ref x, b]) (fun v s' => ∃ r, v = .bool r ∧ Q (.done (.ret (.bool (!r)))) s') E s) :
    wpAny (model prog w) A (Builtin.«object.__ne__» ⟨[.ref x, b], []⟩) Q E s := by
  unfold Builtin.«object.__ne__»
  repeat (first
    | with_reducible refine wpAny_cRoomFor hu ?_
    | (refine wpAny_bind (m := callSpecialIfBound? (.ref x) (Str.ofString "__eq__") [b])
        (PySem.W.ifBound_K X I hs hf (wpAny_mono hcall (fun r s' hr => by
          obtain ⟨b, rfl, hq⟩ := hr
          repeat (first | exact hq | exact wpAny_pure hq | exact wpAny_truthy_bool hq | (refine wpAny_bind (m := truthy (.bool _)) (wpAny_truthy_bool ?_)) | wp_step)) fun _ _ e => e)))
    | wp_step)
theorem cmpNe_K {Q : Value → Shared → Prop} (hu : A.units + 1 < cLine) (X : K.In s.heap) (I : PySem.W.InstAt s.heap x ox C od) (hb : PySem.W.Looks (model prog w) s.heap (typeOf b) tb) (hn : PySem.W.notFirst K C tb = true)
    (hne : PySem.W.findIn K (.ref C) "__ne__" = some (some (.builtin "object.__ne__"))) (hs : PySem.W.findIn K (.ref C) "__eq__" = some (some (.ref f))) (hf : PySem.W.isFn K (.ref f) = true) (hm : PySem.W.mroIn K C (.type "object") = some true)
    (h : wpAny (model prog w) A.in1 (call (.ref f) [.ref x, b]) (fun v s' => ∃ r, v = .bool r ∧ Q (.bool (!r)) s') E s) : wpAny (model prog w) A (richCompare .NotEq (.ref x) b) Q E s := by
  have one : wpAny (model prog w) A (tryCompare (.ref x) "__ne__" b) (fun r s' => ∃ v, r = some v ∧ Q v s') E s := by
    unfold tryCompare
    refine wpAny_bind (ifBound_objNe X I hne ?_)
    refine wpAny_call (codeAny_call_builtin F.cmp_object.ne.plain F.cmpEntry_ne (PySem.W.check_slot F.cmpKind_ne F.cmpSplit_ne (I.type.andThen (PySem.W.looks_mroIn X hm)) (F.cmpArgs_ne _ _)
      (entry_ne (A := A.in1) (show A.in1.units < cLine from hu) X I hs hf (wpAny_mono h (fun v s' hv => ?_) fun _ _ e => e))))
    obtain ⟨r, rfl, hq⟩ := hv
    exact ⟨r, rfl, wpAny_pure ⟨_, rfl, hq⟩⟩
  unfold richCompare
  simp only [oneThing_ref]
  refine wpAny_holding (wpAny_bind (wpAny_cRoomFor (Nat.lt_of_succ_lt hu) ?_))
  rw [show cmpInfo .NotEq = (("!=", "__ne__", "__ne__") : String × Str × Str) from rfl]
  dsimp only
  refine wpAny_bind (I.type.here (wpAny_bind (hb.here ?_)))
  split
  · rename_i q
    have e : PySem.W.subIn K tb (.ref C) = some false := by
      rcases Bool.or_eq_true_iff.mp hn with e | e
      · rw [beq_iff_eq.mp e] at q; simp at q
      · exact beq_iff_eq.mp e
    refine wpAny_bind ((PySem.W.looks_subIn X e).here ?_)
    simp only [Bool.false_eq_true, if_false]
    refine wpAny_bind (wpAny_mono one (fun r s' z => ?_) fun _ _ e => e)
    obtain ⟨v, rfl, hq⟩ := z
    exact wpAny_pure hq
  · refine wpAny_bind (wpAny_pure ?_)
    simp only [Bool.false_eq_true, if_false]
    refine wpAny_bind (wpAny_mono one (fun r s' z => ?_) fun _ _ e => e)
    obtain ⟨v, rfl, hq⟩ := z
    exact wpAny_pure hq
end
end Fp
namespace L2
open PySem PySem.Spec PyProof.Rows
def rOwnEq (K : PySem.W.Frag) (C : Addr) (sp : Sp) : R2 := fun x y H Q => ∃ a dx fs t, x = .ref a ∧ H a = some (.ins C dx fs) ∧ TyX K H y t ∧ PySem.W.notFirst K C t = true ∧ sp [x, y] H (fun v H' => ∃ r, v = .bl r ∧ Q (.bl r) H') (fun _ _ _ => False)
def rOwnNe (K : PySem.W.Frag) (C : Addr) (sp : Sp) : R2 := fun x y H Q => ∃ a dx fs t, x = .ref a ∧ H a = some (.ins C dx fs) ∧ TyX K H y t ∧ PySem.W.notFirst K C t = true ∧ sp [x, y] H (fun v H' => ∃ r, v = .bl r ∧ Q (.bl (!r)) H') (fun _ _ _ => False)
section
variable {X : Cx} {C f : Addr} {fd : FuncData} {ps : List Str} {sp : Sp} {n : Nat}
theorem op_ownEq (F : FnOk X.prog X.w X.K X.mg X.base CX0 n f fd ps sp) (hs : PySem.W.findIn X.K (.ref C) "__eq__" = some (some (.ref f))) (hf : PySem.W.isFn X.K (.ref f) = true) (hb : Binds X.K fd ps []) (hr : Room n X.A) :
    OpR X (compareOp .Eq) (rOwnEq X.K C sp) := by
  intro pins s σ H x y v u Q I rx ry hq
  obtain ⟨a, dx, fs, t, rfl, ha, ty, hn, hsp⟩ := hq
  cases rx
  obtain ⟨mA, J, _⟩ := ins_get I.hok ha
  obtain ⟨od, J, _⟩ := J.look
  obtain ⟨P, Z, p, _⟩ := kit_of I ry ty
  obtain ⟨m, hF⟩ := I.fr
  show wpAny (model X.prog X.w) X.A (richCompare .Eq _ u) (EP X pins σ Q) X.xe s
  refine PySem.W.cmp_K (op := .Eq) (tb := t) hr.units0 hF I.ok.mod.kin J (Z.ty _ _ I.kIn p) hn hs hf ?_
  have hl := F.len _ _ _ _ hsp
  have r2 : Vals [V.ref a, y] [Value.ref a, u] := .cons rfl (.cons ry .nil)
  refine wpAny_call (codeAny_mono (F.run X.A X.stack s H ⟨[.ref a, u], []⟩ [.ref a, u] [.ref a, y] _ (fun _ _ _ => False) hr I.env0 (by
    have := hb s [.ref a, u] I.kIn (by simpa using hl)
    simpa using this) r2 hsp) fun r s' hq => ?_)
  cases r with
  | error e => exact pass0 pins σ H s e s' I hq
  | ok fl =>
    cases fl with
    | ret w =>
      obtain ⟨z, H', I', rz, r, ez, q⟩ := I.after hq
      subst ez
      cases rz
      exact ⟨.bl r, H', I', rfl, q⟩
    | next => exact False.elim hq
    | brk => exact False.elim hq
    | cont => exact False.elim hq
theorem op_ownNe (F : FnOk X.prog X.w X.K X.mg X.base CX0 n f fd ps sp) (hne : PySem.W.findIn X.K (.ref C) "__ne__" = some (some (.builtin "object.__ne__"))) (hs : PySem.W.findIn X.K (.ref C) "__eq__" = some (some (.ref f))) (hf : PySem.W.isFn X.K (.ref f) = true)
    (hm : PySem.W.mroIn X.K C (.type "object") = some true) (hb : Binds X.K fd ps []) (hr : Room (n + 1) X.A) :
    OpR X (compareOp .NotEq) (rOwnNe X.K C sp) := by
  intro pins s σ H x y v u Q I rx ry hq
  obtain ⟨a, dx, fs, t, rfl, ha, ty, hn, hsp⟩ := hq
  cases rx
  obtain ⟨mA, J, _⟩ := ins_get I.hok ha
  obtain ⟨od, J, _⟩ := J.look
  obtain ⟨P, Z, p, _⟩ := kit_of I ry ty
  show wpAny (model X.prog X.w) X.A (richCompare .NotEq _ u) (EP X pins σ Q) X.xe s
  have hu : X.A.units + 1 < cLine := hr.in1.units0
  refine Fp.cmpNe_K (tb := t) hu I.kIn J (Z.ty _ _ I.kIn p) hn hne hs hf hm ?_
  have hl := F.len _ _ _ _ hsp
  have r2 : Vals [V.ref a, y] [Value.ref a, u] := .cons rfl (.cons ry .nil)
  refine wpAny_call (codeAny_mono (F.run X.A.in1 X.stack s H ⟨[.ref a, u], []⟩ [.ref a, u] [.ref a, y] _ (fun _ _ _ => False) hr.in1 I.env0.in1 (by
    have := hb s [.ref a, u] I.kIn (by simpa using hl)
    simpa using this) r2 hsp) fun r s' hq => ?_)
  cases r with
  | error e => exact pass0 pins σ H s e s' I hq
  | ok fl =>
    cases fl with
    | ret w =>
      obtain ⟨z, H', I', rz, r, ez, q⟩ := I.after hq
      subst ez
      cases rz
      exact ⟨r, rfl, .bl (!r), H', I', rfl, q⟩
    | next => exact False.elim hq
    | brk => exact False.elim hq
    | cont => exact False.elim hq
end
end L2

set_option Elab.async false
set_option linter.all false
set_option maxRecDepth 100000
set_option maxHeartbeats 2000000
/-! sorted(d, key=rank_of) of a dict of texts; sorted of tuples of an int and a text -/
namespace Fp
open PySem PySem.W PySem.Spec PyProof.Rows
/-- a word's rank -/
def rk (w : Str) : PyData := .tuple [.int (-(w.length : Int)), .str w]
def leR : Str → Str → Bool := dataLe false rk
def rkA (p : Pos) : Arguments := { posonlyargs := [], args := [{ arg := "word", annotation := none, pos := p }], vararg := none, kwonlyargs := [], kw_defaults := [], kwarg := none, defaults := [] }
def rkB (p1 p2 p3 p4 p5 p6 p7 : Pos) : List Stmt := [.Return (some (.Tuple [.UnaryOp .USub (.Call (.Name "len" p1) [.Name "word" p2] [] p3) p4, .Name "word" p5] 0 p6)) p7]
def rkS : Scope := { kind := .function, names := [(PySem.Str.ofString "word", .local), (PySem.Str.ofString "len", .globalImplicit)], isGenerator := false, isCoroutine := false, more := [] }
theorem ldC {M : Model} {s : Shared} {name : Str} {scope : Scope} {L a : Addr} {cd : Value} {m : Str → Option Value} {x : Str} {pos : Pos} {v : Value} {Q : Value → Shared → Prop} {A : Around} {E : Value → Shared → Prop} (hn : s.heap.Ns L m) (hv : m x = some v) (h : Q v s)
    (hk : scope.kind = .function := by rfl) (hl : (envOfC name scope L a cd).kindOf x = some .local := by rfl) (hd : (x == ("__debug__" : Str)) = false := by decide) :
    wpAny M A (eval (.Name x pos) (envOfC name scope L a cd)) Q E s := wpAny_Name (wpAny_loadName_local hk hl hn hv h) hd
section
variable {prog : Program} {w : World} {A : Around} {E : Value → Shared → Prop} {s : Shared} {K : Frag} {mg : Str → Option Value} {base : Heap} {fR : Addr} {fd : FuncData} {p0 p1 p2 p3 p4 p5 p6 p7 : Pos}
theorem rank_call (F : L2.FunD K "rank_of" "rank_of" (rkA p0) (rkB p1 p2 p3 p4 p5 p6 p7) rkS [] [] fR fd) (Mo : L2.Mod K mg base) (kb : ∀ b o, base.get? b = some o → s.heap.get? b = some o) (hlen : mg "len" = none) (hroom : A.depth + 1 < recursionLimit)
    {w0 : Str} {t : Tok} (hw : w0.length ≤ sizeLine) : wpAny (model prog w) A (call (.ref fR) [.str w0 t]) (KeyPure (rk w0) s) E s := by
  obtain ⟨oc, od, dV, kV, doc, pm, an, cdv, ct, osl, rfl, lk, hcd, hD, _⟩ := F.ex
  obtain rfl : dV = .none := by
    rcases hD with ⟨_, e⟩ | ⟨e, _⟩
    · exact e
    · exact absurd rfl e
  have X : K.In s.heap := Mo.kin.keeps kb
  refine wpAny_call (Att.call_fn (binds := [("word", .str w0 t)]) X (Mo.nolimit.keeps kb) lk hcd (Nat.lt_of_succ_lt hroom) (BindsTo.of_eq (by first | rfl | with_unfolding_all rfl)) (by first | rfl | decide | with_unfolding_all rfl) (fun s₁ IC => ?_) rfl rfl rfl)
  obtain ⟨h₁, tk₁, rfl⟩ := IC.toInCall.same
  have k : ∀ b o, s.heap.get? b = some o → h₁.get? b = some o := IC.toInCall.keep
  have hn := IC.toInCall.ns
  obtain ⟨mb, b1, b2⟩ := Mo.blt
  show wpAny _ _ (execs _ _) _ _ _
  refine wpAny_execs_cons (wpAny_Return_some (wpAny_Tuple_spliced ?_))
  show wpAny _ _ (spliced ((false, eval _ _) :: backTo p6 (starEach [_] _))) _ _ _
  refine Calls.spliced_cons (wpAny_UnaryOp ?_)
  refine wpAny_Call_Name_kw (Calls.Name_function_global rfl rfl (Calls.loadGlobal_builtin (Mo.glob.keeps fun b o e => k b o (kb b o e)) hlen (b1.keeps fun b o e => k b o (kb b o e)) ((b2 "len" (by decide)).trans boot_len) ?_) (by decide))
  refine callWith_builtin1 (spliced_more (ldC (v := .str w0 t) hn (by first | rfl | with_unfolding_all rfl | kernel_rfl) (spliced_none ?_))) rfl rfl
  have hs : sizeLine = 16777216 := sizeLine_eq
  have hl63 := L2.line63
  refine len_str (by omega) (neg_int ?_)
  show wpAny _ _ (spliced ((false, eval _ _) :: backTo p6 (starEach [] _))) _ _ _
  refine Calls.spliced_cons (ldC (v := .str w0 t) hn (by first | rfl | with_unfolding_all rfl | kernel_rfl) (Calls.spliced_nil ?_))
  refine ⟨by show 2 ≤ sizeLine; rw [sizeLine_eq]; decide, ?_⟩
  refine ⟨_, _, rfl, fun b o e => Heap.get?_push_of_some _ (k b o e), ?_⟩
  exact Reads.tuple (Heap.get?_push_size _ rfl) rfl rfl (by
    first
    | exact ReadsAll.cons (Reads.int _ _) (ReadsAll.cons (Reads.str _ _) ReadsAll.nil)
    | (have := ReadsAll.cons (h := Heap.push h₁ _) (Reads.int (-(w0.length : Int)) _) (ReadsAll.cons (Reads.str w0 t) ReadsAll.nil); simpa using this))
end
theorem alike_rk (a b : Str) : alike (rk a) (rk b) = true := by simp [rk, alike, alikeAll]
theorem rk_all (ws : List Str) : AllAlike (ws.map rk) := AllAlike.of alike_rk
theorem rk_sortable (ws : List Str) : Sortable (ws.map rk) := Sortable.tuples fun _ => ⟨_, _, rfl⟩
theorem rk_depth (w : Str) : (rk w).depth ≤ 2 := by simp [rk, PyData.depth, PyData.depthAll]
theorem vals_strs : ∀ {us : List Value} {ws : List Str}, EachIs (fun v w => ∃ t, v = Value.str w t) us ws → L2.Vals (ws.map L2.V.str) us
  | _, _, .nil => .nil
  | _, _, .cons h t => .cons h (vals_strs t)
theorem strs_each : ∀ {us : List Value} {ks : List Str}, us.length = ks.length → (∀ (j : Nat) (v : Value), us[j]? = some v → ∃ (x : Str) (t : Tok), ks[j]? = some x ∧ v = Value.str x t) → EachIs (fun v w => ∃ t, v = Value.str w t) us ks
  | [], [], _, _ => .nil
  | u :: us, k :: ks, hl, h => by
    obtain ⟨x, t, e1, e2⟩ := h 0 u rfl
    have e1' : k = x := Option.some.inj e1
    subst e1'
    refine .cons ⟨t, e2⟩ (strs_each (by simpa using hl) fun j v e => ?_)
    obtain ⟨x, t, a, b⟩ := h (j + 1) v (by simpa using e)
    exact ⟨x, t, by simpa using a, b⟩
  | [], _ :: _, hl, _ => by simp at hl
  | _ :: _, [], hl, _ => by simp at hl
/-- a pair of an int and a text, at an address -/
abbrev IS : Type := Addr × Int × Str
def enIS (p : IS) : PyData := .tuple [.int p.2.1, .str p.2.2]
def leIS : IS → IS → Bool := dataLe false enIS
theorem is_all (ws : List IS) : AllAlike (ws.map enIS) := AllAlike.of fun a b => by simp [enIS, alike, alikeAll]
theorem is_sortable (ws : List IS) : Sortable (ws.map enIS) := Sortable.tuples fun _ => ⟨_, _, rfl⟩
theorem is_depth (w : IS) : (enIS w).depth ≤ 2 := by simp [enIS, PyData.depth, PyData.depthAll]
theorem refs_each : ∀ {ps : List IS} {us : List Value}, L2.Vals (ps.map fun p => L2.V.ref p.1) us → EachIs (fun v p => v = Value.ref p.1) us ps
  | [], _, h => by cases h; exact .nil
  | p :: ps, _, h => by
    cases h with
    | cons r t => exact .cons r (refs_each t)
theorem each_refs : ∀ {us : List Value} {ps : List IS}, EachIs (fun v p => v = Value.ref p.1) us ps → L2.Vals (ps.map fun p => L2.V.ref p.1) us
  | _, _, .nil => .nil
  | _, _, .cons h t => .cons h (each_refs t)
end Fp
namespace L2
open PySem PySem.Spec PyProof.Rows
def rSortRk (fR : Addr) : List V → List V → Hp → VK → Prop := fun vs zs H Q => ∃ (a : Addr) (kvs : List (Key × V)) (ws : List Str), vs = [.ref a] ∧ zs = [.ref fR] ∧ Rd H a (.dK kvs) ∧ kvs.map (·.1) = ws.map Sum.inr ∧ (∀ w ∈ ws, w.length ≤ sizeLine) ∧
  ∀ p, H p = none → Q (.ref p) (upd H p (.lst ((ws.mergeSort Fp.leR).map V.str)))
section
variable {X : Cx} {fR : Addr} {fd : FuncData} {p0 p1 p2 p3 p4 p5 p6 p7 : Pos}
/-- sorted(d, key=rank_of) -/
theorem cr_sortRk (hcalm : X.calm = true) (F : FunD X.K "rank_of" "rank_of" (Fp.rkA p0) (Fp.rkB p1 p2 p3 p4 p5 p6 p7) Fp.rkS [] [] fR fd) (hlen : X.mg "len" = none) (hr : Room 1 X.A) : CallRK X (.builtin "sorted") [Str.ofString "key"] (rSortRk fR) := by
  intro pins s σ H vs zs us ws Q I r rz h
  obtain ⟨a, kvs, ks, rfl, rfl, hd, hks, hwl, q⟩ := h
  obtain rfl := Vals.ref1 r
  obtain ⟨w1, rfl, e1⟩ := vals1 rz
  obtain rfl : w1 = Value.ref fR := e1
  obtain ⟨z, lo, vs, rel, dd⟩ := dk_rd I.hok hd
  obtain ⟨ep, hat⟩ := dd.dictAt
  have hkeys : vs.map (·.1) = ks.map Sum.inr := rel.keys.symm.trans hks
  have hl : vs.length = ks.length := by
    have e := congrArg List.length hkeys
    rw [List.length_map, List.length_map] at e
    exact e
  have hlk : kvs.length = ks.length := by
    have e := congrArg List.length hks
    rw [List.length_map, List.length_map] at e
    exact e
  have h16 : vs.length ≤ sizeLine := by rw [hl, ← hlk]; exact z
  refine PyProof.Rows.call_function_entry_kw PyProof.Rows.kind_sorted PyProof.Rows.plain_sorted PyProof.Rows.entry_sorted (PyProof.Rows.ksk_s1 _ _) ?_
  unfold Builtin.«sorted»
  refine wpAny_bind (m := checkCount "sorted" 1 1 _) (wpAny_pure ?_)
  refine wpAny_bind (PySem.W.kdu_collect (A := X.A.in1) (PySem.W.kdl_dict (knd := mixKind X.prog X.w) (kvs := vs) (ep := ep) lo) (I.ok.hd hcalm) hat h16 fun h' tk acc hk hacc => ?_)
  have hal : acc.toList.length = ks.length := by rw [Array.length_toList, hacc.1, hl]
  have hS : PySem.W.EachIs (fun v w => ∃ t, v = Value.str w t) acc.toList ks := Fp.strs_each hal fun j v e => by
    obtain ⟨k, x, e1, e2⟩ := hacc.2 j v (by rw [← Array.getElem?_toList]; exact e)
    have e3 : (vs.map (·.1))[j]? = some k := by rw [List.getElem?_map, e1]; all_goals rfl
    rw [hkeys, List.getElem?_map] at e3
    cases e4 : ks[j]? with
    | none => rw [e4] at e3; cases e3
    | some y =>
      rw [e4] at e3
      have e5 : Sum.inr y = k := Option.some.inj e3
      subst e5
      obtain ⟨t, ev⟩ := Value.isStrOf_shape (x := y) (v := v) e2
      exact ⟨y, t, rfl, ev⟩
  have I1 : Inv X pins σ H { s with heap := h', toks := tk } := I.kept hk
  refine wpAny_bind (wpAny_newList ?_ (by rw [hal, ← hlk]; exact z))
  have hoL : (h'.push (seqObj "list" acc.toList.toArray 0)).get? h'.objs.size = some (seqObj "list" acc.toList.toArray 0) := Heap.get?_push_size _ rfl
  show wpAny _ _ _ _ _ { s with heap := h'.push (seqObj "list" acc.toList.toArray 0), toks := tk }
  refine wpAny_bind (wpAny_holding (wpAny_call_entry_kw slot_list_sort ⟨_, hoL, rfl⟩ entry_list_sort ?body (PyProof.Rows.ksk_l1 _ _)))
  case body =>
    show wpAny (model X.prog X.w) X.A.in1.in1 (Builtin.«list.sort» ⟨[.ref h'.objs.size], [(Str.ofString "key", .ref fR)]⟩) _ _ _
    rw [ksk_t1]
    have hun := hr.un
    have hdp := hr.dp
    refine PySem.W.keyH_tree (kz := ks.map Fp.rk) (s := { s with heap := h'.push (seqObj "list" acc.toList.toArray 0), toks := tk }) hoL (by rw [List.length_map]; exact hal.symm) (by rw [hal, ← hlk]; exact z) (Fp.rk_all ks) (Fp.rk_sortable ks)
      (fun d hd => by
        obtain ⟨w, _, rfl⟩ := List.mem_map.mp hd
        have := Fp.rk_depth w
        show X.A.units + 1 + 1 + _ < _
        omega)
      (PySem.W.keyH_turns (s := { s with heap := h'.push (seqObj "list" acc.toList.toArray 0), toks := tk }) hS fun v x hR hx h tk2 kp => ?_) fun h2 tk2 out c kp hD ko => ⟨_, rfl, ?_⟩
    · obtain ⟨t, rfl⟩ := hR
      refine Fp.rank_call (s := { s with heap := h, toks := tk2 }) F I.ok.mod (fun b o e => ?_) hlen ?_ (hwl x hx)
      · have e1 : s.heap.get? b = some o := I.bk b o e
        have e2 : h'.get? b = some o := hk b o e1
        exact kp b o (Nat.ne_of_lt (Heap.lt_size e2)) (Heap.get?_push_of_some _ e2)
      · show X.A.depth + 1 < _
        omega
    · have ev := PySem.W.keyedOut_each Fp.rk ko hS
      have hlen2 : ((ks.mergeSort Fp.leR).map V.str).length ≤ sizeLine := by
        rw [List.length_map, List.length_mergeSort, ← hlk]
        exact z
      refine wpAny_pure ⟨_, rfl, .ref h'.objs.size, upd H h'.objs.size (.lst ((ks.mergeSort Fp.leR).map V.str)), I1.laid (t' := tk2) (fun b u e => kp b u (Nat.ne_of_lt (Heap.lt_size e)) (Heap.get?_push_of_some _ e)) (Nat.le_refl _)
        (show ObjOk X.prog X.w _ _ _ (.lst ((ks.mergeSort Fp.leR).map V.str)) from ⟨hlen2, out, c, Fp.vals_strs ev, hD⟩), rfl, q _ (I1.hok.fresh (Nat.le_refl _))⟩
/-- sorted(xs), xs a list of pairs of an int and a text -/
def rSortIS (K : PySem.W.Frag) : List V → Hp → VK → Prop := fun vs H Q => ∃ (a : Addr) (ps : List Fp.IS), vs = [.ref a] ∧ SqL K H a (ps.map fun p => V.ref p.1) ∧ (∀ p ∈ ps, H p.1 = some (.tup [.int p.2.1, .str p.2.2])) ∧
  ∀ p, H p = none → Q (.ref p) (upd H p (.lst ((ps.mergeSort Fp.leIS).map fun p => V.ref p.1)))
theorem cr_sortIS (hr : Room 1 X.A) : CallR X (.builtin "sorted") (rSortIS X.K) := by
  intro pins s σ H vs us Q I r h
  obtain ⟨a, ps, rfl, hs, hp, q⟩ := h
  obtain rfl := Vals.ref1 r
  obtain ⟨its, rv, hl, hz⟩ := I.list hs
  have hE := Fp.refs_each rv
  have hl2 : its.length = ps.length := by rw [← rv.length, List.length_map]
  have hun := hr.un
  have hz2 : ps.length ≤ sizeLine := by rw [List.length_map] at hz; exact hz
  refine PySem.W.sorted_data (enc := Fp.enIS) (bs := ps) hl.isList hE ?_ (Fp.is_all ps) (Fp.is_sortable ps) hz2 (fun b hb => ?_) fun out hlo ho => ?_
  · refine PySem.W.EachIs.of_zip hl2 fun z hz => ?_
    obtain ⟨v, p⟩ := z
    have hv : v = Value.ref p.1 := PySem.W.EachIs.zip hE (v, p) hz
    have hm : p ∈ ps := (List.of_mem_zip hz).2
    obtain ⟨_, its2, r2, o, h1, h2, n, h3⟩ := I.hok _ _ (hp p hm)
    obtain ⟨u1, u2, rfl, ⟨t1, e1⟩, ⟨t2, e2⟩⟩ := vals2 r2
    subst hv e1 e2
    exact ⟨_, Reads.tuple h1 h2 h3 (ReadsAll.cons (Reads.int _ _) (ReadsAll.cons (Reads.str _ _) ReadsAll.nil))⟩
  · have := Fp.is_depth b
    omega
  · obtain ⟨ep, he'⟩ := PyProof.Rows.sortedAll_at s.heap its out.toArray
    have hlen : ((ps.mergeSort Fp.leIS).map fun p => V.ref p.1).length ≤ sizeLine := by
      rw [List.length_map, List.length_mergeSort]
      exact hz2
    exact ⟨.ref _, upd H (s.heap.objs.size + 1) (.lst ((ps.mergeSort Fp.leIS).map fun p => V.ref p.1)), I.laid (t' := s.toks) (fun _ _ => PyProof.Rows.sortedAll_old) (Nat.le_succ _) ⟨hlen, out, ep, Fp.each_refs ho, he'⟩, rfl, q _ (I.hok.fresh (Nat.le_succ _))⟩
end
end L2

set_option Elab.async false
set_option linter.all false
set_option maxRecDepth 100000
set_option maxHeartbeats 2000000
/-! what is shared: a def by its name, heaps, tables of words -/
namespace L2
open PySem PySem.Spec PyProof.Rows
/-- a tuple as tuple() makes it: no dict of its own -/
def PlainTup (o : Obj) : Prop := o.cls = .type "tuple" ∧ o.dict = none ∧ ∃ (its : Array Value) (n : Nat), o.data = .seq its n
section
variable {X : Cx}
/-- tuple(l): a new tuple, its object known -/
theorem call_tupleF : CallR X (.type "tuple") (fun xs H Q => ∃ p ys, xs = [.ref p] ∧ SqL X.K H p ys ∧ ∀ l o, H l = none → PlainTup o → Q (.ref l) (upd H l (.frz o (.tup ys)))) := by
  intro pins s σ H xs us Q I r h
  obtain ⟨p, ys, rfl, hq, q⟩ := h
  obtain ⟨u, rfl, rx⟩ := vals1 r
  cases rx
  obtain ⟨its, r', pl, hz⟩ := I.list hq
  have hlen := r'.length
  refine call_tuple_list pl.isList (fun h' kp => ?_) (by simp only [List.size_toArray] <;> omega)
  have I1 : Inv X pins σ H { s with heap := h' } := I.kept (t' := s.toks) kp
  have I2 : Inv X pins σ (upd H h'.objs.size (.frz { cls := .type "tuple", data := .seq its.toArray } (.tup ys))) { s with heap := h'.push { cls := .type "tuple", data := .seq its.toArray } } :=
    I1.laid (t' := s.toks) (fun b o e => Heap.get?_push_of_some _ e) (Nat.le_refl _) (show ObjOk X.prog X.w _ _ _ (.frz _ (.tup ys)) from ⟨Heap.get?_push_size _ rfl, hz, its, r', IsTup.new _ _⟩)
  exact ⟨.ref h'.objs.size, _, I2, rfl, q _ _ (I1.hok.fresh (Nat.le_refl _)) ⟨rfl, rfl, _, _, rfl⟩⟩
theorem refs_get : ∀ {ps : List Addr} {us : List Value}, Vals (ps.map V.ref) us → us = ps.map Value.ref
  | [], _, h => by cases h; rfl
  | p :: ps, _, h => by
    cases h with
    | cons r t =>
      cases r
      rw [refs_get t] <;> rfl
/-- dict(t), t such a tuple of pairs -/
theorem call_dictPT (hcalm : X.calm = true) : CallR X (.type "dict") (fun xs H Q => ∃ (a : Addr) (o : Obj) (ps : List Addr) (kvs : List (Key × V)), xs = [.ref a] ∧ H a = some (.frz o (.tup (ps.map V.ref))) ∧ PlainTup o ∧ Paired (fun p kv => SqT X.K H p [kV kv.1, kv.2]) ps kvs ∧
    ∀ p, H p = none → Q (.ref p) (upd H p (.dK (mergeK [] kvs)))) := by
  intro pins s σ H xs us Q I r q
  obtain ⟨a, o, ps, kvs, ex, hq, ⟨pc, pd, pits, pn, pdat⟩, hp, q⟩ := q
  subst ex
  obtain ⟨u, eu, rx⟩ := vals1 r
  subst eu
  cases rx
  obtain ⟨ho, hz, its, rv, o2, ho2, hc2, n2, hdat2⟩ := (show ObjOk X.prog X.w H s.heap a (.frz o (.tup (ps.map V.ref))) from I.hok a _ hq)
  rw [ho] at ho2
  cases ho2
  have ei := refs_get rv
  subst ei
  rw [List.length_map] at hz
  obtain ⟨prs, rel, hl, hpr⟩ := pairs_of I hp
  -- the keys' values
  have hks : ∃ us : List Value, us.length = prs.length ∧ ∀ (j : Nat) (q : Key × Value), prs[j]? = some q → ∃ (b : Addr) (u : Value), us[j]? = some u ∧ ps[j]? = some b ∧ IsTup s.heap b #[u, q.2] ∧ keyIs q.1 u = true := by
    have hall : ∀ j : Nat, j < prs.length → ∃ u : Value, ∀ q, prs[j]? = some q → ∃ b, ps[j]? = some b ∧ IsTup s.heap b #[u, q.2] ∧ keyIs q.1 u = true := fun j hj => by
      obtain ⟨b, u, e1, e2, e3⟩ := hpr j prs[j] (List.getElem?_eq_getElem hj)
      refine ⟨u, fun q e => ?_⟩
      rw [List.getElem?_eq_getElem hj] at e
      cases e
      exact ⟨b, e1, e2, e3⟩
    let f : Nat → Value := fun j => if hj : j < prs.length then Classical.choose (hall j hj) else .none
    refine ⟨(List.range prs.length).map f, by simp, fun j q e => ?_⟩
    have hj : j < prs.length := (List.getElem?_eq_some_iff.mp e).1
    have hsp := Classical.choose_spec (hall j hj) q e
    obtain ⟨b, e1, e2, e3⟩ := hsp
    refine ⟨b, f j, by simp [hj], e1, ?_, ?_⟩
    · show IsTup s.heap b #[f j, q.2]
      have : f j = Classical.choose (hall j hj) := dif_pos hj
      rw [this]
      exact e2
    · have : f j = Classical.choose (hall j hj) := dif_pos hj
      rw [this]
      exact e3
  obtain ⟨us, hus, hk⟩ := hks
  let vps : List (Value × Value) := us.zip (prs.map (·.2))
  have hvl : vps.length = prs.length := by simp [vps, hus]
  have hget : ∀ j k v, vps[j]? = some (k, v) → ∃ q : Key × Value, prs[j]? = some q ∧ q.2 = v ∧ us[j]? = some k := fun j k v e => by
    obtain ⟨e1, e2⟩ := List.getElem?_zip_eq_some.mp e
    rw [List.getElem?_map] at e2
    cases e3 : prs[j]? with
    | none => rw [e3] at e2; cases e2
    | some q =>
      rw [e3] at e2
      exact ⟨q, e3, Option.some.inj e2, e1⟩
  refine PySem.call_dict_pairs (knd := mixKind X.prog X.w) (kvs := prs) (PairArg.tuple a (ps.map Value.ref).toArray (fun j => ps.getD j 0) vps) (I.ok.hd hcalm) ⟨⟨o, n2, ho, pc, pd, hdat2⟩, ?_, fun j k v e => ?_⟩ ⟨hvl.symm, fun j k v e => ?_⟩ (by rw [hvl, hl]; exact hz) fun h' tk hd' kp => ?_
  · rw [hvl, hl]
    simp
  · obtain ⟨q, e1, e2, e3⟩ := hget j k v e
    obtain ⟨b, u, f1, f2, f3, f4⟩ := hk j q e1
    rw [e3] at f1
    cases f1
    subst e2
    refine ⟨?_, .inl ?_⟩
    · simp [List.getD, f2]
    · show IsTup s.heap (ps.getD j 0) #[k, q.2]
      rw [show ps.getD j 0 = b by simp [List.getD, f2]]
      exact f3
  · obtain ⟨q, e1, e2, e3⟩ := hget j k v e
    obtain ⟨b, u, f1, f2, f3, f4⟩ := hk j q e1
    rw [e3] at f1
    cases f1
    exact ⟨q.1, by rw [e1, ← e2], f4⟩
  · have hm : (s.heap.objs.size == sysModules) = false := beq_eq_false_iff_ne.mpr (Nat.ne_of_gt I.big)
    have hlen : (mergeK [] kvs).length ≤ sizeLine := by
      refine Nat.le_trans (length_mergeK kvs []) ?_
      rw [List.length_nil, Nat.zero_add, rel.length, hl]
      exact hz
    exact ⟨.ref s.heap.objs.size, upd H s.heap.objs.size (.dK (mergeK [] kvs)), I.laid (t' := tk) (fun b o e => kp b o (by simp) e) (Nat.le_refl _) (show ObjOk X.prog X.w _ _ _ (.dK (mergeK [] kvs)) from ⟨hlen, hm, merged [] prs, KV.merge rel .nil, hd'⟩), rfl, q _ (I.hok.fresh (Nat.le_refl _))⟩
end
end L2
namespace Fp
open PySem PySem.Spec PyProof.Rows L2
/-! ### a def of the top by its name -/
structure Ok (P : Program) (w : World) (K : PySem.W.Frag) (mg : Str → Option Value) (base : Heap) (k : Nat) (x : Str) (ps : List Str) (sp : Sp) : Prop where
  ex : ∃ fd, FnOk P w K mg base CX0 k (He.ga K x) fd ps sp ∧ Binds K fd ps []
  g : mg x = some (.ref (He.ga K x))
  kp : PySem.W.keepIn K (.ref (He.ga K x)) = true
theorem pc {X : Cx} {x : Str} {p pos : Pos} {e : Expr} {es : List Expr} {t : TA} {k : Nat} {ps : List Str} {sp : Sp} (G : Ok X.prog X.w X.K X.mg X.base k x ps sp) (hr : Room k X.A) (ha : PA X (e :: es) t) (hg : Gl X x := by rfl) (hdb : (x == ("__debug__" : Str)) = false := by decide)
    (he : starEach (e :: es) X.env = (false, eval e X.env) :: starEach es X.env := by rfl) (hpl : (backTo pos (starEach es X.env)).any (·.1) = false := by rfl) : PE X (.Call (.Name x p) (e :: es) [] pos) (tCall sp [] E0 t) := by
  obtain ⟨fd, F, b⟩ := G.ex
  exact pe_call F hr hg G.g G.kp b .nil pass0 ha hdb he hpl
theorem Ok.mono {P : Program} {w : World} {K : PySem.W.Frag} {mg : Str → Option Value} {base : Heap} {j k : Nat} {x : Str} {ps : List Str} {sp : Sp} (G : Ok P w K mg base j x ps sp) (h : j ≤ k) : Ok P w K mg base k x ps sp := by
  obtain ⟨fd, F, b⟩ := G.ex
  exact ⟨⟨fd, F.mono h, b⟩, G.g, G.kp⟩
/-! ### heaps -/
/-- all that was tracked stays, but for a -/
def But (a : Addr) (H H' : Hp) : Prop := ∀ b o, H b = some o → b ≠ a → H' b = some o
theorem But.refl (a : Addr) (H : Hp) : But a H H := fun _ _ e _ => e
theorem But.trans {a : Addr} {H H1 H2 : Hp} (x : But a H H1) (y : But a H1 H2) : But a H H2 := fun b o e n => y b o (x b o e n) n
theorem But.of {a : Addr} {H H' : Hp} (s : Same H H') : But a H H' := fun b o e _ => s b o e
theorem But.free {a : Addr} {H H' : Hp} (x : But a H H') (hs : ∃ o, H' a = some o) {l : Addr} (e : H' l = none) : H l = none := by
  cases q : H l with
  | none => rfl
  | some o =>
    by_cases hl : l = a
    · obtain ⟨u, hu⟩ := hs
      rw [hl] at e
      rw [hu] at e
      cases e
    · rw [x l o q hl] at e
      cases e
theorem same_upd {H : Hp} {p : Addr} {o : HO} (h : H p = none) : Same H (upd H p o) := fun b x e => by
  rw [upd_ne (ne_of_none e h)]
  exact e
theorem but_upd {H : Hp} {p : Addr} {o : HO} : But p H (upd H p o) := fun b x e n => by
  rw [upd_ne n]
  exact e
theorem lock_back {H : Hp} {d : Addr} {o u : HO} (h : H d = some o) (e : o = u) : upd (upd H d u) d o = H := by
  subst e
  rw [upd_upd]
  funext b
  by_cases hb : b = d
  · rw [hb, upd_same, h]
  · rw [upd_ne hb]
/-! ### tables: words with numbers, in the order in which they were put in -/
abbrev Tb : Type := List (Str × Int)
def kv (l : Tb) : List (Key × V) := l.map fun p => ((Sum.inr p.1 : Key), V.int p.2)
def num (l : Tb) (x : Str) : Int := ((l.find? fun p => decide (p.1 = x)).map (·.2)).getD 0
def has (l : Tb) (x : Str) : Bool := l.any fun p => decide (p.1 = x)
def putT (l : Tb) (x : Str) (n : Int) : Tb := if has l x then l.map (fun p => if p.1 = x then (p.1, n) else p) else l ++ [(x, n)]
def dropT (l : Tb) (x : Str) : Tb := l.filter fun p => decide (p.1 ≠ x)
theorem kv_len (l : Tb) : (kv l).length = l.length := List.length_map _
theorem kv_keys (l : Tb) : (kv l).map (·.1) = (l.map (·.1)).map Sum.inr := by
  unfold kv
  rw [List.map_map, List.map_map]
  rfl
theorem valV_kv (x : Str) : ∀ l : Tb, valV (kv l) (Sum.inr x : Key) = (l.find? fun p => decide (p.1 = x)).map fun p => V.int p.2
  | [] => rfl
  | p :: r => by
    have ih := valV_kv x r
    by_cases e : p.1 = x
    · rw [List.find?_cons_of_pos (by simpa using e)]
      exact valV_pos (p := ((Sum.inr p.1 : Key), V.int p.2)) (by rw [e])
    · rw [List.find?_cons_of_neg (by simpa using e)]
      exact (valV_neg (p := ((Sum.inr p.1 : Key), V.int p.2)) (fun z => e (Sum.inr.inj z))).trans ih
theorem has_find (l : Tb) (x : Str) : has l x = (l.find? fun p => decide (p.1 = x)).isSome := by
  unfold has
  induction l with
  | nil => rfl
  | cons p r ih =>
    by_cases e : p.1 = x
    · rw [List.find?_cons_of_pos (by simpa using e), List.any_cons]
      simp [e]
    · rw [List.find?_cons_of_neg (by simpa using e), List.any_cons, ih]
      simp [e]
theorem valV_yes {l : Tb} {x : Str} (h : has l x = true) : valV (kv l) (Sum.inr x : Key) = some (.int (num l x)) := by
  rw [valV_kv]
  rw [has_find] at h
  unfold num
  cases e : l.find? fun p => decide (p.1 = x) with
  | none => rw [e] at h; cases h
  | some p => rfl
theorem valV_no {l : Tb} {x : Str} (h : has l x = false) : valV (kv l) (Sum.inr x : Key) = none ∧ num l x = 0 := by
  rw [valV_kv]
  rw [has_find] at h
  unfold num
  cases e : l.find? fun p => decide (p.1 = x) with
  | none => exact ⟨rfl, rfl⟩
  | some p => rw [e] at h; cases h
theorem putK_kv (l : Tb) (x : Str) (n : Int) : putK (kv l) (Sum.inr x : Key) (.int n) = kv (putT l x n) := by
  have ea : ((kv l).any fun q => decide (q.1 = (Sum.inr x : Key))) = has l x := by
    unfold kv has
    rw [List.any_map]
    congr 1
    funext p
    by_cases e : p.1 = x
    · simp [e]
    · simp [e]
  unfold putK putT
  rw [ea]
  cases has l x with
  | true =>
    rw [if_pos rfl, if_pos rfl]
    unfold kv
    rw [List.map_map, List.map_map]
    apply List.map_congr_left
    intro p _
    by_cases e : p.1 = x
    · simp [e]
    · simp [e]
  | false =>
    rw [if_neg Bool.false_ne_true, if_neg Bool.false_ne_true]
    unfold kv
    rw [List.map_append]
    rfl
theorem dropK_kv (l : Tb) (x : Str) : dropK (kv l) (Sum.inr x : Key) = kv (dropT l x) := by
  unfold dropK dropT kv
  rw [List.filter_map]
  congr 1
  apply List.filter_congr
  intro p _
  by_cases e : p.1 = x
  · simp [e]
  · simp [e]
/-- a table of distinct words -/
def Nd (l : Tb) : Prop := (l.map (·.1)).Nodup
theorem has_iff {l : Tb} {x : Str} : has l x = true ↔ x ∈ l.map (·.1) := by
  unfold has
  rw [List.any_eq_true]
  constructor
  · rintro ⟨p, hp, e⟩
    exact List.mem_map.mpr ⟨p, hp, of_decide_eq_true e⟩
  · intro h
    obtain ⟨p, hp, e⟩ := List.mem_map.mp h
    exact ⟨p, hp, decide_eq_true e⟩
theorem putT_keys {l : Tb} {x : Str} {n : Int} : (putT l x n).map (·.1) = if has l x then l.map (·.1) else l.map (·.1) ++ [x] := by
  unfold putT
  cases has l x with
  | true =>
    rw [if_pos rfl, if_pos rfl, List.map_map]
    apply List.map_congr_left
    intro p _
    by_cases e : p.1 = x
    · simp [e]
    · simp [e]
  | false =>
    rw [if_neg Bool.false_ne_true, if_neg Bool.false_ne_true, List.map_append]
    rfl
theorem nd_put {l : Tb} (h : Nd l) (x : Str) (n : Int) : Nd (putT l x n) := by
  unfold Nd
  rw [putT_keys]
  cases e : has l x with
  | true => exact h
  | false =>
    rw [if_neg Bool.false_ne_true, List.nodup_append]
    refine ⟨h, by simp, fun a ha b hb => ?_⟩
    have : b = x := by simpa using hb
    subst this
    rintro rfl
    rw [has_iff.mpr ha] at e
    cases e
theorem nd_drop {l : Tb} (h : Nd l) (x : Str) : Nd (dropT l x) := by
  unfold Nd dropT
  exact (List.Sublist.map _ List.filter_sublist).nodup h
theorem mem_put {l : Tb} {x : Str} {n : Int} {p : Str × Int} (h : p ∈ putT l x n) : p = (x, n) ∨ p ∈ l := by
  unfold putT at h
  cases e : has l x with
  | true =>
    rw [e, if_pos rfl] at h
    obtain ⟨q, hq, e2⟩ := List.mem_map.mp h
    by_cases e3 : q.1 = x
    · rw [if_pos e3, e3] at e2
      exact .inl e2.symm
    · rw [if_neg e3] at e2
      exact .inr (e2 ▸ hq)
  | false =>
    rw [e, if_neg Bool.false_ne_true] at h
    rcases List.mem_append.mp h with h | h
    · exact .inr h
    · exact .inl (by simpa using h)
theorem len_put (l : Tb) (x : Str) (n : Int) : (putT l x n).length ≤ l.length + 1 := by
  unfold putT
  split
  · rw [List.length_map]
    omega
  · rw [List.length_append]
    simp
end Fp

set_option Elab.async false
set_option linter.all false
set_option maxRecDepth 100000
set_option maxHeartbeats 2000000
/-! a written dict from ints to tuples of ints, read: d[k] -/
namespace L2
open PySem PySem.Spec PyProof.Rows
abbrev WTab : Type := List (Int × List Int)
def intsB : List Int → List Value → Bool
  | [], [] => true
  | n :: ns, .int i _ :: vs => decide (i = n) && intsB ns vs
  | _, _ => false
theorem intsB_vals : ∀ (ns : List Int) (vs : List Value), intsB ns vs = true → Vals (ns.map V.int) vs
  | [], [], _ => .nil
  | n :: ns, .int i t :: vs, h => by
    have h' : (decide (i = n) && intsB ns vs) = true := h
    rw [Bool.and_eq_true] at h'
    have e : i = n := of_decide_eq_true h'.1
    subst e
    exact .cons ⟨t, rfl⟩ (intsB_vals ns vs h'.2)
def tupO (K : PySem.W.Frag) (a : Addr) (ns : List Int) : Bool := match K.lookup a with
  | some o => (match o.cls, o.data with
    | .type c, .seq its _ => decide (c = "tuple") && (decide (its.size ≤ sizeLine) && intsB ns its.toList)
    | _, _ => false)
  | none => false
theorem tupO_sq {K : PySem.W.Frag} {a : Addr} {ns : List Int} (h : tupO K a ns = true) (H : Hp) : SqT K H a (ns.map V.int) := by
  unfold tupO at h
  split at h
  · rename_i o ho
    split at h
    · rename_i c its n hc hd
      simp only [Bool.and_eq_true, decide_eq_true_eq] at h
      obtain ⟨h1, h2, h3⟩ := h
      subst h1
      exact .inr ⟨o, its, n, ho, hc, hd, h2, intsB_vals _ _ h3⟩
    · cases h
  · cases h
def entB (K : PySem.W.Frag) : WTab → List DictEntry → Bool
  | [], [] => true
  | p :: r, e :: es => (match e.key, e.val with
    | .int i _, .ref a => decide (i = p.1) && (decide (e.hash = hashInt p.1) && tupO K a p.2)
    | _, _ => false) && entB K r es
  | _, _ => false
def wdB (K : PySem.W.Frag) (a : Addr) (t : WTab) : Bool := match K.lookup a with
  | some o => (match o.cls, o.dict, o.data with
    | .type c, none, .dict es _ => decide (c = "dict") && (decide (o.slots.size = 0) && entB K t es.toList)
    | _, _, _ => false)
  | none => false
theorem entB_pairs {P : Program} {w : World} {K : PySem.W.Frag} : ∀ (t : WTab) (es : List DictEntry), entB K t es = true → ∃ vs : List (Key × Value), Pairs (mixKind P w) es vs ∧ (∀ e ∈ es, ∃ k, (mixKind P w).is k e.key = true ∧ e.hash = (mixKind P w).hash k) ∧
    Paired (fun (p : Int × List Int) (v : Key × Value) => v.1 = Sum.inl p.1 ∧ ∃ b, v.2 = .ref b ∧ tupO K b p.2 = true) t vs
  | [], [], _ => ⟨[], .nil, (fun e he => by cases he), .nil⟩
  | p :: r, e :: es, h => by
    unfold entB at h
    rw [Bool.and_eq_true] at h
    obtain ⟨h1, h2⟩ := h
    obtain ⟨vs, a1, a2, a3⟩ := entB_pairs r es h2
    obtain ⟨eh, ek, ev⟩ := e
    cases ek with
    | int i tk =>
      cases ev with
      | ref a =>
        have h1 : (decide (i = p.1) && (decide (eh = hashInt p.1) && tupO K a p.2)) = true := h1
        simp only [Bool.and_eq_true, decide_eq_true_eq] at h1
        obtain ⟨e1, e2, e3⟩ := h1
        subst e1
        refine ⟨(Sum.inl p.1, .ref a) :: vs, .cons (keyIs_int _ tk) rfl a1, (fun x hx => ?_), .cons ⟨rfl, a, rfl, e3⟩ a3⟩
        rcases List.mem_cons.mp hx with rfl | hx
        · exact ⟨Sum.inl p.1, keyIs_int _ tk, e2⟩
        · exact a2 x hx
      | _ => exact absurd h1 (by simp)
    | _ => exact absurd h1 (by simp)
theorem pairs_find {K : PySem.W.Frag} {t : WTab} {vs : List (Key × Value)} (h : Paired (fun (p : Int × List Int) (v : Key × Value) => v.1 = Sum.inl p.1 ∧ ∃ b, v.2 = .ref b ∧ tupO K b p.2 = true) t vs) (hn : (t.map (·.1)).Nodup) :
    (vs.map (·.1)).Nodup ∧ (∀ v ∈ vs, ∃ p ∈ t, v.1 = Sum.inl p.1) ∧ ∀ p ∈ t, ∃ b, valueAt vs (Sum.inl p.1 : Key) = some (.ref b) ∧ tupO K b p.2 = true := by
  induction h with
  | nil => exact ⟨List.nodup_nil, fun v hv => (by cases hv), fun p hp => (by cases hp)⟩
  | @cons p v t vs e r ih =>
    have hn' : (p.1 :: t.map (·.1)).Nodup := hn
    obtain ⟨n1, n2⟩ := List.nodup_cons.mp hn'
    obtain ⟨i1, i2, i3⟩ := ih n2
    obtain ⟨e1, b, e2, e3⟩ := e
    refine ⟨?_, fun u hu => ?_, fun q hq => ?_⟩
    · rw [List.map_cons, List.nodup_cons]
      refine ⟨fun hm => ?_, i1⟩
      obtain ⟨u, hu, eu⟩ := List.mem_map.mp hm
      obtain ⟨q, hq, eq⟩ := i2 u hu
      have : (Sum.inl q.1 : Key) = Sum.inl p.1 := (eq.symm.trans eu).trans e1
      injection this with this
      exact n1 (this ▸ List.mem_map.mpr ⟨q, hq, rfl⟩)
    · rcases List.mem_cons.mp hu with rfl | hu
      · exact ⟨p, List.mem_cons_self, e1⟩
      · obtain ⟨q, hq, eq⟩ := i2 u hu
        exact ⟨q, List.mem_cons_of_mem _ hq, eq⟩
    · unfold valueAt
      rcases List.mem_cons.mp hq with rfl | hq
      · rw [List.find?_cons_of_pos (by simp [e1])]
        exact ⟨b, by rw [Option.map_some, e2], e3⟩
      · obtain ⟨b', h1, h2⟩ := i3 q hq
        refine ⟨b', ?_, h2⟩
        rw [List.find?_cons_of_neg]
        · exact h1
        · rw [e1]
          intro z
          have z' : (Sum.inl p.1 : Key) = Sum.inl q.1 := of_decide_eq_true z
          injection z' with z'
          exact n1 (z' ▸ List.mem_map.mpr ⟨q, hq, rfl⟩)
/-- d[k], d written -/
def tWD (K : PySem.W.Frag) (t : WTab) (ta tb : TE) : TE := fun σ H Q => ta σ H fun x H1 => tb σ H1 fun y H2 => ∃ (a : Addr) (k : Int) (ns : List Int), x = .ref a ∧ wdB K a t = true ∧ y = .int k ∧ (k, ns) ∈ t ∧ ∀ b, tupO K b ns = true → Q (.ref b) H2
theorem pe_wd {X : Cx} {t : WTab} {o i : Expr} {ta tb : TE} {pos : Pos} (hn : (t.map (·.1)).Nodup) (ho : PE X o ta) (hi : PE X i tb) (hs : NoSl i) : PE X (.Subscript o i pos) (tWD X.K t ta tb) := by
  constructor
  intro pins s σ H Q I h
  refine subD_of PySem.F.slot_dict_getitem.lookup hs (thn (ho.run pins s σ H _ I h) fun u s1 ⟨x, H1, I1, rx, q1⟩ => thn (hi.run pins s1 σ H1 _ I1 q1) fun iv s2 ⟨y, H2, I2, ry, a, k, ns, ex, hw, ey, hm, q2⟩ => ?_)
  subst ex
  subst ey
  cases rx
  obtain ⟨tk, rfl⟩ := ry
  unfold wdB at hw
  split at hw
  · rename_i ob hob
    split at hw
    · rename_i c es ep hc hd hdat
      simp only [Bool.and_eq_true, decide_eq_true_eq] at hw
      obtain ⟨w1, w2, w3⟩ := hw
      subst w1
      obtain ⟨vs, p1, p2, p3⟩ := entB_pairs (P := X.prog) (w := X.w) t es.toList w3
      obtain ⟨f1, f2, f3⟩ := pairs_find p3 hn
      obtain ⟨b, v1, v2⟩ := f3 (k, ns) hm
      have dd : s2.heap.DictOf (mixKind X.prog X.w) a vs := ⟨ob, es, ep, I2.kIn a ob hob, ⟨hc, hd, Array.eq_empty_of_size_eq_zero w2⟩, hdat, fun e he => p2 e (Array.mem_def.mp he), p1, f1⟩
      exact ⟨dd.typeIs, wpAny_getItem_of (knd := mixKind X.prog X.w) (k := (Sum.inl k : Key)) (keyIs_int k tk) dd.mapOf v1 ⟨.ref b, H2, I2.tok _, rfl, q2 b v2⟩⟩
    · cases hw
  · cases hw
end L2

set_option Elab.async false
set_option linter.all false
set_option maxRecDepth 100000
set_option maxHeartbeats 2000000
namespace Fp
open PySem PySem.Spec PyProof.Rows L2
def top (i : Nat) : Stmt := PySem.Challenge.pw_frontparts_k64_whole_sums_of_powers.main.body.getD i (.Pass ⟨0, 0, 0, 0⟩)
abbrev s_is_integer : Stmt := top 11
abbrev s_is_from_to : Stmt := top 12
abbrev s_is_clock : Stmt := top 13
abbrev s_is_word : Stmt := top 14
abbrev s_inverse : Stmt := top 17
abbrev s_rank_of : Stmt := top 18
abbrev s_first_word : Stmt := top 19
abbrev s_tidied : Stmt := top 20
abbrev s_scaled : Stmt := top 21
abbrev s_added : Stmt := top 22
abbrev s_multiplied : Stmt := top 23
abbrev s_Bag__init__ : Stmt := inClass (top 28) 0
abbrev s_Bag__eq__ : Stmt := inClass (top 28) 1
abbrev s_are_words : Stmt := top 29
abbrev s_is_short_word : Stmt := top 30
abbrev s_pairs_of : Stmt := top 31
abbrev s_bag_of : Stmt := top 32
abbrev s_table_of : Stmt := top 33
abbrev s_check_clocks : Stmt := top 34
abbrev s_check_something : Stmt := top 35
abbrev s_together : Stmt := top 36
abbrev s_behind : Stmt := top 37
abbrev s_times : Stmt := top 38
abbrev s_power : Stmt := top 39
abbrev s_length : Stmt := top 40
abbrev s_reduced : Stmt := top 42
abbrev s_reduce_at : Stmt := top 43
abbrev s_start_of : Stmt := top 44
abbrev s_take_off : Stmt := top 45
abbrev s_divided : Stmt := top 46
abbrev s_change_places : Stmt := top 48
abbrev s_check_no_number : Stmt := top 49
abbrev s_in_powers : Stmt := top 50
abbrev s__law_hand : Stmt := top 52
abbrev s__law_draw : Stmt := top 53
abbrev s__law_put : Stmt := top 54
abbrev s__law_plus : Stmt := top 55
abbrev s__law_product : Stmt := top 56
abbrev s__law_order : Stmt := top 57
abbrev s__law_clock : Stmt := top 58
abbrev s__law_word : Stmt := top 59
abbrev s__law_lot : Stmt := top 60
abbrev s__law_powers : Stmt := top 61
abbrev s__law_sum_of : Stmt := top 62
abbrev s__law_size : Stmt := top 63
abbrev s__law_base : Stmt := top 64
abbrev s__law_short : Stmt := top 65
abbrev s__law_taken : Stmt := top 66
abbrev s__law_told : Stmt := top 67
abbrev s__law_sums : Stmt := top 68
abbrev s__law_long : Stmt := top 69
abbrev s_law : Stmt := top 70
abbrev FnP (K : PySem.W.Frag) (x q : Str) (st : Stmt) (f : Addr) (fd : FuncData) : Prop := FunD K x q (defArgs st) (defBody st) (defScope st) [] [] f fd
def d_is_integer : He.DefD := ⟨("is_integer", none), "is_integer", "is_integer", defArgs s_is_integer, defBody s_is_integer, defScope s_is_integer, [], []⟩
def d_is_from_to : He.DefD := ⟨("is_from_to", none), "is_from_to", "is_from_to", defArgs s_is_from_to, defBody s_is_from_to, defScope s_is_from_to, [], []⟩
def d_is_clock : He.DefD := ⟨("is_clock", none), "is_clock", "is_clock", defArgs s_is_clock, defBody s_is_clock, defScope s_is_clock, [], []⟩
def d_is_word : He.DefD := ⟨("is_word", none), "is_word", "is_word", defArgs s_is_word, defBody s_is_word, defScope s_is_word, [], []⟩
def d_inverse : He.DefD := ⟨("inverse", none), "inverse", "inverse", defArgs s_inverse, defBody s_inverse, defScope s_inverse, [], []⟩
def d_rank_of : He.DefD := ⟨("rank_of", none), "rank_of", "rank_of", defArgs s_rank_of, defBody s_rank_of, defScope s_rank_of, [], []⟩
def d_first_word : He.DefD := ⟨("first_word", none), "first_word", "first_word", defArgs s_first_word, defBody s_first_word, defScope s_first_word, [], []⟩
def d_tidied : He.DefD := ⟨("tidied", none), "tidied", "tidied", defArgs s_tidied, defBody s_tidied, defScope s_tidied, [], []⟩
def d_scaled : He.DefD := ⟨("scaled", none), "scaled", "scaled", defArgs s_scaled, defBody s_scaled, defScope s_scaled, [], []⟩
def d_added : He.DefD := ⟨("added", none), "added", "added", defArgs s_added, defBody s_added, defScope s_added, [], []⟩
def d_multiplied : He.DefD := ⟨("multiplied", none), "multiplied", "multiplied", defArgs s_multiplied, defBody s_multiplied, defScope s_multiplied, [], []⟩
def d_Bag__init__ : He.DefD := ⟨("Bag", some "__init__"), "__init__", "Bag.__init__", defArgs s_Bag__init__, defBody s_Bag__init__, defScope s_Bag__init__, [], []⟩
def d_Bag__eq__ : He.DefD := ⟨("Bag", some "__eq__"), "__eq__", "Bag.__eq__", defArgs s_Bag__eq__, defBody s_Bag__eq__, defScope s_Bag__eq__, [], []⟩
def d_are_words : He.DefD := ⟨("are_words", none), "are_words", "are_words", defArgs s_are_words, defBody s_are_words, defScope s_are_words, [], []⟩
def d_is_short_word : He.DefD := ⟨("is_short_word", none), "is_short_word", "is_short_word", defArgs s_is_short_word, defBody s_is_short_word, defScope s_is_short_word, [], []⟩
def d_pairs_of : He.DefD := ⟨("pairs_of", none), "pairs_of", "pairs_of", defArgs s_pairs_of, defBody s_pairs_of, defScope s_pairs_of, [], []⟩
def d_bag_of : He.DefD := ⟨("bag_of", none), "bag_of", "bag_of", defArgs s_bag_of, defBody s_bag_of, defScope s_bag_of, [], []⟩
def d_table_of : He.DefD := ⟨("table_of", none), "table_of", "table_of", defArgs s_table_of, defBody s_table_of, defScope s_table_of, [], []⟩
def d_check_clocks : He.DefD := ⟨("check_clocks", none), "check_clocks", "check_clocks", defArgs s_check_clocks, defBody s_check_clocks, defScope s_check_clocks, [], []⟩
def d_check_something : He.DefD := ⟨("check_something", none), "check_something", "check_something", defArgs s_check_something, defBody s_check_something, defScope s_check_something, [], []⟩
def d_together : He.DefD := ⟨("together", none), "together", "together", defArgs s_together, defBody s_together, defScope s_together, [], []⟩
def d_behind : He.DefD := ⟨("behind", none), "behind", "behind", defArgs s_behind, defBody s_behind, defScope s_behind, [], []⟩
def d_times : He.DefD := ⟨("times", none), "times", "times", defArgs s_times, defBody s_times, defScope s_times, [], []⟩
def d_power : He.DefD := ⟨("power", none), "power", "power", defArgs s_power, defBody s_power, defScope s_power, [], []⟩
def d_length : He.DefD := ⟨("length", none), "length", "length", defArgs s_length, defBody s_length, defScope s_length, [], []⟩
def d_reduced : He.DefD := ⟨("reduced", none), "reduced", "reduced", defArgs s_reduced, defBody s_reduced, defScope s_reduced, [], []⟩
def d_reduce_at : He.DefD := ⟨("reduce_at", none), "reduce_at", "reduce_at", defArgs s_reduce_at, defBody s_reduce_at, defScope s_reduce_at, [], []⟩
def d_start_of : He.DefD := ⟨("start_of", none), "start_of", "start_of", defArgs s_start_of, defBody s_start_of, defScope s_start_of, [], []⟩
def d_take_off : He.DefD := ⟨("take_off", none), "take_off", "take_off", defArgs s_take_off, defBody s_take_off, defScope s_take_off, [], []⟩
def d_divided : He.DefD := ⟨("divided", none), "divided", "divided", defArgs s_divided, defBody s_divided, defScope s_divided, [], []⟩
def d_change_places : He.DefD := ⟨("change_places", none), "change_places", "change_places", defArgs s_change_places, defBody s_change_places, defScope s_change_places, [], []⟩
def d_check_no_number : He.DefD := ⟨("check_no_number", none), "check_no_number", "check_no_number", defArgs s_check_no_number, defBody s_check_no_number, defScope s_check_no_number, [], []⟩
def d_in_powers : He.DefD := ⟨("in_powers", none), "in_powers", "in_powers", defArgs s_in_powers, defBody s_in_powers, defScope s_in_powers, [], []⟩
def d__law_hand : He.DefD := ⟨("_law_hand", none), "_law_hand", "_law_hand", defArgs s__law_hand, defBody s__law_hand, defScope s__law_hand, [], []⟩
def d__law_draw : He.DefD := ⟨("_law_draw", none), "_law_draw", "_law_draw", defArgs s__law_draw, defBody s__law_draw, defScope s__law_draw, [], []⟩
def d__law_put : He.DefD := ⟨("_law_put", none), "_law_put", "_law_put", defArgs s__law_put, defBody s__law_put, defScope s__law_put, [], []⟩
def d__law_plus : He.DefD := ⟨("_law_plus", none), "_law_plus", "_law_plus", defArgs s__law_plus, defBody s__law_plus, defScope s__law_plus, [], []⟩
def d__law_product : He.DefD := ⟨("_law_product", none), "_law_product", "_law_product", defArgs s__law_product, defBody s__law_product, defScope s__law_product, [], []⟩
def d__law_order : He.DefD := ⟨("_law_order", none), "_law_order", "_law_order", defArgs s__law_order, defBody s__law_order, defScope s__law_order, [], []⟩
def d__law_clock : He.DefD := ⟨("_law_clock", none), "_law_clock", "_law_clock", defArgs s__law_clock, defBody s__law_clock, defScope s__law_clock, [], []⟩
def d__law_word : He.DefD := ⟨("_law_word", none), "_law_word", "_law_word", defArgs s__law_word, defBody s__law_word, defScope s__law_word, [], []⟩
def d__law_lot : He.DefD := ⟨("_law_lot", none), "_law_lot", "_law_lot", defArgs s__law_lot, defBody s__law_lot, defScope s__law_lot, [], []⟩
def d__law_powers : He.DefD := ⟨("_law_powers", none), "_law_powers", "_law_powers", defArgs s__law_powers, defBody s__law_powers, defScope s__law_powers, [], []⟩
def d__law_sum_of : He.DefD := ⟨("_law_sum_of", none), "_law_sum_of", "_law_sum_of", defArgs s__law_sum_of, defBody s__law_sum_of, defScope s__law_sum_of, [], []⟩
def d__law_size : He.DefD := ⟨("_law_size", none), "_law_size", "_law_size", defArgs s__law_size, defBody s__law_size, defScope s__law_size, [], []⟩
def d__law_base : He.DefD := ⟨("_law_base", none), "_law_base", "_law_base", defArgs s__law_base, defBody s__law_base, defScope s__law_base, [], []⟩
def d__law_short : He.DefD := ⟨("_law_short", none), "_law_short", "_law_short", defArgs s__law_short, defBody s__law_short, defScope s__law_short, [], []⟩
def d__law_taken : He.DefD := ⟨("_law_taken", none), "_law_taken", "_law_taken", defArgs s__law_taken, defBody s__law_taken, defScope s__law_taken, [], []⟩
def d__law_told : He.DefD := ⟨("_law_told", none), "_law_told", "_law_told", defArgs s__law_told, defBody s__law_told, defScope s__law_told, [], []⟩
def d__law_sums : He.DefD := ⟨("_law_sums", none), "_law_sums", "_law_sums", defArgs s__law_sums, defBody s__law_sums, defScope s__law_sums, [], []⟩
def d__law_long : He.DefD := ⟨("_law_long", none), "_law_long", "_law_long", defArgs s__law_long, defBody s__law_long, defScope s__law_long, [], []⟩
def d_law : He.DefD := ⟨("law", none), "law", "law", defArgs s_law, defBody s_law, defScope s_law, [], []⟩
def fn : List He.DefD := [d_is_integer, d_is_from_to, d_is_clock, d_is_word, d_inverse, d_rank_of, d_first_word, d_tidied, d_scaled, d_added, d_multiplied, d_Bag__init__, d_Bag__eq__, d_are_words, d_is_short_word, d_pairs_of, d_bag_of, d_table_of, d_check_clocks, d_check_something, d_together, d_behind, d_times, d_power, d_length, d_reduced, d_reduce_at, d_start_of, d_take_off, d_divided, d_change_places, d_check_no_number, d_in_powers, d__law_hand, d__law_draw, d__law_put, d__law_plus, d__law_product, d__law_order, d__law_clock, d__law_word, d__law_lot, d__law_powers, d__law_sum_of, d__law_size, d__law_base, d__law_short, d__law_taken, d__law_told, d__law_sums, d__law_long, d_law]
def fa : List He.Fa := [.glo "is_integer", .glo "is_from_to", .glo "is_clock", .glo "is_word", .glo "inverse", .glo "rank_of", .glo "first_word", .glo "tidied", .glo "scaled", .glo "added", .glo "multiplied", .glo "are_words", .glo "is_short_word", .glo "pairs_of", .glo "bag_of", .glo "table_of", .glo "check_clocks", .glo "check_something", .glo "together", .glo "behind", .glo "times", .glo "power", .glo "length", .glo "reduced", .glo "reduce_at", .glo "start_of", .glo "take_off", .glo "divided", .glo "change_places", .glo "check_no_number", .glo "in_powers", .glo "_law_hand", .glo "_law_draw", .glo "_law_put", .glo "_law_plus", .glo "_law_product", .glo "_law_order", .glo "_law_clock", .glo "_law_word", .glo "_law_lot", .glo "_law_powers", .glo "_law_sum_of", .glo "_law_size", .glo "_law_base", .glo "_law_short", .glo "_law_taken", .glo "_law_told", .glo "_law_sums", .glo "_law_long", .glo "law", .glo "BagError", .exc "BagError", .glo "BadBag", .glo "UnlikeClocks", .exc "UnlikeClocks", .glo "NoNumber", .exc "NoNumber", .glo "IsNothing", .exc "IsNothing", .glo "IsNumber", .exc "IsNumber", .glo "Bag", .cls "Bag", .mkr "Bag", .meth "Bag" "__eq__", .noat "Bag" "clock", .noat "Bag" "words", .glo "CLOCKS", .str "LETTERS" "xyz", .int "MOST_WORDS" 300, .int "MOST_LETTERS" 12, .int "MOST_POWER" 12, .free "abs", .free "all", .free "bool", .free "dict", .free "int", .free "isinstance", .free "len", .free "list", .free "max", .free "min", .free "range", .free "repr", .free "sorted", .free "str", .free "tuple", .free "zip", .glo "INVERSES"]
def exl (K : PySem.W.Frag) : List Bool := [He.tupB K "CLOCKS" [.int 2, .int 3, .int 5, .int 7], decide (PySem.W.findIn K (.ref (He.ga K "Bag")) "__class__" = some (some (.builtin "object.__class__"))), decide (PySem.W.specialIn K (.builtin "object.__class__") "__get__" = some (some (.builtin "getset_descriptor.__get__"))), decide (PySem.W.takesIn K (.builtin "object.__class__") = some true), decide (PySem.W.mroIn K (He.ga K "Bag") (.type "object") = some true), decide (PySem.W.findIn K (.ref (He.ga K "Bag")) "__ne__" = some (some (.builtin "object.__ne__"))), decide (PySem.W.kitOne K (.ref (He.ga K "Bag")) (.ref (He.ga K "Bag")) = some true), PySem.W.notFirst K (He.ga K "Bag") (.type "NoneType"), decide (PySem.W.kitOne K (.type "NoneType") (.ref (He.ga K "Bag")) = some false), PySem.W.notFirst K (He.ga K "Bag") (.type "int"), decide (PySem.W.kitOne K (.type "int") (.ref (He.ga K "Bag")) = some false), PySem.W.notFirst K (He.ga K "Bag") (.type "bool"), decide (PySem.W.kitOne K (.type "bool") (.ref (He.ga K "Bag")) = some false), PySem.W.notFirst K (He.ga K "Bag") (.type "str"), decide (PySem.W.kitOne K (.type "str") (.ref (He.ga K "Bag")) = some false), PySem.W.notFirst K (He.ga K "Bag") (.type "dict"), decide (PySem.W.kitOne K (.type "dict") (.ref (He.ga K "Bag")) = some false), PySem.W.notFirst K (He.ga K "Bag") (.type "list"), decide (PySem.W.kitOne K (.type "list") (.ref (He.ga K "Bag")) = some false), PySem.W.notFirst K (He.ga K "Bag") (.type "tuple"), decide (PySem.W.kitOne K (.type "tuple") (.ref (He.ga K "Bag")) = some false), wdB K (He.ga K "INVERSES") [(2, [0, 1]), (3, [0, 1, 2]), (5, [0, 1, 3, 2, 4]), (7, [0, 1, 4, 5, 2, 3, 6])], decide (PySem.W.nsIn K mainGlobals "heapify" = some (some (.builtin "_heapq.heapify"))), decide (PySem.W.nsIn K mainGlobals "heappop" = some (some (.builtin "_heapq.heappop"))), decide (PySem.W.nsIn K mainGlobals "heappush" = some (some (.builtin "_heapq.heappush"))), decide (PySem.W.exmOne K (.ref (He.ga K "BagError")) (.ref (He.ga K "BagError")) = some true), decide (PySem.W.exmOne K (.ref (He.ga K "UnlikeClocks")) (.ref (He.ga K "UnlikeClocks")) = some true), decide (PySem.W.exmOne K (.ref (He.ga K "NoNumber")) (.ref (He.ga K "NoNumber")) = some true), decide (PySem.W.exmOne K (.ref (He.ga K "IsNothing")) (.ref (He.ga K "IsNothing")) = some true), decide (PySem.W.exmOne K (.ref (He.ga K "IsNumber")) (.ref (He.ga K "IsNumber")) = some true)]
def ex (K : PySem.W.Frag) : Bool := (exl K).all id
/-- what the top has left -/
structure Top (K : PySem.W.Frag) (mg : Str → Option Value) : Prop where
  h : ∃ h : Heap, K.In h ∧ h.Ns mainGlobals mg
  c : He.SaysD fa fn K
  e : ex K = true
section
variable {K : PySem.W.Frag} {mg : Str → Option Value}
theorem Top.x (T : Top K mg) (i : Nat) {b : Bool} (h : (exl K)[i]? = some b := by rfl) : b = true := by
  have := List.all_eq_true.mp T.e b (List.mem_of_getElem? h)
  exact this
theorem g_is_integer (T : Top K mg) : mg "is_integer" = some (.ref (He.ga K "is_integer")) := by
  obtain ⟨h, X, G⟩ := T.h
  exact He.glo_ok X G (T.c.fact 0 (f := .glo "is_integer") rfl)
theorem g_is_from_to (T : Top K mg) : mg "is_from_to" = some (.ref (He.ga K "is_from_to")) := by
  obtain ⟨h, X, G⟩ := T.h
  exact He.glo_ok X G (T.c.fact 1 (f := .glo "is_from_to") rfl)
theorem g_is_clock (T : Top K mg) : mg "is_clock" = some (.ref (He.ga K "is_clock")) := by
  obtain ⟨h, X, G⟩ := T.h
  exact He.glo_ok X G (T.c.fact 2 (f := .glo "is_clock") rfl)
theorem g_is_word (T : Top K mg) : mg "is_word" = some (.ref (He.ga K "is_word")) := by
  obtain ⟨h, X, G⟩ := T.h
  exact He.glo_ok X G (T.c.fact 3 (f := .glo "is_word") rfl)
theorem g_inverse (T : Top K mg) : mg "inverse" = some (.ref (He.ga K "inverse")) := by
  obtain ⟨h, X, G⟩ := T.h
  exact He.glo_ok X G (T.c.fact 4 (f := .glo "inverse") rfl)
theorem g_rank_of (T : Top K mg) : mg "rank_of" = some (.ref (He.ga K "rank_of")) := by
  obtain ⟨h, X, G⟩ := T.h
  exact He.glo_ok X G (T.c.fact 5 (f := .glo "rank_of") rfl)
theorem g_first_word (T : Top K mg) : mg "first_word" = some (.ref (He.ga K "first_word")) := by
  obtain ⟨h, X, G⟩ := T.h
  exact He.glo_ok X G (T.c.fact 6 (f := .glo "first_word") rfl)
theorem g_tidied (T : Top K mg) : mg "tidied" = some (.ref (He.ga K "tidied")) := by
  obtain ⟨h, X, G⟩ := T.h
  exact He.glo_ok X G (T.c.fact 7 (f := .glo "tidied") rfl)
theorem g_scaled (T : Top K mg) : mg "scaled" = some (.ref (He.ga K "scaled")) := by
  obtain ⟨h, X, G⟩ := T.h
  exact He.glo_ok X G (T.c.fact 8 (f := .glo "scaled") rfl)
theorem g_added (T : Top K mg) : mg "added" = some (.ref (He.ga K "added")) := by
  obtain ⟨h, X, G⟩ := T.h
  exact He.glo_ok X G (T.c.fact 9 (f := .glo "added") rfl)
theorem g_multiplied (T : Top K mg) : mg "multiplied" = some (.ref (He.ga K "multiplied")) := by
  obtain ⟨h, X, G⟩ := T.h
  exact He.glo_ok X G (T.c.fact 10 (f := .glo "multiplied") rfl)
theorem g_are_words (T : Top K mg) : mg "are_words" = some (.ref (He.ga K "are_words")) := by
  obtain ⟨h, X, G⟩ := T.h
  exact He.glo_ok X G (T.c.fact 11 (f := .glo "are_words") rfl)
theorem g_is_short_word (T : Top K mg) : mg "is_short_word" = some (.ref (He.ga K "is_short_word")) := by
  obtain ⟨h, X, G⟩ := T.h
  exact He.glo_ok X G (T.c.fact 12 (f := .glo "is_short_word") rfl)
theorem g_pairs_of (T : Top K mg) : mg "pairs_of" = some (.ref (He.ga K "pairs_of")) := by
  obtain ⟨h, X, G⟩ := T.h
  exact He.glo_ok X G (T.c.fact 13 (f := .glo "pairs_of") rfl)
theorem g_bag_of (T : Top K mg) : mg "bag_of" = some (.ref (He.ga K "bag_of")) := by
  obtain ⟨h, X, G⟩ := T.h
  exact He.glo_ok X G (T.c.fact 14 (f := .glo "bag_of") rfl)
theorem g_table_of (T : Top K mg) : mg "table_of" = some (.ref (He.ga K "table_of")) := by
  obtain ⟨h, X, G⟩ := T.h
  exact He.glo_ok X G (T.c.fact 15 (f := .glo "table_of") rfl)
theorem g_check_clocks (T : Top K mg) : mg "check_clocks" = some (.ref (He.ga K "check_clocks")) := by
  obtain ⟨h, X, G⟩ := T.h
  exact He.glo_ok X G (T.c.fact 16 (f := .glo "check_clocks") rfl)
theorem g_check_something (T : Top K mg) : mg "check_something" = some (.ref (He.ga K "check_something")) := by
  obtain ⟨h, X, G⟩ := T.h
  exact He.glo_ok X G (T.c.fact 17 (f := .glo "check_something") rfl)
theorem g_together (T : Top K mg) : mg "together" = some (.ref (He.ga K "together")) := by
  obtain ⟨h, X, G⟩ := T.h
  exact He.glo_ok X G (T.c.fact 18 (f := .glo "together") rfl)
theorem g_behind (T : Top K mg) : mg "behind" = some (.ref (He.ga K "behind")) := by
  obtain ⟨h, X, G⟩ := T.h
  exact He.glo_ok X G (T.c.fact 19 (f := .glo "behind") rfl)
theorem g_times (T : Top K mg) : mg "times" = some (.ref (He.ga K "times")) := by
  obtain ⟨h, X, G⟩ := T.h
  exact He.glo_ok X G (T.c.fact 20 (f := .glo "times") rfl)
theorem g_power (T : Top K mg) : mg "power" = some (.ref (He.ga K "power")) := by
  obtain ⟨h, X, G⟩ := T.h
  exact He.glo_ok X G (T.c.fact 21 (f := .glo "power") rfl)
theorem g_length (T : Top K mg) : mg "length" = some (.ref (He.ga K "length")) := by
  obtain ⟨h, X, G⟩ := T.h
  exact He.glo_ok X G (T.c.fact 22 (f := .glo "length") rfl)
theorem g_reduced (T : Top K mg) : mg "reduced" = some (.ref (He.ga K "reduced")) := by
  obtain ⟨h, X, G⟩ := T.h
  exact He.glo_ok X G (T.c.fact 23 (f := .glo "reduced") rfl)
theorem g_reduce_at (T : Top K mg) : mg "reduce_at" = some (.ref (He.ga K "reduce_at")) := by
  obtain ⟨h, X, G⟩ := T.h
  exact He.glo_ok X G (T.c.fact 24 (f := .glo "reduce_at") rfl)
theorem g_start_of (T : Top K mg) : mg "start_of" = some (.ref (He.ga K "start_of")) := by
  obtain ⟨h, X, G⟩ := T.h
  exact He.glo_ok X G (T.c.fact 25 (f := .glo "start_of") rfl)
theorem g_take_off (T : Top K mg) : mg "take_off" = some (.ref (He.ga K "take_off")) := by
  obtain ⟨h, X, G⟩ := T.h
  exact He.glo_ok X G (T.c.fact 26 (f := .glo "take_off") rfl)
theorem g_divided (T : Top K mg) : mg "divided" = some (.ref (He.ga K "divided")) := by
  obtain ⟨h, X, G⟩ := T.h
  exact He.glo_ok X G (T.c.fact 27 (f := .glo "divided") rfl)
theorem g_change_places (T : Top K mg) : mg "change_places" = some (.ref (He.ga K "change_places")) := by
  obtain ⟨h, X, G⟩ := T.h
  exact He.glo_ok X G (T.c.fact 28 (f := .glo "change_places") rfl)
theorem g_check_no_number (T : Top K mg) : mg "check_no_number" = some (.ref (He.ga K "check_no_number")) := by
  obtain ⟨h, X, G⟩ := T.h
  exact He.glo_ok X G (T.c.fact 29 (f := .glo "check_no_number") rfl)
theorem g_in_powers (T : Top K mg) : mg "in_powers" = some (.ref (He.ga K "in_powers")) := by
  obtain ⟨h, X, G⟩ := T.h
  exact He.glo_ok X G (T.c.fact 30 (f := .glo "in_powers") rfl)
theorem g__law_hand (T : Top K mg) : mg "_law_hand" = some (.ref (He.ga K "_law_hand")) := by
  obtain ⟨h, X, G⟩ := T.h
  exact He.glo_ok X G (T.c.fact 31 (f := .glo "_law_hand") rfl)
theorem g__law_draw (T : Top K mg) : mg "_law_draw" = some (.ref (He.ga K "_law_draw")) := by
  obtain ⟨h, X, G⟩ := T.h
  exact He.glo_ok X G (T.c.fact 32 (f := .glo "_law_draw") rfl)
theorem g__law_put (T : Top K mg) : mg "_law_put" = some (.ref (He.ga K "_law_put")) := by
  obtain ⟨h, X, G⟩ := T.h
  exact He.glo_ok X G (T.c.fact 33 (f := .glo "_law_put") rfl)
theorem g__law_plus (T : Top K mg) : mg "_law_plus" = some (.ref (He.ga K "_law_plus")) := by
  obtain ⟨h, X, G⟩ := T.h
  exact He.glo_ok X G (T.c.fact 34 (f := .glo "_law_plus") rfl)
theorem g__law_product (T : Top K mg) : mg "_law_product" = some (.ref (He.ga K "_law_product")) := by
  obtain ⟨h, X, G⟩ := T.h
  exact He.glo_ok X G (T.c.fact 35 (f := .glo "_law_product") rfl)
theorem g__law_order (T : Top K mg) : mg "_law_order" = some (.ref (He.ga K "_law_order")) := by
  obtain ⟨h, X, G⟩ := T.h
  exact He.glo_ok X G (T.c.fact 36 (f := .glo "_law_order") rfl)
theorem g__law_clock (T : Top K mg) : mg "_law_clock" = some (.ref (He.ga K "_law_clock")) := by
  obtain ⟨h, X, G⟩ := T.h
  exact He.glo_ok X G (T.c.fact 37 (f := .glo "_law_clock") rfl)
theorem g__law_word (T : Top K mg) : mg "_law_word" = some (.ref (He.ga K "_law_word")) := by
  obtain ⟨h, X, G⟩ := T.h
  exact He.glo_ok X G (T.c.fact 38 (f := .glo "_law_word") rfl)
theorem g__law_lot (T : Top K mg) : mg "_law_lot" = some (.ref (He.ga K "_law_lot")) := by
  obtain ⟨h, X, G⟩ := T.h
  exact He.glo_ok X G (T.c.fact 39 (f := .glo "_law_lot") rfl)
theorem g__law_powers (T : Top K mg) : mg "_law_powers" = some (.ref (He.ga K "_law_powers")) := by
  obtain ⟨h, X, G⟩ := T.h
  exact He.glo_ok X G (T.c.fact 40 (f := .glo "_law_powers") rfl)
theorem g__law_sum_of (T : Top K mg) : mg "_law_sum_of" = some (.ref (He.ga K "_law_sum_of")) := by
  obtain ⟨h, X, G⟩ := T.h
  exact He.glo_ok X G (T.c.fact 41 (f := .glo "_law_sum_of") rfl)
theorem g__law_size (T : Top K mg) : mg "_law_size" = some (.ref (He.ga K "_law_size")) := by
  obtain ⟨h, X, G⟩ := T.h
  exact He.glo_ok X G (T.c.fact 42 (f := .glo "_law_size") rfl)
theorem g__law_base (T : Top K mg) : mg "_law_base" = some (.ref (He.ga K "_law_base")) := by
  obtain ⟨h, X, G⟩ := T.h
  exact He.glo_ok X G (T.c.fact 43 (f := .glo "_law_base") rfl)
theorem g__law_short (T : Top K mg) : mg "_law_short" = some (.ref (He.ga K "_law_short")) := by
  obtain ⟨h, X, G⟩ := T.h
  exact He.glo_ok X G (T.c.fact 44 (f := .glo "_law_short") rfl)
theorem g__law_taken (T : Top K mg) : mg "_law_taken" = some (.ref (He.ga K "_law_taken")) := by
  obtain ⟨h, X, G⟩ := T.h
  exact He.glo_ok X G (T.c.fact 45 (f := .glo "_law_taken") rfl)
theorem g__law_told (T : Top K mg) : mg "_law_told" = some (.ref (He.ga K "_law_told")) := by
  obtain ⟨h, X, G⟩ := T.h
  exact He.glo_ok X G (T.c.fact 46 (f := .glo "_law_told") rfl)
theorem g__law_sums (T : Top K mg) : mg "_law_sums" = some (.ref (He.ga K "_law_sums")) := by
  obtain ⟨h, X, G⟩ := T.h
  exact He.glo_ok X G (T.c.fact 47 (f := .glo "_law_sums") rfl)
theorem g__law_long (T : Top K mg) : mg "_law_long" = some (.ref (He.ga K "_law_long")) := by
  obtain ⟨h, X, G⟩ := T.h
  exact He.glo_ok X G (T.c.fact 48 (f := .glo "_law_long") rfl)
theorem g_law (T : Top K mg) : mg "law" = some (.ref (He.ga K "law")) := by
  obtain ⟨h, X, G⟩ := T.h
  exact He.glo_ok X G (T.c.fact 49 (f := .glo "law") rfl)
theorem g_BagError (T : Top K mg) : mg "BagError" = some (.ref (He.ga K "BagError")) := by
  obtain ⟨h, X, G⟩ := T.h
  exact He.glo_ok X G (T.c.fact 50 (f := .glo "BagError") rfl)
theorem e_BagError (T : Top K mg) : PySem.W.excIn K (He.ga K "BagError") He.veBase "ValueError.__new__" = true ∧ PySem.W.keepIn K (.ref (He.ga K "BagError")) = true ∧ PySem.W.subIn K (.ref (He.ga K "BagError")) (.type "BaseException") = some true ∧ PySem.W.typeIn K (.ref (He.ga K "BagError")) = some (.type "type") := He.exc_ok (T.c.fact 51 (f := .exc "BagError") rfl)
theorem g_BadBag (T : Top K mg) : mg "BadBag" = some (.ref (He.ga K "BadBag")) := by
  obtain ⟨h, X, G⟩ := T.h
  exact He.glo_ok X G (T.c.fact 52 (f := .glo "BadBag") rfl)
theorem g_UnlikeClocks (T : Top K mg) : mg "UnlikeClocks" = some (.ref (He.ga K "UnlikeClocks")) := by
  obtain ⟨h, X, G⟩ := T.h
  exact He.glo_ok X G (T.c.fact 53 (f := .glo "UnlikeClocks") rfl)
theorem e_UnlikeClocks (T : Top K mg) : PySem.W.excIn K (He.ga K "UnlikeClocks") He.veBase "ValueError.__new__" = true ∧ PySem.W.keepIn K (.ref (He.ga K "UnlikeClocks")) = true ∧ PySem.W.subIn K (.ref (He.ga K "UnlikeClocks")) (.type "BaseException") = some true ∧ PySem.W.typeIn K (.ref (He.ga K "UnlikeClocks")) = some (.type "type") := He.exc_ok (T.c.fact 54 (f := .exc "UnlikeClocks") rfl)
theorem g_NoNumber (T : Top K mg) : mg "NoNumber" = some (.ref (He.ga K "NoNumber")) := by
  obtain ⟨h, X, G⟩ := T.h
  exact He.glo_ok X G (T.c.fact 55 (f := .glo "NoNumber") rfl)
theorem e_NoNumber (T : Top K mg) : PySem.W.excIn K (He.ga K "NoNumber") He.veBase "ValueError.__new__" = true ∧ PySem.W.keepIn K (.ref (He.ga K "NoNumber")) = true ∧ PySem.W.subIn K (.ref (He.ga K "NoNumber")) (.type "BaseException") = some true ∧ PySem.W.typeIn K (.ref (He.ga K "NoNumber")) = some (.type "type") := He.exc_ok (T.c.fact 56 (f := .exc "NoNumber") rfl)
theorem g_IsNothing (T : Top K mg) : mg "IsNothing" = some (.ref (He.ga K "IsNothing")) := by
  obtain ⟨h, X, G⟩ := T.h
  exact He.glo_ok X G (T.c.fact 57 (f := .glo "IsNothing") rfl)
theorem e_IsNothing (T : Top K mg) : PySem.W.excIn K (He.ga K "IsNothing") He.veBase "ValueError.__new__" = true ∧ PySem.W.keepIn K (.ref (He.ga K "IsNothing")) = true ∧ PySem.W.subIn K (.ref (He.ga K "IsNothing")) (.type "BaseException") = some true ∧ PySem.W.typeIn K (.ref (He.ga K "IsNothing")) = some (.type "type") := He.exc_ok (T.c.fact 58 (f := .exc "IsNothing") rfl)
theorem g_IsNumber (T : Top K mg) : mg "IsNumber" = some (.ref (He.ga K "IsNumber")) := by
  obtain ⟨h, X, G⟩ := T.h
  exact He.glo_ok X G (T.c.fact 59 (f := .glo "IsNumber") rfl)
theorem e_IsNumber (T : Top K mg) : PySem.W.excIn K (He.ga K "IsNumber") He.veBase "ValueError.__new__" = true ∧ PySem.W.keepIn K (.ref (He.ga K "IsNumber")) = true ∧ PySem.W.subIn K (.ref (He.ga K "IsNumber")) (.type "BaseException") = some true ∧ PySem.W.typeIn K (.ref (He.ga K "IsNumber")) = some (.type "type") := He.exc_ok (T.c.fact 60 (f := .exc "IsNumber") rfl)
theorem g_Bag (T : Top K mg) : mg "Bag" = some (.ref (He.ga K "Bag")) := by
  obtain ⟨h, X, G⟩ := T.h
  exact He.glo_ok X G (T.c.fact 61 (f := .glo "Bag") rfl)
theorem cls_Bag (T : Top K mg) : Cls K (He.ga K "Bag") := He.cls_ok (T.c.fact 62 (f := .cls "Bag") rfl)
theorem mk_Bag (T : Top K mg) : Mk K (He.ga K "Bag") (He.ma K (He.ga K "Bag") "__init__") := He.mkr_ok (T.c.fact 63 (f := .mkr "Bag") rfl)
theorem m_Bag___eq__ (T : Top K mg) : Meth K (He.ga K "Bag") "__eq__" (He.ma K (He.ga K "Bag") "__eq__") := He.meth_ok (T.c.fact 64 (f := .meth "Bag" "__eq__") rfl)
theorem na_Bag_clock (T : Top K mg) : NoAttr K (He.ga K "Bag") "clock" := He.noat_ok (T.c.fact 65 (f := .noat "Bag" "clock") rfl)
theorem na_Bag_words (T : Top K mg) : NoAttr K (He.ga K "Bag") "words" := He.noat_ok (T.c.fact 66 (f := .noat "Bag" "words") rfl)
theorem g_CLOCKS (T : Top K mg) : mg "CLOCKS" = some (.ref (He.ga K "CLOCKS")) := by
  obtain ⟨h, X, G⟩ := T.h
  exact He.glo_ok X G (T.c.fact 67 (f := .glo "CLOCKS") rfl)
theorem t_LETTERS (T : Top K mg) : ∃ t, mg "LETTERS" = some (.str "xyz" t) := by
  obtain ⟨h, X, G⟩ := T.h
  exact He.str_ok X G (T.c.fact 68 (f := .str "LETTERS" "xyz") rfl)
theorem i_MOST_WORDS (T : Top K mg) : ∃ t, mg "MOST_WORDS" = some (.int 300 t) := by
  obtain ⟨h, X, G⟩ := T.h
  exact He.int_ok X G (T.c.fact 69 (f := .int "MOST_WORDS" 300) rfl)
theorem i_MOST_LETTERS (T : Top K mg) : ∃ t, mg "MOST_LETTERS" = some (.int 12 t) := by
  obtain ⟨h, X, G⟩ := T.h
  exact He.int_ok X G (T.c.fact 70 (f := .int "MOST_LETTERS" 12) rfl)
theorem i_MOST_POWER (T : Top K mg) : ∃ t, mg "MOST_POWER" = some (.int 12 t) := by
  obtain ⟨h, X, G⟩ := T.h
  exact He.int_ok X G (T.c.fact 71 (f := .int "MOST_POWER" 12) rfl)
theorem f_abs (T : Top K mg) : mg "abs" = none := by
  obtain ⟨h, X, G⟩ := T.h
  exact He.free_ok X G (T.c.fact 72 (f := .free "abs") rfl)
theorem f_all (T : Top K mg) : mg "all" = none := by
  obtain ⟨h, X, G⟩ := T.h
  exact He.free_ok X G (T.c.fact 73 (f := .free "all") rfl)
theorem f_bool (T : Top K mg) : mg "bool" = none := by
  obtain ⟨h, X, G⟩ := T.h
  exact He.free_ok X G (T.c.fact 74 (f := .free "bool") rfl)
theorem f_dict (T : Top K mg) : mg "dict" = none := by
  obtain ⟨h, X, G⟩ := T.h
  exact He.free_ok X G (T.c.fact 75 (f := .free "dict") rfl)
theorem f_int (T : Top K mg) : mg "int" = none := by
  obtain ⟨h, X, G⟩ := T.h
  exact He.free_ok X G (T.c.fact 76 (f := .free "int") rfl)
theorem f_isinstance (T : Top K mg) : mg "isinstance" = none := by
  obtain ⟨h, X, G⟩ := T.h
  exact He.free_ok X G (T.c.fact 77 (f := .free "isinstance") rfl)
theorem f_len (T : Top K mg) : mg "len" = none := by
  obtain ⟨h, X, G⟩ := T.h
  exact He.free_ok X G (T.c.fact 78 (f := .free "len") rfl)
theorem f_list (T : Top K mg) : mg "list" = none := by
  obtain ⟨h, X, G⟩ := T.h
  exact He.free_ok X G (T.c.fact 79 (f := .free "list") rfl)
theorem f_max (T : Top K mg) : mg "max" = none := by
  obtain ⟨h, X, G⟩ := T.h
  exact He.free_ok X G (T.c.fact 80 (f := .free "max") rfl)
theorem f_min (T : Top K mg) : mg "min" = none := by
  obtain ⟨h, X, G⟩ := T.h
  exact He.free_ok X G (T.c.fact 81 (f := .free "min") rfl)
theorem f_range (T : Top K mg) : mg "range" = none := by
  obtain ⟨h, X, G⟩ := T.h
  exact He.free_ok X G (T.c.fact 82 (f := .free "range") rfl)
theorem f_repr (T : Top K mg) : mg "repr" = none := by
  obtain ⟨h, X, G⟩ := T.h
  exact He.free_ok X G (T.c.fact 83 (f := .free "repr") rfl)
theorem f_sorted (T : Top K mg) : mg "sorted" = none := by
  obtain ⟨h, X, G⟩ := T.h
  exact He.free_ok X G (T.c.fact 84 (f := .free "sorted") rfl)
theorem f_str (T : Top K mg) : mg "str" = none := by
  obtain ⟨h, X, G⟩ := T.h
  exact He.free_ok X G (T.c.fact 85 (f := .free "str") rfl)
theorem f_tuple (T : Top K mg) : mg "tuple" = none := by
  obtain ⟨h, X, G⟩ := T.h
  exact He.free_ok X G (T.c.fact 86 (f := .free "tuple") rfl)
theorem f_zip (T : Top K mg) : mg "zip" = none := by
  obtain ⟨h, X, G⟩ := T.h
  exact He.free_ok X G (T.c.fact 87 (f := .free "zip") rfl)
theorem g_INVERSES (T : Top K mg) : mg "INVERSES" = some (.ref (He.ga K "INVERSES")) := by
  obtain ⟨h, X, G⟩ := T.h
  exact He.glo_ok X G (T.c.fact 88 (f := .glo "INVERSES") rfl)
theorem fn_is_integer (T : Top K mg) : ∃ fd, FnP K "is_integer" "is_integer" s_is_integer (He.fAd K ("is_integer", none)) fd := T.c.def_ 0 (d := d_is_integer) rfl
theorem fn_is_from_to (T : Top K mg) : ∃ fd, FnP K "is_from_to" "is_from_to" s_is_from_to (He.fAd K ("is_from_to", none)) fd := T.c.def_ 1 (d := d_is_from_to) rfl
theorem fn_is_clock (T : Top K mg) : ∃ fd, FnP K "is_clock" "is_clock" s_is_clock (He.fAd K ("is_clock", none)) fd := T.c.def_ 2 (d := d_is_clock) rfl
theorem fn_is_word (T : Top K mg) : ∃ fd, FnP K "is_word" "is_word" s_is_word (He.fAd K ("is_word", none)) fd := T.c.def_ 3 (d := d_is_word) rfl
theorem fn_inverse (T : Top K mg) : ∃ fd, FnP K "inverse" "inverse" s_inverse (He.fAd K ("inverse", none)) fd := T.c.def_ 4 (d := d_inverse) rfl
theorem fn_rank_of (T : Top K mg) : ∃ fd, FnP K "rank_of" "rank_of" s_rank_of (He.fAd K ("rank_of", none)) fd := T.c.def_ 5 (d := d_rank_of) rfl
theorem fn_first_word (T : Top K mg) : ∃ fd, FnP K "first_word" "first_word" s_first_word (He.fAd K ("first_word", none)) fd := T.c.def_ 6 (d := d_first_word) rfl
theorem fn_tidied (T : Top K mg) : ∃ fd, FnP K "tidied" "tidied" s_tidied (He.fAd K ("tidied", none)) fd := T.c.def_ 7 (d := d_tidied) rfl
theorem fn_scaled (T : Top K mg) : ∃ fd, FnP K "scaled" "scaled" s_scaled (He.fAd K ("scaled", none)) fd := T.c.def_ 8 (d := d_scaled) rfl
theorem fn_added (T : Top K mg) : ∃ fd, FnP K "added" "added" s_added (He.fAd K ("added", none)) fd := T.c.def_ 9 (d := d_added) rfl
theorem fn_multiplied (T : Top K mg) : ∃ fd, FnP K "multiplied" "multiplied" s_multiplied (He.fAd K ("multiplied", none)) fd := T.c.def_ 10 (d := d_multiplied) rfl
theorem fn_Bag__init__ (T : Top K mg) : ∃ fd, FnP K "__init__" "Bag.__init__" s_Bag__init__ (He.fAd K ("Bag", some "__init__")) fd := T.c.def_ 11 (d := d_Bag__init__) rfl
theorem fn_Bag__eq__ (T : Top K mg) : ∃ fd, FnP K "__eq__" "Bag.__eq__" s_Bag__eq__ (He.fAd K ("Bag", some "__eq__")) fd := T.c.def_ 12 (d := d_Bag__eq__) rfl
theorem fn_are_words (T : Top K mg) : ∃ fd, FnP K "are_words" "are_words" s_are_words (He.fAd K ("are_words", none)) fd := T.c.def_ 13 (d := d_are_words) rfl
theorem fn_is_short_word (T : Top K mg) : ∃ fd, FnP K "is_short_word" "is_short_word" s_is_short_word (He.fAd K ("is_short_word", none)) fd := T.c.def_ 14 (d := d_is_short_word) rfl
theorem fn_pairs_of (T : Top K mg) : ∃ fd, FnP K "pairs_of" "pairs_of" s_pairs_of (He.fAd K ("pairs_of", none)) fd := T.c.def_ 15 (d := d_pairs_of) rfl
theorem fn_bag_of (T : Top K mg) : ∃ fd, FnP K "bag_of" "bag_of" s_bag_of (He.fAd K ("bag_of", none)) fd := T.c.def_ 16 (d := d_bag_of) rfl
theorem fn_table_of (T : Top K mg) : ∃ fd, FnP K "table_of" "table_of" s_table_of (He.fAd K ("table_of", none)) fd := T.c.def_ 17 (d := d_table_of) rfl
theorem fn_check_clocks (T : Top K mg) : ∃ fd, FnP K "check_clocks" "check_clocks" s_check_clocks (He.fAd K ("check_clocks", none)) fd := T.c.def_ 18 (d := d_check_clocks) rfl
theorem fn_check_something (T : Top K mg) : ∃ fd, FnP K "check_something" "check_something" s_check_something (He.fAd K ("check_something", none)) fd := T.c.def_ 19 (d := d_check_something) rfl
theorem fn_together (T : Top K mg) : ∃ fd, FnP K "together" "together" s_together (He.fAd K ("together", none)) fd := T.c.def_ 20 (d := d_together) rfl
theorem fn_behind (T : Top K mg) : ∃ fd, FnP K "behind" "behind" s_behind (He.fAd K ("behind", none)) fd := T.c.def_ 21 (d := d_behind) rfl
theorem fn_times (T : Top K mg) : ∃ fd, FnP K "times" "times" s_times (He.fAd K ("times", none)) fd := T.c.def_ 22 (d := d_times) rfl
theorem fn_power (T : Top K mg) : ∃ fd, FnP K "power" "power" s_power (He.fAd K ("power", none)) fd := T.c.def_ 23 (d := d_power) rfl
theorem fn_length (T : Top K mg) : ∃ fd, FnP K "length" "length" s_length (He.fAd K ("length", none)) fd := T.c.def_ 24 (d := d_length) rfl
theorem fn_reduced (T : Top K mg) : ∃ fd, FnP K "reduced" "reduced" s_reduced (He.fAd K ("reduced", none)) fd := T.c.def_ 25 (d := d_reduced) rfl
theorem fn_reduce_at (T : Top K mg) : ∃ fd, FnP K "reduce_at" "reduce_at" s_reduce_at (He.fAd K ("reduce_at", none)) fd := T.c.def_ 26 (d := d_reduce_at) rfl
theorem fn_start_of (T : Top K mg) : ∃ fd, FnP K "start_of" "start_of" s_start_of (He.fAd K ("start_of", none)) fd := T.c.def_ 27 (d := d_start_of) rfl
theorem fn_take_off (T : Top K mg) : ∃ fd, FnP K "take_off" "take_off" s_take_off (He.fAd K ("take_off", none)) fd := T.c.def_ 28 (d := d_take_off) rfl
theorem fn_divided (T : Top K mg) : ∃ fd, FnP K "divided" "divided" s_divided (He.fAd K ("divided", none)) fd := T.c.def_ 29 (d := d_divided) rfl
theorem fn_change_places (T : Top K mg) : ∃ fd, FnP K "change_places" "change_places" s_change_places (He.fAd K ("change_places", none)) fd := T.c.def_ 30 (d := d_change_places) rfl
theorem fn_check_no_number (T : Top K mg) : ∃ fd, FnP K "check_no_number" "check_no_number" s_check_no_number (He.fAd K ("check_no_number", none)) fd := T.c.def_ 31 (d := d_check_no_number) rfl
theorem fn_in_powers (T : Top K mg) : ∃ fd, FnP K "in_powers" "in_powers" s_in_powers (He.fAd K ("in_powers", none)) fd := T.c.def_ 32 (d := d_in_powers) rfl
theorem fn__law_hand (T : Top K mg) : ∃ fd, FnP K "_law_hand" "_law_hand" s__law_hand (He.fAd K ("_law_hand", none)) fd := T.c.def_ 33 (d := d__law_hand) rfl
theorem fn__law_draw (T : Top K mg) : ∃ fd, FnP K "_law_draw" "_law_draw" s__law_draw (He.fAd K ("_law_draw", none)) fd := T.c.def_ 34 (d := d__law_draw) rfl
theorem fn__law_put (T : Top K mg) : ∃ fd, FnP K "_law_put" "_law_put" s__law_put (He.fAd K ("_law_put", none)) fd := T.c.def_ 35 (d := d__law_put) rfl
theorem fn__law_plus (T : Top K mg) : ∃ fd, FnP K "_law_plus" "_law_plus" s__law_plus (He.fAd K ("_law_plus", none)) fd := T.c.def_ 36 (d := d__law_plus) rfl
theorem fn__law_product (T : Top K mg) : ∃ fd, FnP K "_law_product" "_law_product" s__law_product (He.fAd K ("_law_product", none)) fd := T.c.def_ 37 (d := d__law_product) rfl
theorem fn__law_order (T : Top K mg) : ∃ fd, FnP K "_law_order" "_law_order" s__law_order (He.fAd K ("_law_order", none)) fd := T.c.def_ 38 (d := d__law_order) rfl
theorem fn__law_clock (T : Top K mg) : ∃ fd, FnP K "_law_clock" "_law_clock" s__law_clock (He.fAd K ("_law_clock", none)) fd := T.c.def_ 39 (d := d__law_clock) rfl
theorem fn__law_word (T : Top K mg) : ∃ fd, FnP K "_law_word" "_law_word" s__law_word (He.fAd K ("_law_word", none)) fd := T.c.def_ 40 (d := d__law_word) rfl
theorem fn__law_lot (T : Top K mg) : ∃ fd, FnP K "_law_lot" "_law_lot" s__law_lot (He.fAd K ("_law_lot", none)) fd := T.c.def_ 41 (d := d__law_lot) rfl
theorem fn__law_powers (T : Top K mg) : ∃ fd, FnP K "_law_powers" "_law_powers" s__law_powers (He.fAd K ("_law_powers", none)) fd := T.c.def_ 42 (d := d__law_powers) rfl
theorem fn__law_sum_of (T : Top K mg) : ∃ fd, FnP K "_law_sum_of" "_law_sum_of" s__law_sum_of (He.fAd K ("_law_sum_of", none)) fd := T.c.def_ 43 (d := d__law_sum_of) rfl
theorem fn__law_size (T : Top K mg) : ∃ fd, FnP K "_law_size" "_law_size" s__law_size (He.fAd K ("_law_size", none)) fd := T.c.def_ 44 (d := d__law_size) rfl
theorem fn__law_base (T : Top K mg) : ∃ fd, FnP K "_law_base" "_law_base" s__law_base (He.fAd K ("_law_base", none)) fd := T.c.def_ 45 (d := d__law_base) rfl
theorem fn__law_short (T : Top K mg) : ∃ fd, FnP K "_law_short" "_law_short" s__law_short (He.fAd K ("_law_short", none)) fd := T.c.def_ 46 (d := d__law_short) rfl
theorem fn__law_taken (T : Top K mg) : ∃ fd, FnP K "_law_taken" "_law_taken" s__law_taken (He.fAd K ("_law_taken", none)) fd := T.c.def_ 47 (d := d__law_taken) rfl
theorem fn__law_told (T : Top K mg) : ∃ fd, FnP K "_law_told" "_law_told" s__law_told (He.fAd K ("_law_told", none)) fd := T.c.def_ 48 (d := d__law_told) rfl
theorem fn__law_sums (T : Top K mg) : ∃ fd, FnP K "_law_sums" "_law_sums" s__law_sums (He.fAd K ("_law_sums", none)) fd := T.c.def_ 49 (d := d__law_sums) rfl
theorem fn__law_long (T : Top K mg) : ∃ fd, FnP K "_law_long" "_law_long" s__law_long (He.fAd K ("_law_long", none)) fd := T.c.def_ 50 (d := d__law_long) rfl
theorem fn_law (T : Top K mg) : ∃ fd, FnP K "law" "law" s_law (He.fAd K ("law", none)) fd := T.c.def_ 51 (d := d_law) rfl
theorem x_CLOCKS (T : Top K mg) (H : Hp) : SqT K H (He.ga K "CLOCKS") [.int 2, .int 3, .int 5, .int 7] := He.tupB_ok (T.x 0) H
theorem x_class (T : Top K mg) : PySem.W.findIn K (.ref (He.ga K "Bag")) "__class__" = some (some (.builtin "object.__class__")) := of_decide_eq_true (T.x 1)
theorem x_get (T : Top K mg) : PySem.W.specialIn K (.builtin "object.__class__") "__get__" = some (some (.builtin "getset_descriptor.__get__")) := of_decide_eq_true (T.x 2)
theorem x_takes (T : Top K mg) : PySem.W.takesIn K (.builtin "object.__class__") = some true := of_decide_eq_true (T.x 3)
theorem x_mro (T : Top K mg) : PySem.W.mroIn K (He.ga K "Bag") (.type "object") = some true := of_decide_eq_true (T.x 4)
theorem x_ne (T : Top K mg) : PySem.W.findIn K (.ref (He.ga K "Bag")) "__ne__" = some (some (.builtin "object.__ne__")) := of_decide_eq_true (T.x 5)
theorem x_is (T : Top K mg) : PySem.W.kitOne K (.ref (He.ga K "Bag")) (.ref (He.ga K "Bag")) = some true := of_decide_eq_true (T.x 6)
theorem x_nf_NoneType (T : Top K mg) : PySem.W.notFirst K (He.ga K "Bag") (.type "NoneType") = true := T.x 7
theorem x_no_NoneType (T : Top K mg) : PySem.W.kitOne K (.type "NoneType") (.ref (He.ga K "Bag")) = some false := of_decide_eq_true (T.x 8)
theorem x_nf_int (T : Top K mg) : PySem.W.notFirst K (He.ga K "Bag") (.type "int") = true := T.x 9
theorem x_no_int (T : Top K mg) : PySem.W.kitOne K (.type "int") (.ref (He.ga K "Bag")) = some false := of_decide_eq_true (T.x 10)
theorem x_nf_bool (T : Top K mg) : PySem.W.notFirst K (He.ga K "Bag") (.type "bool") = true := T.x 11
theorem x_no_bool (T : Top K mg) : PySem.W.kitOne K (.type "bool") (.ref (He.ga K "Bag")) = some false := of_decide_eq_true (T.x 12)
theorem x_nf_str (T : Top K mg) : PySem.W.notFirst K (He.ga K "Bag") (.type "str") = true := T.x 13
theorem x_no_str (T : Top K mg) : PySem.W.kitOne K (.type "str") (.ref (He.ga K "Bag")) = some false := of_decide_eq_true (T.x 14)
theorem x_nf_dict (T : Top K mg) : PySem.W.notFirst K (He.ga K "Bag") (.type "dict") = true := T.x 15
theorem x_no_dict (T : Top K mg) : PySem.W.kitOne K (.type "dict") (.ref (He.ga K "Bag")) = some false := of_decide_eq_true (T.x 16)
theorem x_nf_list (T : Top K mg) : PySem.W.notFirst K (He.ga K "Bag") (.type "list") = true := T.x 17
theorem x_no_list (T : Top K mg) : PySem.W.kitOne K (.type "list") (.ref (He.ga K "Bag")) = some false := of_decide_eq_true (T.x 18)
theorem x_nf_tuple (T : Top K mg) : PySem.W.notFirst K (He.ga K "Bag") (.type "tuple") = true := T.x 19
theorem x_no_tuple (T : Top K mg) : PySem.W.kitOne K (.type "tuple") (.ref (He.ga K "Bag")) = some false := of_decide_eq_true (T.x 20)
theorem xm_BagError (T : Top K mg) : PySem.W.exmOne K (.ref (He.ga K "BagError")) (.ref (He.ga K "BagError")) = some true := of_decide_eq_true (T.x 25)
theorem xm_UnlikeClocks (T : Top K mg) : PySem.W.exmOne K (.ref (He.ga K "UnlikeClocks")) (.ref (He.ga K "UnlikeClocks")) = some true := of_decide_eq_true (T.x 26)
theorem xm_NoNumber (T : Top K mg) : PySem.W.exmOne K (.ref (He.ga K "NoNumber")) (.ref (He.ga K "NoNumber")) = some true := of_decide_eq_true (T.x 27)
theorem xm_IsNothing (T : Top K mg) : PySem.W.exmOne K (.ref (He.ga K "IsNothing")) (.ref (He.ga K "IsNothing")) = some true := of_decide_eq_true (T.x 28)
theorem xm_IsNumber (T : Top K mg) : PySem.W.exmOne K (.ref (He.ga K "IsNumber")) (.ref (He.ga K "IsNumber")) = some true := of_decide_eq_true (T.x 29)
theorem w_INVERSES (T : Top K mg) : wdB K (He.ga K "INVERSES") [(2, [0, 1]), (3, [0, 1, 2]), (5, [0, 1, 3, 2, 4]), (7, [0, 1, 4, 5, 2, 3, 6])] = true := T.x 21
theorem hq_heapify (T : Top K mg) : mg "heapify" = some (.builtin "_heapq.heapify") := by
  obtain ⟨h, X, G⟩ := T.h
  exact PySem.W.mg_of X G (of_decide_eq_true (T.x 22))
theorem hq_heappop (T : Top K mg) : mg "heappop" = some (.builtin "_heapq.heappop") := by
  obtain ⟨h, X, G⟩ := T.h
  exact PySem.W.mg_of X G (of_decide_eq_true (T.x 23))
theorem hq_heappush (T : Top K mg) : mg "heappush" = some (.builtin "_heapq.heappush") := by
  obtain ⟨h, X, G⟩ := T.h
  exact PySem.W.mg_of X G (of_decide_eq_true (T.x 24))
end
end Fp

set_option Elab.async false
set_option linter.all false
set_option maxRecDepth 100000
set_option maxHeartbeats 2000000
namespace Fp
open PySem PySem.Spec PyProof.Rows L2
/-! ### words -/
def xyz (w : Str) : Prop := ∀ c ∈ w.cps.toList, c = 120 ∨ c = 121 ∨ c = 122
theorem tw_self {g : Nat → Bool} : ∀ {l : List Nat}, (∀ c ∈ l, g c = true) → l.takeWhile g = l
  | [], _ => rfl
  | c :: r, h => by
    rw [List.takeWhile_cons, if_pos (h c List.mem_cons_self), tw_self fun d hd => h d (List.mem_cons_of_mem _ hd)]
theorem strip_xyz {w : Str} (h : xyz w) : PySem.Txt.stripChars w "xyz" = (Str.ofString "") := by
  have hg : ∀ c ∈ w.cps.toList, (("xyz" : Str).cps.contains c) = true := fun c hc => by
    rcases h c hc with e | e | e <;> subst e <;> decide +kernel
  have ht : w.cps.toList.takeWhile ("xyz" : Str).cps.contains = w.cps.toList := tw_self hg
  have hlo : stripLo ("xyz" : Str).cps.contains true w = w.cps.toList.length := by
    unfold stripLo
    rw [if_pos rfl, ht]
  have hsz : w.length = w.cps.toList.length := by simp [Str.length]
  unfold PySem.Txt.stripChars PySem.Txt.stripBy
  cases e : stripSame ("xyz" : Str).cps.contains true true w with
  | true =>
    rw [if_pos rfl]
    unfold stripSame at e
    rw [hlo] at e
    simp only [Bool.and_eq_true, beq_iff_eq] at e
    have e0 : w.cps.toList = [] := List.length_eq_zero_iff.mp e.1
    obtain ⟨a⟩ := w
    have : a = #[] := by simpa using e0
    subst this
    rfl
  | false =>
    rw [if_neg Bool.false_ne_true]
    unfold stripped
    rw [hlo]
    have hhi : stripHi ("xyz" : Str).cps.contains true w w.cps.toList.length = w.length := by
      unfold stripHi
      rw [if_pos rfl, List.drop_length]
      simp
    rw [hhi, hsz]
    unfold Builtin.Str.strSub
    simp
    rfl
section
variable {P : Program} {w : World} {K : PySem.W.Frag} {mg : Str → Option Value} {base : Heap}
/-! ### kinds -/
def spInt : Sp := fun vs H Q _ => ∃ i : Int, vs = [.int i] ∧ Q (.bl true) H
theorem sc_is_integer : FnScope ["thing"] ["thing"] (defScope s_is_integer) := ⟨rfl, rfl, rfl, by decide +kernel, rfl, by decide +kernel, by decide +kernel⟩
theorem ok_is_integer (T : Top K mg) : Ok P w K mg base 1 "is_integer" ["thing"] spInt := by
  obtain ⟨fd, F⟩ := fn_is_integer T
  refine ⟨⟨fd, ?_, F.bindsN fun _ _ _ _ _ _ us hl => match us, hl with | [_], _ => rfl⟩, g_is_integer T, F.kp⟩
  refine F.ok sc_is_integer (fun vs H Q E h => ?_) (fun cdv A outer s H vs Q E hr h => ?_)
  · obtain ⟨i, rfl, _⟩ := h
    rfl
  · obtain ⟨i, rfl, q⟩ := h
    refine ⟨_, PSs.nox (pss_one (ps_ret (pe_and (pe_callB call_isi (by rfl) (f_isinstance T) (by decide +kernel) (pa_cons (pv 0) (pa_cons (pe_bltn (v := .ty "int") (by rfl) (f_int T) boot_int rfl) pa_nil)))
      (pe_one (pe_not (pe_callB call_isi (by rfl) (f_isinstance T) (by decide +kernel) (pa_cons (pv 0) (pa_cons (pe_bltn (v := .ty "bool") (by rfl) (f_bool T) (by decide +kernel) rfl) pa_nil)))))))), ?_⟩
    refine ⟨_, rfl, .int i, _, _, _, true, rfl, .ty "int", .base (.int i), kit_ty (by decide +kernel), true, rfl, iteT ?_⟩
    exact ⟨_, rfl, .int i, _, _, _, false, rfl, .ty "bool", .base (.int i), kit_ty (by decide +kernel), false, rfl, q⟩
def spFromTo : Sp := fun vs H Q _ => ∃ i lo hi : Int, vs = [.int i, .int lo, .int hi] ∧ Q (.bl (decide (lo ≤ i) && decide (i ≤ hi))) H
theorem sc_is_from_to : FnScope ["thing", "low", "high"] ["thing", "low", "high"] (defScope s_is_from_to) := ⟨rfl, rfl, rfl, by decide +kernel, rfl, by decide +kernel, by decide +kernel⟩
theorem ok_is_from_to (T : Top K mg) : Ok P w K mg base 2 "is_from_to" ["thing", "low", "high"] spFromTo := by
  obtain ⟨fd, F⟩ := fn_is_from_to T
  refine ⟨⟨fd, ?_, F.bindsN fun _ _ _ _ _ _ us hl => match us, hl with | [_, _, _], _ => rfl⟩, g_is_from_to T, F.kp⟩
  refine F.ok sc_is_from_to (fun vs H Q E h => ?_) (fun cdv A outer s H vs Q E hr h => ?_)
  · obtain ⟨i, lo, hi, rfl, _⟩ := h
    rfl
  · obtain ⟨i, lo, hi, rfl, q⟩ := h
    refine ⟨_, PSs.nox (pss_one (ps_ret (pe_and (pc (ok_is_integer T) hr (pa_cons (pv 0) pa_nil)) (pe_one (pe_chain op_le op_le (pv 1) (pv 0) (pv 2)))))), ?_⟩
    refine ⟨_, rfl, i, rfl, true, rfl, iteT ?_⟩
    refine ⟨_, rfl, _, rfl, _, _, rfl, rfl, _, rfl, ?_⟩
    by_cases h1 : lo ≤ i
    · rw [decide_eq_true h1] at q ⊢
      exact iteT ⟨_, rfl, _, _, rfl, rfl, q⟩
    · rw [decide_eq_false h1] at q ⊢
      exact iteF q
def isCk (c : Int) : Prop := c = 2 ∨ c = 3 ∨ c = 5 ∨ c = 7
def spClock : Sp := fun vs H Q _ => ∃ c : Int, vs = [.int c] ∧ isCk c ∧ Q (.bl true) H
theorem sc_is_clock : FnScope ["thing"] ["thing"] (defScope s_is_clock) := ⟨rfl, rfl, rfl, by decide +kernel, rfl, by decide +kernel, by decide +kernel⟩
theorem ok_is_clock (T : Top K mg) : Ok P w K mg base 2 "is_clock" ["thing"] spClock := by
  obtain ⟨fd, F⟩ := fn_is_clock T
  refine ⟨⟨fd, ?_, F.bindsN fun _ _ _ _ _ _ us hl => match us, hl with | [_], _ => rfl⟩, g_is_clock T, F.kp⟩
  refine F.ok sc_is_clock (fun vs H Q E h => ?_) (fun cdv A outer s H vs Q E hr h => ?_)
  · obtain ⟨i, rfl, _⟩ := h
    rfl
  · obtain ⟨c, rfl, hc, q⟩ := h
    refine ⟨_, PSs.nox (pss_one (ps_ret (pe_and (pc (ok_is_integer T) hr (pa_cons (pv 0) pa_nil)) (pe_one (pe_cmpR op_in_seq (pv 0) (pe_glob (v := .ref (He.ga K "CLOCKS")) rfl (g_CLOCKS T) rfl) (by rfl)))))), ?_⟩
    refine ⟨_, rfl, c, rfl, true, rfl, iteT ?_⟩
    refine ⟨_, rfl, _, _, rfl, .inr (x_CLOCKS T _), rfl, rfl, ?_⟩
    have e : (if false = true then !inV (V.int c) [.int 2, .int 3, .int 5, .int 7] else inV (V.int c) [.int 2, .int 3, .int 5, .int 7]) = true := by
      rcases hc with rfl | rfl | rfl | rfl <;> decide
    rw [e]
    exact q
def spWord : Sp := fun vs H Q _ => ∃ x : Str, vs = [.str x] ∧ xyz x ∧ x.length ≤ 1000000 ∧ Q (.bl true) H
theorem sc_is_word : FnScope ["thing"] ["thing"] (defScope s_is_word) := ⟨rfl, rfl, rfl, by decide +kernel, rfl, by decide +kernel, by decide +kernel⟩
theorem ok_is_word (T : Top K mg) : Ok P w K mg base 1 "is_word" ["thing"] spWord := by
  obtain ⟨fd, F⟩ := fn_is_word T
  obtain ⟨tk, hL⟩ := t_LETTERS T
  refine ⟨⟨fd, ?_, F.bindsN fun _ _ _ _ _ _ us hl => match us, hl with | [_], _ => rfl⟩, g_is_word T, F.kp⟩
  refine F.ok sc_is_word (fun vs H Q E h => ?_) (fun cdv A outer s H vs Q E hr h => ?_)
  · obtain ⟨i, rfl, _⟩ := h
    rfl
  · obtain ⟨x, rfl, hx, hl, q⟩ := h
    have hs : sizeLine = 16777216 := sizeLine_eq
    refine ⟨_, PSs.nox (pss_one (ps_ret (pe_and (pe_callB call_isi (by rfl) (f_isinstance T) (by decide +kernel) (pa_cons (pv 0) (pa_cons (pe_bltn (v := .ty "str") (by rfl) (f_str T) (by decide +kernel) rfl) pa_nil)))
      (pe_one (pe_cmpR op_eq (pe_m1 PySem.F.slot_str_strip PySem.F.type_str_strip mt_stripChars (pv 0) (pe_glob (v := .str "xyz") rfl hL ⟨_, rfl⟩)) pe_str (nomark _)))))), ?_⟩
    refine ⟨_, rfl, .str x, _, _, _, true, rfl, .ty "str", .base (.str x), kit_ty (by decide +kernel), true, rfl, iteT ?_⟩
    refine ⟨_, rfl, ⟨x, rfl⟩, x, _, rfl, rfl, by omega, rfl, ?_⟩
    rw [strip_xyz hx]
    exact q
def spShort : Sp := fun vs H Q _ => ∃ x : Str, vs = [.str x] ∧ xyz x ∧ x.length ≤ 12 ∧ Q (.bl true) H
theorem sc_is_short_word : FnScope ["thing"] ["thing"] (defScope s_is_short_word) := ⟨rfl, rfl, rfl, by decide +kernel, rfl, by decide +kernel, by decide +kernel⟩
theorem ok_is_short_word (T : Top K mg) : Ok P w K mg base 2 "is_short_word" ["thing"] spShort := by
  obtain ⟨fd, F⟩ := fn_is_short_word T
  obtain ⟨tk, hL⟩ := i_MOST_LETTERS T
  refine ⟨⟨fd, ?_, F.bindsN fun _ _ _ _ _ _ us hl => match us, hl with | [_], _ => rfl⟩, g_is_short_word T, F.kp⟩
  refine F.ok sc_is_short_word (fun vs H Q E h => ?_) (fun cdv A outer s H vs Q E hr h => ?_)
  · obtain ⟨i, rfl, _⟩ := h
    rfl
  · obtain ⟨x, rfl, hx, hl, q⟩ := h
    have hs : sizeLine = 16777216 := sizeLine_eq
    refine ⟨_, PSs.nox (pss_one (ps_ret (pe_and (pc (ok_is_word T) hr (pa_cons (pv 0) pa_nil)) (pe_one (pe_cmpR op_le (pe_callB call_len_str (by rfl) (f_len T) PySem.boot_len (pa_cons (pv 0) pa_nil)) (pe_glob (v := .int 12) rfl hL ⟨_, rfl⟩) (nomark _)))))), ?_⟩
    refine ⟨_, rfl, x, rfl, hx, by omega, true, rfl, iteT ?_⟩
    refine ⟨_, rfl, x, rfl, by omega, _, _, rfl, rfl, ?_⟩
    show Q (.bl (decide ((x.length : Int) ≤ 12))) H
    rw [decide_eq_true (show ((x.length : Int) ≤ 12) by omega)]
    exact q
end
end Fp

set_option Elab.async false
set_option linter.all false
set_option maxRecDepth 100000
set_option maxHeartbeats 2000000
namespace Fp
open PySem PySem.Spec PyProof.Rows L2
/-- a table that Bag lets: by the clock c, words of at most m letters, at most k of them -/
structure VT (c : Int) (m k : Nat) (l : Tb) : Prop where
  nd : Nd l
  nu : ∀ p ∈ l, 1 ≤ p.2 ∧ p.2 < c
  wd : ∀ p ∈ l, xyz p.1 ∧ p.1.length ≤ m
  ln : l.length ≤ k
theorem VT.mono {c : Int} {m k m' k' : Nat} {l : Tb} (h : VT c m k l) (hm : m ≤ m') (hk : k ≤ k') : VT c m' k' l :=
  ⟨h.nd, h.nu, fun p hp => ⟨(h.wd p hp).1, Nat.le_trans (h.wd p hp).2 hm⟩, Nat.le_trans h.ln hk⟩
theorem find_of {l : Tb} (h : Nd l) {i : Nat} {p : Str × Int} (e : l[i]? = some p) : (l.find? fun q => decide (q.1 = p.1)) = some p := by
  induction l generalizing i with
  | nil => simp at e
  | cons q r ih =>
    have h' : (q.1 :: r.map (·.1)).Nodup := h
    obtain ⟨h1, h2⟩ := List.nodup_cons.mp h'
    cases i with
    | zero =>
      have : q = p := by simpa using e
      subst this
      rw [List.find?_cons_of_pos (by simp)]
    | succ i =>
      have e' : r[i]? = some p := by simpa using e
      have hm : p ∈ r := List.mem_of_getElem? e'
      have hne : q.1 ≠ p.1 := fun z => h1 (z ▸ List.mem_map.mpr ⟨p, hm, rfl⟩)
      rw [List.find?_cons_of_neg (by simpa using hne)]
      exact ih h2 e'
theorem num_of {l : Tb} (h : Nd l) {i : Nat} {p : Str × Int} (e : l[i]? = some p) : num l p.1 = p.2 := by
  unfold num
  rw [find_of h e]
  rfl
theorem has_of {l : Tb} {i : Nat} {p : Str × Int} (e : l[i]? = some p) : has l p.1 = true := has_iff.mpr (List.mem_map.mpr ⟨p, List.mem_of_getElem? e, rfl⟩)
theorem kv_at {l : Tb} {i : Nat} {k : Key} {v : V} (e : (kv l)[i]? = some (k, v)) : ∃ p, l[i]? = some p ∧ k = Sum.inr p.1 ∧ v = .int p.2 := by
  unfold kv at e
  rw [List.getElem?_map] at e
  cases q : l[i]? with
  | none => rw [q] at e; cases e
  | some p =>
    rw [q] at e
    have e2 := Option.some.inj e
    injection e2 with e3 e4
    exact ⟨p, rfl, e3.symm, e4.symm⟩
section
variable {P : Program} {w : World} {K : PySem.W.Frag} {mg : Str → Option Value} {base : Heap}
def spAreWords : Sp := fun vs H Q _ => ∃ (c : Int) (d : Addr) (l : Tb), vs = [.int c, .ref d] ∧ H d = some (.dK (kv l)) ∧ VT c 12 300 l ∧ ∀ H', Same H H' → Q (.bl true) H'
abbrev nAreWords : List Str := ["clock", "thing", "word"]
theorem sc_are_words : FnScope nAreWords ["clock", "thing"] (defScope s_are_words) := ⟨rfl, rfl, rfl, by decide +kernel, rfl, by decide +kernel, by decide +kernel⟩
theorem ok_are_words (T : Top K mg) : Ok P w K mg base 4 "are_words" ["clock", "thing"] spAreWords := by
  obtain ⟨fd, F⟩ := fn_are_words T
  obtain ⟨tk, hL⟩ := i_MOST_WORDS T
  refine ⟨⟨fd, ?_, F.bindsN fun _ _ _ _ _ _ us hl => match us, hl with | [_, _], _ => rfl⟩, g_are_words T, F.kp⟩
  refine F.ok sc_are_words (fun vs H Q E h => ?_) (fun cdv A outer s H vs Q E hr h => ?_)
  · obtain ⟨c, d, l, rfl, _⟩ := h
    rfl
  · obtain ⟨c, d, l, rfl, hd, hv, q⟩ := h
    have hu := hu_of hr
    have nd := sc_are_words.nd
    have hr2 : Room 2 _ := hr.mono (by decide)
    have hs : sizeLine = 16777216 := sizeLine_eq
    have hln := hv.ln
    refine ⟨_, PSs.nox (pss_cons (ps_if (PW.pt (pw_or (pt_not (pt_val (pe_callB call_isi (by rfl) (f_isinstance T) (by decide +kernel) (pa_cons (pv 1) (pa_cons (pe_bltn (v := .ty "dict") (by rfl) (f_dict T) (by decide +kernel) rfl) pa_nil)))))
        (pw_or1 (pt_cmpR op_gt (pe_callB call_lenD (by rfl) (f_len T) PySem.boot_len (pa_cons (pv 1) pa_nil)) (pe_glob (v := .int 300) rfl hL ⟨_, rfl⟩) (nomark _))))) (pss_one (ps_ret pe_bl)) pss_nil)
      (pss_one (ps_ret (pe_callB (cr_all rfl) (by rfl) (f_all T) (by decide +kernel) (pa_cons (pe_lock (pe_lc (own := [("word", 2)]) (g := gName 2) (tt := tYes) rfl nd (pi_keys (pv 1)) (blkOk_by (N := nAreWords) (sc := defScope s_are_words) (by decide +kernel))
        (fun _ _ _ _ _ => pg_name (i := 2) nd rfl (Or.inl rfl)) (fun _ _ _ _ _ => pts_nil)
        (fun _ _ _ _ _ => pe_and (pc (ok_is_short_word T) hr2 (pa_cons (pv 2) pa_nil)) (pe_one (pc (ok_is_from_to T) hr2 (pa_cons (pe_dget hu (pv 1) (pv 2) (fun _ _ => rfl)) (pa_cons pe_int (pa_cons (pe_op op_sub (pv 0) pe_int) pa_nil)))))))) pa_nil))))), ?_⟩
    refine ⟨_, rfl, .ref d, _, _, _, true, rfl, .ty "dict", .base (.dK hd), kit_ty (by decide +kernel), true, rfl, iteF ?_⟩
    refine ⟨_, rfl, d, _, rfl, hd, _, _, rfl, rfl, _, rfl, ?_⟩
    rw [show decide ((300 : Int) < ((kv l).length : Int)) = false by
      rw [kv_len]
      exact decide_eq_false (by omega)]
    refine iteF ?_
    refine ⟨d, _, hd, trivial, fun od => ?_⟩
    refine ⟨_, rfl, d, od, rfl, .inl ⟨kv l, upd_same, fun D hD => ?_⟩⟩
    have nD : D ≠ d := fun e => by
      rw [e, upd_same] at hD
      cases hD
    refine lc_it walk_keys (fun i H' => H' D = some (.lst ((List.replicate i true).map V.bl)) ∧ But d H H' ∧ H' d = some (.frz od (.dK (kv l)))) ⟨upd_same, ?_, ?_⟩ (fun i H' _ hP => hP.2.2) ?_ ?_
    · intro b o e n
      have nb : b ≠ D := by
        rintro rfl
        rw [upd_ne n, e] at hD
        cases hD
      rw [upd_ne nb, upd_ne n]
      exact e
    · rw [upd_ne nD.symm]
      exact upd_same
    · rintro i x H1 H2 hi ⟨p1, p2, p3⟩ ⟨rfl, k, v, e, rfl⟩
      obtain ⟨p, ep, rfl, rfl⟩ := kv_at e
      have hp : p ∈ l := List.mem_of_getElem? ep
      rw [kv_len] at hi
      refine ⟨rfl, ?_⟩
      refine ⟨_, rfl, p.1, rfl, (hv.wd p hp).1, (hv.wd p hp).2, true, rfl, iteT ?_⟩
      refine ⟨_, rfl, _, rfl, d, .int p.2, rfl, .inl ⟨kv l, Sum.inr p.1, .inr ⟨od, p3⟩, rfl, ?_⟩, ?_⟩
      · rw [valV_yes (has_of ep), num_of hv.nd ep]
      · refine ⟨_, rfl, _, _, rfl, rfl, p.2, 1, c - 1, rfl, ?_⟩
        have hn := hv.nu p hp
        rw [decide_eq_true (show (1 : Int) ≤ p.2 from hn.1), decide_eq_true (show p.2 ≤ c - 1 by omega)]
        refine ⟨_, p1, ?_, ?_, ?_, ?_⟩
        · rw [List.length_map, List.length_replicate]
          omega
        · rw [upd_same, List.replicate_succ', List.map_append]
          rfl
        · intro b o e n
          have nb : b ≠ D := by
            rintro rfl
            rw [upd_ne n, e] at hD
            cases hD
          rw [upd_ne nb]
          exact p2 b o e n
        · rw [upd_ne nD.symm]
          exact p3
    · rintro H' ⟨p1, p2, p3⟩
      refine ⟨p3, D, List.replicate (kv l).length true, rfl, .inl (.inl ?_), ?_⟩
      · rw [upd_ne nD]
        exact p1
      · have e1 : (List.replicate (kv l).length true).all id = true := by
          rw [List.all_eq_true]
          intro b hb
          exact (List.mem_replicate.mp hb).2
        rw [e1]
        refine q _ fun b o e => ?_
        by_cases n : b = d
        · rw [n, upd_same, ← hd, ← n, e]
        · rw [upd_ne n]
          exact p2 b o e n
end
end Fp

set_option Elab.async false
set_option linter.all false
set_option maxRecDepth 100000
set_option maxHeartbeats 2000000
namespace L2
open PySem PySem.Spec PyProof.Rows
section
variable {X : Cx}
def rEqP (K : PySem.W.Frag) : R2 := fun x y H Q => ∃ d e, Dp K H x d ∧ Dp K H y e ∧ d.plain = true ∧ e.plain = true ∧ d.depth ≤ 64 ∧ Q (.bl (PyData.eqv d e)) H
theorem op_eqP (hu : X.A.units + 64 < cLine) : OpR X (compareOp .Eq) (rEqP X.K) := by
  intro pins s σ H x y v u Q I rx ry h
  obtain ⟨d, e, hd, he, sd, se, hdp, q⟩ := h
  obtain ⟨as, r1⟩ := Dp.reads I d x v hd rx
  obtain ⟨bs, r2⟩ := Dp.reads I e y u he ry
  exact SeqAt.eq_plain r1 r2 sd se (by omega) ⟨.bl _, H, I, rfl, q⟩
end
end L2
namespace Fp
open PySem PySem.Spec PyProof.Rows L2
/-! ### the tuple of pairs -/
def WordsAt (H : Hp) (t : Addr) (L : Tb) : Prop := ∃ (ps : List Addr) (o : Obj), H t = some (.frz o (.tup (ps.map V.ref))) ∧ PlainTup o ∧ Paired (fun p (q : Str × Int) => H p = some (.tup [.str q.1, .int q.2])) ps L
theorem WordsAt.but {a : Addr} {H H' : Hp} {t : Addr} {L : Tb} (h : WordsAt H t L) (k : But a H H') (ht : t ≠ a) (ha : ∀ xs, H a ≠ some (.tup xs)) : WordsAt H' t L := by
  obtain ⟨ps, o, h1, h2, h3⟩ := h
  exact ⟨ps, o, k _ _ h1 ht, h2, Paired.mapP h3 fun p q e => k _ _ e fun z => ha _ (z ▸ e)⟩
theorem WordsAt.same {H H' : Hp} {t : Addr} {L : Tb} (h : WordsAt H t L) (k : Same H H') : WordsAt H' t L := by
  obtain ⟨ps, o, h1, h2, h3⟩ := h
  exact ⟨ps, o, k _ _ h1, h2, Paired.mapP h3 fun p q e => k _ _ e⟩
/-- a table in the order of words -/
def ordW (l : Tb) : List Str := (l.map (·.1)).mergeSort leR
def canon (l : Tb) : Tb := (ordW l).map fun x => (x, num l x)
theorem ordW_len (l : Tb) : (ordW l).length = l.length := by
  unfold ordW
  rw [List.length_mergeSort, List.length_map]
theorem ordW_mem {l : Tb} {x : Str} : x ∈ ordW l ↔ x ∈ l.map (·.1) := by
  unfold ordW
  exact (List.mergeSort_perm _ _).mem_iff
/-- what a Bag is -/
def flds (c : Int) (t : Addr) : List (Str × V) := putF "words" (.ref t) (putF "clock" (.int c) [])
theorem kwc : ¬ (("clock" : Str) = "words") := by decide +kernel
theorem flds_eq (c : Int) (t : Addr) : flds c t = ([("clock", V.int c), ("words", V.ref t)] : List (Str × V)) := by
  show (if ("clock" : Str) = "words" then [(("words" : Str), V.ref t)] else (("clock" : Str), V.int c) :: putF "words" (.ref t) []) = _
  rw [if_neg kwc]
  all_goals rfl
theorem flds_clock (c : Int) (t : Addr) : (flds c t).lookup ("clock" : Str) = some (.int c) := by
  unfold flds
  rw [lookup_putF, if_neg kwc, lookup_putF, if_pos rfl]
theorem flds_words (c : Int) (t : Addr) : (flds c t).lookup ("words" : Str) = some (.ref t) := by
  unfold flds
  rw [lookup_putF, if_pos rfl]
def BagAt (K : PySem.W.Frag) (H : Hp) (b : Addr) (c : Int) (L : Tb) : Prop := ∃ dx t, H b = some (.ins (He.ga K "Bag") dx (flds c t)) ∧ WordsAt H t L
theorem BagAt.same {K : PySem.W.Frag} {H H' : Hp} {b : Addr} {c : Int} {L : Tb} (h : BagAt K H b c L) (k : Same H H') : BagAt K H' b c L := by
  obtain ⟨dx, t, h1, h2⟩ := h
  exact ⟨dx, t, k _ _ h1, h2.same k⟩
theorem BagAt.but {K : PySem.W.Frag} {a : Addr} {H H' : Hp} {b : Addr} {c : Int} {L : Tb} (h : BagAt K H b c L) (k : But a H H') (ha : ∃ xs, H a = some (.lst xs)) : BagAt K H' b c L := by
  obtain ⟨dx, t, h1, h2⟩ := h
  obtain ⟨xs, hx⟩ := ha
  obtain ⟨ps, o, e1, e2⟩ := id h2
  exact ⟨dx, t, k _ _ h1 (ne_of h1 hx (by intro z; cases z)), h2.but k (ne_of e1 hx (by intro z; cases z)) fun ys => by rw [hx]; intro z; cases z⟩
def dW (L : Tb) : PyData := .tuple (L.map fun p => .tuple [.str p.1, .int p.2])
theorem dp_words {K : PySem.W.Frag} {H : Hp} {t : Addr} {L : Tb} (h : WordsAt H t L) : Dp K H (.ref t) (dW L) := by
  obtain ⟨ps, o, h1, _, h3⟩ := h
  refine .tup (.inl (.inr ⟨o, h1⟩)) ?_
  clear h1
  induction h3 with
  | nil => exact .nil
  | cons e _ ih => exact .cons (.tup (.inl (.inl e)) (.cons (.str _) (.cons (.int _) .nil))) ih
theorem dW_plain (L : Tb) : (dW L).plain = true := by
  show PyData.plainAll (L.map fun p => .tuple [.str p.1, .int p.2]) = true
  induction L with
  | nil => rfl
  | cons p r ih =>
    rw [List.map_cons]
    simp only [PyData.plainAll, PyData.plain, Bool.and_self, Bool.true_and]
    exact ih
theorem dW_depth (L : Tb) : (dW L).depth ≤ 64 := by
  have h : PyData.depthAll (L.map fun p => PyData.tuple [.str p.1, .int p.2]) ≤ 3 := by
    induction L with
    | nil => simp [PyData.depthAll]
    | cons p r ih =>
      rw [List.map_cons]
      simp only [PyData.depthAll, PyData.depth]
      have : max 0 (max 0 0) = 0 := rfl
      omega
  show (PyData.tuple _).depth ≤ 64
  simp only [PyData.depth]
  omega
theorem dW_eqv : ∀ L M : Tb, PyData.eqv (dW L) (dW M) = decide (L = M) := by
  intro L M
  show PyData.eqvAll (L.map fun p => PyData.tuple [.str p.1, .int p.2]) (M.map fun p => PyData.tuple [.str p.1, .int p.2]) = decide (L = M)
  induction L generalizing M with
  | nil =>
    cases M with
    | nil => rfl
    | cons q s => simp [PyData.eqvAll]
  | cons p r ih =>
    cases M with
    | nil => simp [PyData.eqvAll]
    | cons q s =>
      rw [List.map_cons, List.map_cons]
      simp only [PyData.eqvAll, PyData.eqv, ih s]
      obtain ⟨x, n⟩ := p
      obtain ⟨y, m⟩ := q
      by_cases h1 : x = y <;> by_cases h2 : n = m <;> by_cases h3 : r = s <;> simp [h1, h2, h3]
section
variable {P : Program} {w : World} {K : PySem.W.Frag} {mg : Str → Option Value} {base : Heap}
def spPairs : Sp := fun vs H Q _ => ∃ (d : Addr) (l : Tb), vs = [.ref d] ∧ H d = some (.dK (kv l)) ∧ Nd l ∧ (∀ p ∈ l, p.1.length ≤ 1000000) ∧ l.length ≤ 1000000 ∧ ∀ H' t, Same H H' → H t = none → WordsAt H' t (canon l) → Q (.ref t) H'
abbrev nPairs : List Str := ["table", "word"]
theorem sc_pairs_of : FnScope nPairs ["table"] (defScope s_pairs_of) := ⟨rfl, rfl, rfl, by decide +kernel, rfl, by decide +kernel, by decide +kernel⟩
theorem ok_pairs_of (T : Top K mg) : Ok P w K mg base 2 "pairs_of" ["table"] spPairs := by
  obtain ⟨fd, F⟩ := fn_pairs_of T
  obtain ⟨fdR, FR⟩ := fn_rank_of T
  refine ⟨⟨fd, ?_, F.bindsN fun _ _ _ _ _ _ us hl => match us, hl with | [_], _ => rfl⟩, g_pairs_of T, F.kp⟩
  refine F.ok sc_pairs_of (fun vs H Q E h => ?_) (fun cdv A outer s H vs Q E hr h => ?_)
  · obtain ⟨d, l, rfl, _⟩ := h
    rfl
  · obtain ⟨d, l, rfl, hd, hnd, hwl, hll, q⟩ := h
    have hu := hu_of hr
    have nd := sc_pairs_of.nd
    have hs : sizeLine = 16777216 := sizeLine_eq
    refine ⟨_, PSs.nox (pss_one (ps_ret (pe_callTy call_tupleF (by rfl) (f_tuple T) (by decide +kernel) (pa_cons (pe_lc (own := [("word", 1)]) (g := gName 1) (tt := tYes) rfl nd
      (pi_list (pe_callBK (cr_sortRk rfl FR (f_len T) hr) (by rfl) (f_sorted T) (by decide +kernel) (pa_cons (pv 0) pa_nil) (pk_cons (pe_glob (v := .ref (He.ga K "rank_of")) rfl (g_rank_of T) rfl) pk_nil)))
      (blkOk_by (N := nPairs) (sc := defScope s_pairs_of) (by decide +kernel)) (fun _ _ _ _ _ => pg_name (i := 1) nd rfl (Or.inl rfl)) (fun _ _ _ _ _ => pts_nil)
      (fun _ _ _ _ _ => pe_tup (pa_cons (pv 1) (pa_cons (pe_dget hu (pv 0) (pv 1) (fun _ _ => rfl)) pa_nil)))) pa_nil)))), ?_⟩
    refine ⟨_, rfl, d, kv l, l.map (·.1), rfl, rfl, .inl hd, kv_keys l, ?_, fun S hS => ?_⟩
    · intro x hx
      obtain ⟨p, hp, rfl⟩ := List.mem_map.mp hx
      have := hwl p hp
      omega
    · refine ⟨S, rfl, ⟨_, .inl (.inl upd_same)⟩, fun D hD => ?_⟩
      have nDS : D ≠ S := fun e => by
        rw [e, upd_same] at hD
        cases hD
      have hD0 : H D = none := by
        rw [upd_ne nDS] at hD
        exact hD
      have nSd : d ≠ S := ne_of_none hd hS
      have nDd : d ≠ D := ne_of_none hd hD0
      refine lc_it (walk_list (xs := (ordW l).map V.str)) (fun i H' => ∃ ps : List Addr, H' D = some (.lst (ps.map V.ref)) ∧ ps.length = i ∧ Paired (fun p (q : Str × Int) => H' p = some (.tup [.str q.1, .int q.2])) ps ((canon l).take i) ∧ Same H H' ∧ H' S = some (.lst ((ordW l).map V.str)))
        ⟨[], upd_same, rfl, .nil, ?_, ?_⟩ (fun i H' _ hP => .inl (.inl hP.choose_spec.2.2.2.2)) ?_ ?_
      · intro b o e
        rw [upd_ne (ne_of_none e hD0), upd_ne (ne_of_none e hS)]
        exact e
      · rw [upd_ne nDS.symm]
        exact upd_same
      · rintro i x H1 H2 hi ⟨ps, p1, p2, p3, p4, p5⟩ ⟨rfl, e⟩
        rw [List.length_map, ordW_len] at hi
        rw [List.getElem?_map] at e
        cases ew : (ordW l)[i]? with
        | none => rw [ew] at e; cases e
        | some x0 =>
          rw [ew] at e
          have e2 : V.str x0 = x := Option.some.inj e
          subst e2
          have hx0 : x0 ∈ l.map (·.1) := ordW_mem.mp (List.mem_of_getElem? ew)
          refine ⟨rfl, ?_⟩
          refine ⟨_, rfl, _, rfl, _, rfl, d, .int (num l x0), rfl, .inl ⟨kv l, Sum.inr x0, .inl (p4 _ _ hd), rfl, (valV_yes (has_iff.mpr hx0)).symm⟩, ?_⟩
          refine ⟨by show 2 ≤ sizeLine; omega, fun p hp => ?_⟩
          have npD : D ≠ p := ne_of_none p1 hp
          have npS : S ≠ p := ne_of_none p5 hp
          refine ⟨ps.map V.ref, ?_, ?_, ps ++ [p], ?_, ?_, ?_, ?_, ?_⟩
          · rw [upd_ne npD]
            exact p1
          · rw [List.length_map]
            omega
          · rw [upd_same, List.map_append]
            rfl
          · rw [List.length_append, p2]
            rfl
          · have ec : (canon l).take (i + 1) = (canon l).take i ++ [(x0, num l x0)] := by
              rw [List.take_add_one]
              unfold canon
              rw [List.getElem?_map, ew]
              rfl
            rw [ec]
            refine Paired.snoc (Paired.mapP p3 fun a b z => ?_) ?_
            · have na : a ≠ D := ne_of z p1 (by intro y; cases y)
              rw [upd_ne na, upd_ne (ne_of_none z hp)]
              exact z
            · rw [upd_ne npD.symm]
              exact upd_same
          · intro b o z
            have nb : b ≠ D := ne_of_none z hD0
            rw [upd_ne nb, upd_ne (ne_of_none (p4 b o z) hp)]
            exact p4 b o z
          · rw [upd_ne nDS.symm, upd_ne npS]
            exact p5
      · rintro H' ⟨ps, p1, p2, p3, p4, p5⟩
        have en : ((ordW l).map V.str).length = (canon l).length := by
          unfold canon
          rw [List.length_map, List.length_map]
        rw [en, List.take_length] at p3
        refine ⟨D, ps.map V.ref, rfl, .inl (.inl p1), fun t o ht hpt => ?_⟩
        have ht0 : H t = none := by
          cases z : H t with
          | none => rfl
          | some u =>
            rw [p4 t u z] at ht
            cases ht
        refine q _ t (p4.trans (same_upd ht)) ht0 ⟨ps, o, upd_same, hpt, Paired.mapP p3 fun a b z => ?_⟩
        rw [upd_ne (ne_of_none z ht)]
        exact z
end
end Fp

set_option Elab.async false
set_option linter.all false
set_option maxRecDepth 100000
set_option maxHeartbeats 2000000
namespace Fp
open PySem PySem.Spec PyProof.Rows L2
section
variable {P : Program} {w : World} {K : PySem.W.Frag} {mg : Str → Option Value} {base : Heap}
def spInit (K : PySem.W.Frag) : Sp := fun vs H Q _ => ∃ (b d dx : Addr) (c : Int) (l : Tb), vs = [.ref b, .int c, .ref d] ∧ H b = some (.ins (He.ga K "Bag") dx []) ∧ isCk c ∧ H d = some (.dK (kv l)) ∧ VT c 12 300 l ∧
  ∀ H', But b H H' → BagAt K H' b c (canon l) → Q .non H'
abbrev nInit : List Str := ["self", "clock", "words"]
theorem sc_init : FnScope nInit nInit (defScope s_Bag__init__) := ⟨rfl, rfl, rfl, by decide +kernel, rfl, by decide +kernel, by decide +kernel⟩
theorem ok_init (T : Top K mg) : ∃ fd, FnOk P w K mg base CX0 5 (He.ma K (He.ga K "Bag") "__init__") fd nInit (spInit K) ∧ Binds K fd nInit [] := by
  obtain ⟨fd, F⟩ := fn_Bag__init__ T
  refine ⟨fd, ?_, F.bindsN fun _ _ _ _ _ _ us hl => match us, hl with | [_, _, _], _ => rfl⟩
  refine F.ok sc_init (fun vs H Q E h => ?_) (fun cdv A outer s H vs Q E hr h => ?_)
  · obtain ⟨b, d, dx, c, l, rfl, _⟩ := h
    rfl
  · obtain ⟨b, d, dx, c, l, rfl, hb, hc, hd, hv, q⟩ := h
    have hr2 : Room 2 _ := hr.mono (by decide)
    refine ⟨_, PSs.nox (pss_cons (ps_if (pt_not (pt_val (pc (ok_is_clock T) hr2 (pa_cons (pv 1) pa_nil)))) (pss_one ps_never) pss_nil)
      (pss_cons (ps_if (pt_not (pt_val (pc (ok_are_words T) hr (pa_cons (pv 1) (pa_cons (pv 2) pa_nil))))) (pss_one ps_never) pss_nil)
      (pss_cons (ps_fld (pv 0) (pv 1) rfl)
      (pss_one (ps_fld (pv 0) (pc (ok_pairs_of T) hr2 (pa_cons (pv 2) pa_nil)) rfl))))), ?_⟩
    refine ⟨_, rfl, c, rfl, hc, true, rfl, iteF ?_⟩
    refine ⟨_, rfl, _, rfl, c, d, l, rfl, hd, hv, fun H1 s1 => ⟨true, rfl, iteF ?_⟩⟩
    have nbd : b ≠ d := ne_of hb hd (by intro z; cases z)
    refine ⟨_, rfl, _, rfl, b, _, dx, [], rfl, s1 _ _ hb, cls_Bag T, na_Bag_clock T, by show 0 < 1000; decide, ?_⟩
    refine ⟨_, rfl, d, l, rfl, ?_, hv.nd, fun p hp => Nat.le_trans (hv.wd p hp).2 (by decide), Nat.le_trans hv.ln (by decide), fun H2 t s2 ht hw => ?_⟩
    · rw [upd_ne nbd.symm]
      exact s1 _ _ hd
    refine ⟨_, rfl, b, _, dx, _, rfl, s2 _ _ upd_same, cls_Bag T, na_Bag_words T, by show 1 < 1000; decide, ?_⟩
    have nt : t ≠ b := fun e => by
      rw [e, upd_same] at ht
      cases ht
    refine q _ (fun y o e n => ?_) ⟨dx, t, upd_same, ?_⟩
    · rw [upd_ne n]
      refine s2 _ _ ?_
      rw [upd_ne n]
      exact s1 _ _ e
    · exact hw.but (a := b) but_upd nt fun xs z => by
        rw [s2 _ _ upd_same] at z
        cases z
/-- Bag(c, d) -/
theorem pbag {X : Cx} {p pos : Pos} {e : Expr} {es : List Expr} {t : TA} (T : Top X.K X.mg) (hr : Room 6 X.A) (ha : PA X (e :: es) t) (hg : Gl X "Bag" := by rfl)
    (he : starEach (e :: es) X.env = (false, eval e X.env) :: starEach es X.env := by rfl) (hpl : (backTo pos (starEach es X.env)).any (·.1) = false := by rfl) : PE X (.Call (.Name "Bag" p) (e :: es) [] pos) (tMake (He.ga X.K "Bag") (spInit X.K) [] E0 t) := by
  obtain ⟨fd, F, b⟩ := ok_init (P := X.prog) (w := X.w) (base := X.base) T
  exact pe_make (mk_Bag T) F hr hg (g_Bag T) b .nil pass0 ha (by decide) he hpl
theorem bag_made {K : PySem.W.Frag} {H : Hp} {d : Addr} {c : Int} {l : Tb} {Q : VK} (hc : isCk c) (hd : H d = some (.dK (kv l))) (hv : VT c 12 300 l) (h : ∀ H' b, Same H H' → H b = none → BagAt K H' b c (canon l) → Q (.ref b) H') :
    ∀ x dx, H x = none → H dx = none → dx ≠ x → spInit K (.ref x :: ([.int c, .ref d] ++ [])) (upd (upd H dx (.own x)) x (.ins (He.ga K "Bag") dx [])) (fun v H2 => v = .non ∧ Q (.ref x) H2) E0 := fun x dx hx hdx ne => by
  refine ⟨x, d, dx, c, l, rfl, upd_same, hc, ?_, hv, fun H' k hb => ⟨rfl, h H' x (fun b o e => ?_) hx hb⟩⟩
  · rw [upd_ne (ne_of_none hd hx), upd_ne (ne_of_none hd hdx)]
    exact hd
  · refine k b o ?_ (ne_of_none e hx)
    rw [upd_ne (ne_of_none e hx), upd_ne (ne_of_none e hdx)]
    exact e
/-- what == answers -/
def spEqB (K : PySem.W.Frag) : Sp := fun vs H Q _ => ∃ (a : Addr) (y : V) (c : Int) (L : Tb), vs = [.ref a, y] ∧ BagAt K H a c L ∧
  ((∃ b c' M, y = .ref b ∧ BagAt K H b c' M ∧ Q (.bl (decide (c = c' ∧ L = M))) H) ∨ (∃ t, TyX K H y t ∧ PySem.W.kitOne K t (.ref (He.ga K "Bag")) = some false ∧ Q (.bl false) H))
abbrev nEq : List Str := ["self", "other"]
theorem sc_eq : FnScope nEq nEq (defScope s_Bag__eq__) := ⟨rfl, rfl, rfl, by decide +kernel, rfl, by decide +kernel, by decide +kernel⟩
theorem ok_eq (T : Top K mg) : ∃ fd, FnOk P w K mg base CX0 1 (He.ma K (He.ga K "Bag") "__eq__") fd nEq (spEqB K) ∧ Binds K fd nEq [] := by
  obtain ⟨fd, F⟩ := fn_Bag__eq__ T
  refine ⟨fd, ?_, F.bindsN fun _ _ _ _ _ _ us hl => match us, hl with | [_, _], _ => rfl⟩
  refine F.ok sc_eq (fun vs H Q E h => ?_) (fun cdv A outer s H vs Q E hr h => ?_)
  · obtain ⟨a, y, c, L, rfl, _⟩ := h
    rfl
  · obtain ⟨a, y, c, L, rfl, ⟨dx, t, ha, hw⟩, h⟩ := h
    refine ⟨_, PSs.nox (pss_one (ps_ret (pe_and (pe_callB call_isi (by rfl) (f_isinstance T) (by decide +kernel) (pa_cons (pv 1) (pa_cons (pe_glob (v := .ref (He.ga K "Bag")) rfl (g_Bag T) rfl) pa_nil)))
      (pe_and (pe_cmpR op_eq (pe_fld (pv 0) rfl) (pe_fld (pv 1) rfl) (nomark _)) (pe_one (pe_cmpR (op_eqP hr.units) (pe_fld (pv 0) rfl) (pe_fld (pv 1) rfl) (nomark _))))))), ?_⟩
    rcases h with ⟨b, c', M, rfl, ⟨dy, t', hb, hw'⟩, q⟩ | ⟨ty, hty, hk, q⟩
    · refine ⟨_, rfl, _, _, _, _, true, rfl, .own _, .base (.ins hb (cls_Bag T) (x_class T) (x_get T) (x_takes T) (x_mro T)), x_is T, true, rfl, iteT ?_⟩
      refine ⟨_, rfl, a, _, dx, _, _, rfl, ha, cls_Bag T, na_Bag_clock T, flds_clock _ _, _, rfl, b, _, dy, _, _, rfl, hb, cls_Bag T, na_Bag_clock T, flds_clock _ _, rfl, _, rfl, ?_⟩
      by_cases e : c = c'
      · rw [decide_eq_true (show V.int c = V.int c' by rw [e])]
        refine iteT ?_
        refine ⟨_, rfl, a, _, dx, _, _, rfl, ha, cls_Bag T, na_Bag_words T, flds_words _ _, _, rfl, b, _, dy, _, _, rfl, hb, cls_Bag T, na_Bag_words T, flds_words _ _, dW L, dW M, dp_words hw, dp_words hw', dW_plain L, dW_plain M, dW_depth L, ?_⟩
        rw [dW_eqv]
        have e2 : decide (c = c' ∧ L = M) = decide (L = M) := by simp [e]
        rw [e2] at q
        exact q
      · rw [decide_eq_false (show ¬ V.int c = V.int c' from fun z => e (by injection z))]
        refine iteF ?_
        rw [decide_eq_false (show ¬ (c = c' ∧ L = M) from fun z => e z.1)] at q
        exact q
    · exact ⟨_, rfl, y, _, ty, _, false, rfl, .own _, hty, hk, false, rfl, iteF q⟩
end
end Fp

set_option Elab.async false
set_option linter.all false
set_option maxRecDepth 100000
set_option maxHeartbeats 4000000
namespace Fp
open PySem PySem.Spec PyProof.Rows L2
/-! ### the hand: what is drawn from -/
def HandAt (ca : Addr) (H : Hp) (h : Addr) : Prop := ∃ (cs : List Int) (a l sd tn : Int), H h = some (.lst [.ref ca, .int a, .int l, .int sd, .int tn]) ∧ H ca = some (.lst (cs.map V.int)) ∧ cs.length ≤ 63 ∧ (∀ c ∈ cs, 0 ≤ c) ∧ 0 ≤ a ∧ 0 ≤ l
theorem HandAt.ne {H : Hp} {h ca : Addr} {cs : List Int} {a l sd tn : Int} (h1 : H h = some (.lst [.ref ca, .int a, .int l, .int sd, .int tn])) (h2 : H ca = some (.lst (cs.map V.int))) : ca ≠ h := by
  refine ne_of h2 h1 fun z => ?_
  injection z with z
  cases cs with
  | nil => cases z
  | cons c r =>
    rw [List.map_cons] at z
    injection z with z1
    cases z1
theorem HandAt.lst {ca : Addr} {H : Hp} {h : Addr} (x : HandAt ca H h) : ∃ xs, H h = some (.lst xs) := by
  obtain ⟨cs, a, l, sd, tn, h1, _⟩ := x
  exact ⟨_, h1⟩
theorem HandAt.but {ca : Addr} {H H' : Hp} {h d : Addr} (x : HandAt ca H h) (k : But d H H') (hd : ∀ xs, H d ≠ some (.lst xs)) : HandAt ca H' h := by
  obtain ⟨cs, a, l, sd, tn, h1, h2, r⟩ := x
  exact ⟨cs, a, l, sd, tn, k _ _ h1 (fun z => hd _ (z ▸ h1)), k _ _ h2 (fun z => hd _ (z ▸ h2)), r⟩
theorem HandAt.same {ca : Addr} {H H' : Hp} {h : Addr} (x : HandAt ca H h) (k : Same H H') : HandAt ca H' h := by
  obtain ⟨cs, a, l, sd, tn, h1, h2, r⟩ := x
  exact ⟨cs, a, l, sd, tn, k _ _ h1, k _ _ h2, r⟩
theorem HandAt.off {ca : Addr} {H H' : Hp} {h d : Addr} (x : HandAt ca H h) (k : But d H H') (h1 : h ≠ d) (h2 : ca ≠ d) : HandAt ca H' h := by
  obtain ⟨cs, a, l, sd, tn, g1, g2, r⟩ := x
  exact ⟨cs, a, l, sd, tn, k _ _ g1 h1, k _ _ g2 h2, r⟩
theorem HandAt.cells {ca : Addr} {H : Hp} {h : Addr} (x : HandAt ca H h) : ∃ xs, H ca = some (.lst xs) := by
  obtain ⟨cs, a, l, sd, tn, h1, h2, _⟩ := x
  exact ⟨_, h2⟩
theorem cut63 (ns : List Int) : cutV (ns.map V.int) none (some 63) = (ns.take 63).map V.int := by
  unfold cutV
  rw [show HT.sIx (ns.map V.int).length (ns.map V.int).length (some 63) = min 63 (ns.map V.int).length from HT.sIx_nat _ _ 63, HT.sIx_none, List.drop_zero, Nat.sub_zero, List.length_map, List.map_take]
  by_cases h : ns.length ≤ 63
  · rw [Nat.min_eq_right h, List.take_of_length_le (by rw [List.length_map]; exact Nat.le_refl _), List.take_of_length_le (by rw [List.length_map]; exact h)]
  · rw [Nat.min_eq_left (by omega)]
section
variable {P : Program} {w : World} {K : PySem.W.Frag} {mg : Str → Option Value} {base : Heap}
def spHand (K : PySem.W.Frag) : Sp := fun vs H Q _ => ∃ (a : Addr) (ns : List Int), vs = [.ref a] ∧ SqL K H a (ns.map V.int) ∧ ∀ H' h ca, Same H H' → H h = none → HandAt ca H' h → Q (.ref h) H'
abbrev nHand : List Str := ["_law_script", "_law_cells", "_law_cell"]
theorem sc_hand : FnScope nHand ["_law_script"] (defScope s__law_hand) := ⟨rfl, rfl, rfl, by decide +kernel, rfl, by decide +kernel, by decide +kernel⟩
theorem ok_hand (T : Top K mg) : Ok P w K mg base 1 "_law_hand" ["_law_script"] (spHand K) := by
  obtain ⟨fd, F⟩ := fn__law_hand T
  refine ⟨⟨fd, ?_, F.bindsN fun _ _ _ _ _ _ us hl => match us, hl with | [_], _ => rfl⟩, g__law_hand T, F.kp⟩
  refine F.ok sc_hand (fun vs H Q E h => ?_) (fun cdv A outer s H vs Q E hr h => ?_)
  · obtain ⟨a, ns, rfl, _⟩ := h
    rfl
  · obtain ⟨a, ns, rfl, hS, q⟩ := h
    have nd := sc_hand.nd
    have hs : sizeLine = 16777216 := sizeLine_eq
    refine ⟨_, PSs.nox (pss_cons (ps_setLc (i := 1) (own := [("_law_cell", 2)]) (g := gName 2) (tt := tYes) (by rfl) nd rfl rfl (sw_true rfl rfl rfl (by decide +kernel)) (pi_list (pe_slice sl_list (pv 0) po_none (po_some pe_int)))
        (blkOk_by (N := nHand) (sc := defScope s__law_hand) (by decide +kernel)) (fun _ _ _ _ _ => pg_name (i := 2) nd rfl (Or.inl rfl)) (fun _ _ _ _ _ => pts_nil)
        (fun _ _ _ _ _ => pe_callB call_abs (by rfl) (f_abs T) (by decide +kernel) (pa_cons (pe_callTy call_int1 (by rfl) (f_int T) boot_int (pa_cons (pv 2) pa_nil)) pa_nil)))
      (pss_one (ps_ret (pe_lst (pa_cons (pv 1) (pa_cons pe_int (pa_cons pe_int (pa_cons (pe_op op_add pe_int (pe_callB call_len (by rfl) (f_len T) PySem.boot_len (pa_cons (pv 1) pa_nil))) (pa_cons pe_int pa_nil))))))))), ?_⟩
    refine ⟨_, rfl, _, rfl, a, _, rfl, hS, fun S hSn => ?_⟩
    rw [cut63]
    refine ⟨S, rfl, ⟨_, .inl (.inl upd_same)⟩, fun D hD => ?_⟩
    have nDS : D ≠ S := fun e => by
      rw [e, upd_same] at hD
      cases hD
    have hD0 : H D = none := by
      rw [upd_ne nDS] at hD
      exact hD
    refine lc_it (walk_list (xs := (ns.take 63).map V.int)) (fun i H' => (∃ cs : List Int, H' D = some (.lst (cs.map V.int)) ∧ cs.length = i ∧ ∀ c ∈ cs, 0 ≤ c) ∧ Same H H' ∧ H' S = some (.lst ((ns.take 63).map V.int)))
      ⟨⟨[], upd_same, rfl, fun c hc => by cases hc⟩, ?_, ?_⟩ (fun i H' _ hP => .inl (.inl hP.2.2)) ?_ ?_
    · intro b o e
      rw [upd_ne (ne_of_none e hD0), upd_ne (ne_of_none e hSn)]
      exact e
    · rw [upd_ne nDS.symm]
      exact upd_same
    · rintro i x H1 H2 hi ⟨⟨cs, p1, p2, p3⟩, p4, p5⟩ ⟨rfl, e⟩
      rw [List.length_map, List.length_take] at hi
      rw [List.getElem?_map] at e
      cases en : (ns.take 63)[i]? with
      | none => rw [en] at e; cases e
      | some n =>
        rw [en] at e
        have e2 : V.int n = x := Option.some.inj e
        subst e2
        refine ⟨rfl, ?_⟩
        refine ⟨_, rfl, .inl ⟨n, rfl, n, rfl, cs.map V.int, p1, ?_, ⟨cs ++ [if n < 0 then -n else n], ?_, ?_, ?_⟩, ?_, ?_⟩⟩
        · rw [List.length_map]
          omega
        · rw [upd_same, List.map_append]
          rfl
        · rw [List.length_append, p2]
          rfl
        · intro c hc
          rcases List.mem_append.mp hc with hc | hc
          · exact p3 c hc
          · have : c = if n < 0 then -n else n := by simpa using hc
            rw [this]
            split <;> omega
        · intro b o z
          rw [upd_ne (ne_of_none z hD0)]
          exact p4 b o z
        · rw [upd_ne nDS.symm]
          exact p5
    · rintro H' ⟨⟨cs, p1, p2, p3⟩, p4, p5⟩
      rw [List.length_map, List.length_take] at p2
      refine ⟨_, rfl, _, rfl, .ref D, cs.length, rfl, .inl ⟨_, .inl (.inl p1), by rw [List.length_map]⟩, _, _, rfl, rfl, ?_⟩
      refine ⟨by show 5 ≤ sizeLine; omega, fun h hh => ?_⟩
      have hh0 : H h = none := by
        cases z : H h with
        | none => rfl
        | some u =>
          rw [p4 h u z] at hh
          cases hh
      refine q _ h D (p4.trans (same_upd hh)) hh0 ⟨cs, 0, 0, _, 0, upd_same, ?_, by omega, p3, by omega, by omega⟩
      rw [upd_ne (ne_of_none p1 hh)]
      exact p1
def spDraw : Sp := fun vs H Q _ => ∃ (h ca : Addr) (n : Int), vs = [.ref h, .int n] ∧ 0 < n ∧ n < 1073741824 ∧ HandAt ca H h ∧ ∀ (r : Int) (H' : Hp), 0 ≤ r → r < n → HandAt ca H' h → But h H H' → Q (.int r) H'
abbrev nDraw : List Str := ["_law_hand_here", "_law_many", "_law_cell", "_law_digit", "_law_number"]
theorem sc_draw : FnScope nDraw ["_law_hand_here", "_law_many"] (defScope s__law_draw) := ⟨rfl, rfl, rfl, by decide +kernel, rfl, by decide +kernel, by decide +kernel⟩
theorem ok_draw (T : Top K mg) : Ok P w K mg base 1 "_law_draw" ["_law_hand_here", "_law_many"] spDraw := by
  obtain ⟨fd, F⟩ := fn__law_draw T
  refine ⟨⟨fd, ?_, F.bindsN fun _ _ _ _ _ _ us hl => match us, hl with | [_, _], _ => rfl⟩, g__law_draw T, F.kp⟩
  refine F.ok sc_draw (fun vs H Q E h => ?_) (fun cdv A outer s H vs Q E hr h => ?_)
  · obtain ⟨h, ca, n, rfl, _⟩ := h
    rfl
  · obtain ⟨h, ca, n, rfl, hn0, hn1, hh, q⟩ := h
    have nd := sc_draw.nd
    refine ⟨_, PSs.nox (pss_cons (ps_if (PW.pt (pw_and (pt_cmpR op_eq (pe_ix ix_list (pv 0) pe_int (fun _ _ => rfl)) pe_int (nomark _)) (pw_and1 (pt_cmpR op_lt (pe_ix ix_list (pv 0) pe_int (fun _ _ => rfl)) (pe_callB call_len (by rfl) (f_len T) PySem.boot_len (pa_cons (pe_ix ix_list (pv 0) pe_int (fun _ _ => rfl)) pa_nil)) (nomark _)))))
        (pss_cons (ps_set (i := 2) nd rfl (Or.inl rfl) (pe_ix ix_list (pe_ix ix_list (pv 0) pe_int (fun _ _ => rfl)) (pe_ix ix_list (pv 0) pe_int (fun _ _ => rfl)) (fun _ _ => rfl)))
        (pss_cons (ps_asg (pe_op op_add (pe_ix ix_list (pv 0) pe_int (fun _ _ => rfl)) pe_int) (pg_sub (pv 0) pe_int set_list))
        (pss_cons (ps_asg (pe_op op_mod (pe_callTy call_int1 (by rfl) (f_int T) boot_int (pa_cons (pe_op op_add (pe_op op_add (pe_op op_mul (pe_ix ix_list (pv 0) pe_int (fun _ _ => rfl)) pe_int) (pv 2)) pe_int) pa_nil)) pe_int) (pg_sub (pv 0) pe_int set_list))
        (pss_one (ps_if (pt_cmpR op_ge (pv 2) (pe_op op_pow pe_int pe_int) (nomark _)) (pss_one (ps_asg (pv 2) (pg_sub (pv 0) pe_int set_list))) pss_nil))))) pss_nil)
      (pss_cons (ps_if (pt_cmpR op_gt (pe_ix ix_list (pv 0) pe_int (fun _ _ => rfl)) pe_int (nomark _))
        (pss_cons (ps_set (i := 3) nd rfl (Or.inl rfl) (pe_op op_mod (pe_callTy call_int1 (by rfl) (f_int T) boot_int (pa_cons (pe_ix ix_list (pv 0) pe_int (fun _ _ => rfl)) pa_nil)) (pv 1)))
        (pss_cons (ps_asg (pe_op op_fdiv (pe_ix ix_list (pv 0) pe_int (fun _ _ => rfl)) (pv 1)) (pg_sub (pv 0) pe_int set_list))
        (pss_one (ps_ret (pv 3))))) pss_nil)
      (pss_cons (ps_asg (pe_op op_add (pe_ix ix_list (pv 0) pe_int (fun _ _ => rfl)) pe_int) (pg_sub (pv 0) pe_int set_list))
      (pss_cons (ps_set (i := 4) nd rfl (Or.inl rfl) (pe_op op_mod (pe_callTy call_int1 (by rfl) (f_int T) boot_int (pa_cons (pe_op op_mul (pe_callTy call_int1 (by rfl) (f_int T) boot_int (pa_cons (pe_op op_add (pe_ix ix_list (pv 0) pe_int (fun _ _ => rfl)) (pe_op op_mul pe_int (pe_ix ix_list (pv 0) pe_int (fun _ _ => rfl)))) pa_nil)) pe_int) pa_nil)) pe_int))
      (pss_cons (ps_set (i := 4) nd rfl (Or.inl rfl) (pe_op op_mod (pe_callTy call_int1 (by rfl) (f_int T) boot_int (pa_cons (pe_op op_mul (pv 4) (pe_op op_add (pe_op op_fdiv (pv 4) pe_int) pe_int)) pa_nil)) pe_int))
      (pss_cons (ps_set (i := 4) nd rfl (Or.inl rfl) (pe_op op_mod (pe_callTy call_int1 (by rfl) (f_int T) boot_int (pa_cons (pe_op op_mul (pv 4) (pe_op op_add (pe_op op_fdiv (pv 4) pe_int) pe_int)) pa_nil)) pe_int))
      (pss_one (ps_ret (pe_op op_mod (pe_callTy call_int1 (by rfl) (f_int T) boot_int (pa_cons (pe_op op_fdiv (pv 4) pe_int) pa_nil)) (pv 1)))))))))), ?_⟩
    obtain ⟨cs, a, l, sd, tn, h1, h2, h3, h4, h5, h6⟩ := id hh
    have hne := HandAt.ne h1 h2
    obtain ⟨k, rfl⟩ : ∃ k : Nat, a = k := ⟨a.toNat, (Int.toNat_of_nonneg h5).symm⟩
    refine ⟨_, rfl, h, _, 2, _, rfl, rfl, SqL.of h1, rfl, rfl, _, rfl, ?_⟩
    by_cases hl0 : l = 0
    case' neg =>
      rw [decide_eq_false (show ¬ V.int l = V.int 0 from fun z => hl0 (by injection z))]
      refine iteF ?_
      have hk := hh
      have kb := But.refl h H
    case' pos =>
      rw [decide_eq_true (show V.int l = V.int 0 by rw [hl0])]
      refine iteT ?_
      refine ⟨_, rfl, h, _, 1, _, rfl, rfl, SqL.of h1, rfl, _, rfl, h, _, 0, _, rfl, rfl, SqL.of h1, rfl, _, _, rfl, .inl ⟨_, SqL.of h2, rfl⟩, _, _, rfl, rfl, _, rfl, ?_⟩
      refine ite2 (fun ha => ?_) (fun ha => ?_)
    case' pos.refine_2 =>
      have hk := hh
      have kb := But.refl h H
    case' pos.refine_1 =>
      have ha2 : k < cs.length := by
        have := of_decide_eq_true ha
        rw [List.length_map] at this
        omega
      have ek : (cs.map V.int)[k]? = some (.int cs[k]) := by
        rw [List.getElem?_map, List.getElem?_eq_getElem ha2]
        rfl
      have hc0 : 0 ≤ cs[k] := h4 _ (List.getElem_mem ha2)
      refine ⟨_, rfl, h, _, 0, _, rfl, rfl, SqL.of h1, rfl, _, rfl, h, _, 1, _, rfl, rfl, SqL.of h1, rfl, ca, _, _, _, rfl, rfl, SqL.of h2, atI_nat ek, ?_⟩
      refine ⟨_, rfl, h, _, 1, _, rfl, rfl, SqL.of h1, rfl, _, _, rfl, rfl, _, rfl, h, _, 1, 1, rfl, rfl, h1, rfl, ?_⟩
      refine ⟨_, rfl, h, _, 3, _, rfl, rfl, SqL.of upd_same, rfl, _, _, rfl, rfl, .inr ⟨by decide, by decide⟩, _, rfl, _, _, rfl, rfl, _, _, rfl, rfl, .inl ⟨_, rfl, _, _, rfl, rfl, (by show (0 : Int) < _; decide), _, rfl, h, _, 3, 3, rfl, rfl, upd_same, rfl, ?_⟩⟩
      refine ⟨_, rfl, _, _, rfl, rfl, ⟨by decide, by decide, by decide⟩, _, _, rfl, rfl, _, rfl, ?_⟩
      refine ite2 (fun hg => ?_) (fun hg => ?_)
    case' pos.refine_1.refine_2 =>
      have hk : HandAt ca (upd (upd H h (.lst [.ref ca, .int ((k : Int) + 1), .int l, .int sd, .int tn])) h (.lst [.ref ca, .int ((k : Int) + 1), .int l, .int ((sd * 69621 + cs[k] + 11) % 2147483629), .int tn])) h :=
        ⟨cs, _, l, _, tn, upd_same, by rw [upd_ne hne, upd_ne hne]; exact h2, h3, h4, by omega, h6⟩
      have kb : But h H (upd (upd H h (.lst [.ref ca, .int ((k : Int) + 1), .int l, .int sd, .int tn])) h (.lst [.ref ca, .int ((k : Int) + 1), .int l, .int ((sd * 69621 + cs[k] + 11) % 2147483629), .int tn])) := but_upd.trans but_upd
    case' pos.refine_1.refine_1 =>
      refine ⟨_, rfl, _, rfl, h, _, 2, 2, rfl, rfl, upd_same, rfl, ?_⟩
      have hk : HandAt ca (upd (upd (upd H h (.lst [.ref ca, .int ((k : Int) + 1), .int l, .int sd, .int tn])) h (.lst [.ref ca, .int ((k : Int) + 1), .int l, .int ((sd * 69621 + cs[k] + 11) % 2147483629), .int tn])) h (.lst [.ref ca, .int ((k : Int) + 1), .int cs[k], .int ((sd * 69621 + cs[k] + 11) % 2147483629), .int tn])) h :=
        ⟨cs, _, cs[k], _, tn, upd_same, by rw [upd_ne hne, upd_ne hne, upd_ne hne]; exact h2, h3, h4, by omega, hc0⟩
      have kb : But h H (upd (upd (upd H h (.lst [.ref ca, .int ((k : Int) + 1), .int l, .int sd, .int tn])) h (.lst [.ref ca, .int ((k : Int) + 1), .int l, .int ((sd * 69621 + cs[k] + 11) % 2147483629), .int tn])) h (.lst [.ref ca, .int ((k : Int) + 1), .int cs[k], .int ((sd * 69621 + cs[k] + 11) % 2147483629), .int tn])) := (but_upd.trans but_upd).trans but_upd
    all_goals
      obtain ⟨cs1, a1, l1, sd1, tn1, g1, g2, g3, g4, g5, g6⟩ := hk
      have gne := HandAt.ne g1 g2
      refine ⟨_, rfl, h, _, 2, _, rfl, rfl, SqL.of g1, rfl, _, _, rfl, rfl, _, rfl, ?_⟩
      refine ite2 (fun hc => ?_) (fun hc => ?_)
      · refine ⟨_, rfl, h, _, 2, _, rfl, rfl, SqL.of g1, rfl, .inl ⟨_, rfl, _, rfl, _, _, rfl, rfl, hn0, _, rfl, h, _, 2, _, rfl, rfl, SqL.of g1, rfl, _, rfl, _, _, rfl, rfl, ⟨hn0, hn1⟩, _, rfl, h, _, 2, 2, rfl, rfl, g1, rfl, _, rfl, ?_⟩⟩
        exact q _ _ (Int.emod_nonneg _ (by omega)) (Int.emod_lt_of_pos _ hn0) ⟨cs1, a1, l1 / n, sd1, tn1, upd_same, by rw [upd_ne gne]; exact g2, g3, g4, g5, Int.ediv_nonneg g6 (Int.le_of_lt hn0)⟩ (kb.trans but_upd)
      · refine ⟨_, rfl, h, _, 4, _, rfl, rfl, SqL.of g1, rfl, _, _, rfl, rfl, _, rfl, h, _, 4, 4, rfl, rfl, g1, rfl, ?_⟩
        refine ⟨_, rfl, h, _, 3, _, rfl, rfl, SqL.of upd_same, rfl, _, rfl, h, _, 4, _, rfl, rfl, SqL.of upd_same, rfl, _, _, rfl, rfl, .inl ⟨by decide, by decide⟩, _, _, rfl, rfl, .inl ⟨_, rfl, _, _, rfl, rfl, .inr ⟨by decide, by decide⟩, .inl ⟨_, rfl, _, _, rfl, rfl, (by show (0 : Int) < _; decide), ?_⟩⟩⟩
        refine ⟨_, rfl, _, rfl, _, _, rfl, rfl, ⟨by decide, by decide⟩, _, _, rfl, rfl, _, _, rfl, rfl, .inl ⟨Int.lt_of_lt_of_le (by decide) (Int.emod_nonneg _ (by decide)), Int.lt_trans (Int.emod_lt_of_pos _ (by decide)) (by decide)⟩, .inl ⟨_, rfl, _, _, rfl, rfl, (by show (0 : Int) < _; decide), ?_⟩⟩
        refine ⟨_, rfl, _, rfl, _, _, rfl, rfl, ⟨by decide, by decide⟩, _, _, rfl, rfl, _, _, rfl, rfl, .inl ⟨Int.lt_of_lt_of_le (by decide) (Int.emod_nonneg _ (by decide)), Int.lt_trans (Int.emod_lt_of_pos _ (by decide)) (by decide)⟩, .inl ⟨_, rfl, _, _, rfl, rfl, (by show (0 : Int) < _; decide), ?_⟩⟩
        refine ⟨_, rfl, _, _, rfl, rfl, ⟨by decide, by decide⟩, .inl ⟨_, rfl, _, rfl, _, _, rfl, rfl, hn0, ?_⟩⟩
        exact q _ _ (Int.emod_nonneg _ (by omega)) (Int.emod_lt_of_pos _ hn0) ⟨cs1, a1, l1, sd1, _, upd_same, by rw [upd_ne gne]; exact g2, g3, g4, g5, g6⟩ (kb.trans but_upd)
end
end Fp

set_option Elab.async false
set_option linter.all false
set_option maxRecDepth 100000
set_option maxHeartbeats 4000000
namespace Fp
open PySem PySem.Spec PyProof.Rows L2
/-! ### the law's own reckoning with tables -/
def putM (c : Int) (l : Tb) (x : Str) (n : Int) : Tb := if (num l x + n) % c = 0 then dropT l x else putT l x ((num l x + n) % c)
def plusM (c : Int) (l1 l2 : Tb) (f : Int) : Tb := l2.foldl (fun acc p => putM c acc p.1 (f * p.2)) l1
def prodM (c : Int) (l1 l2 : Tb) : Tb := l1.foldl (fun acc p => l2.foldl (fun acc q => putM c acc (p.1 ++ q.1) (p.2 * q.2)) acc) []
theorem num_eq (l : Tb) (x : Str) : (valV (kv l) (Sum.inr x : Key)).getD (.int 0) = .int (num l x) := by
  cases e : has l x with
  | true => rw [valV_yes e] <;> rfl
  | false =>
    obtain ⟨h1, h2⟩ := valV_no e
    rw [h1, h2] <;> rfl
theorem dropT_no {l : Tb} {x : Str} (h : has l x = false) : dropT l x = l := by
  unfold dropT
  rw [List.filter_eq_self]
  intro p hp
  simp only [decide_eq_true_eq]
  intro e
  have : has l x = true := has_iff.mpr (List.mem_map.mpr ⟨p, hp, e⟩)
  rw [h] at this
  cases this
theorem len_putM (c : Int) (l : Tb) (x : Str) (n : Int) : (putM c l x n).length ≤ l.length + 1 := by
  unfold putM
  split
  · exact Nat.le_succ_of_le (List.length_filter_le _ _)
  · exact len_put _ _ _
theorem vt_putM {c : Int} {m k : Nat} {l : Tb} (hc : 0 < c) (hv : VT c m k l) {x : Str} (hx : xyz x) (hl : x.length ≤ m) (n : Int) : VT c m (k + 1) (putM c l x n) := by
  have h1 := Int.emod_nonneg (num l x + n) (show c ≠ 0 by omega)
  have h2 := Int.emod_lt_of_pos (num l x + n) hc
  refine ⟨?_, fun p hp => ?_, fun p hp => ?_, Nat.le_trans (len_putM c l x n) (Nat.succ_le_succ hv.ln)⟩
  · unfold putM
    split
    · exact nd_drop hv.nd x
    · exact nd_put hv.nd x _
  · unfold putM at hp
    split at hp
    · exact hv.nu p (List.mem_filter.mp hp).1
    · rename_i h0
      rcases mem_put hp with rfl | hp
      · exact ⟨by show 1 ≤ (num l x + n) % c; omega, h2⟩
      · exact hv.nu p hp
  · unfold putM at hp
    split at hp
    · exact hv.wd p (List.mem_filter.mp hp).1
    · rcases mem_put hp with rfl | hp
      · exact ⟨hx, hl⟩
      · exact hv.wd p hp
theorem vt_plusM {c : Int} {m k1 k2 : Nat} {l1 l2 : Tb} (hc : 0 < c) (h1 : VT c m k1 l1) (h2 : VT c m k2 l2) (f : Int) : VT c m (k1 + k2) (plusM c l1 l2 f) := by
  have key : ∀ (r : Tb) (acc : Tb) (k : Nat), (∀ p ∈ r, xyz p.1 ∧ p.1.length ≤ m) → VT c m k acc → VT c m (k + r.length) (r.foldl (fun acc p => putM c acc p.1 (f * p.2)) acc) := by
    intro r
    induction r with
    | nil => intro acc k _ h; exact h
    | cons p r ih =>
      intro acc k hw h
      have hp := hw p List.mem_cons_self
      have := ih _ (k + 1) (fun q hq => hw q (List.mem_cons_of_mem _ hq)) (vt_putM hc h hp.1 hp.2 (f * p.2))
      rw [List.length_cons, List.foldl_cons]
      exact this.mono (Nat.le_refl _) (by omega)
  exact (key l2 l1 k1 h2.wd h1).mono (Nat.le_refl _) (Nat.add_le_add_left h2.ln _)
theorem xyz_app {x y : Str} (hx : xyz x) (hy : xyz y) : xyz (x ++ y) := by
  intro c hc
  have e : (x ++ y).cps.toList = x.cps.toList ++ y.cps.toList := by
    show (x.cps ++ y.cps).toList = _
    simp
  rw [e] at hc
  rcases List.mem_append.mp hc with hc | hc
  · exact hx c hc
  · exact hy c hc
theorem len_app (x y : Str) : (x ++ y).length = x.length + y.length := by
  show (x.cps ++ y.cps).size = _
  simp [Str.length]
theorem vt_inner {c : Int} {m1 m2 : Nat} (hc : 0 < c) {p : Str × Int} (hp : xyz p.1 ∧ p.1.length ≤ m1) : ∀ (r : Tb) (acc : Tb) (k : Nat), (∀ q ∈ r, xyz q.1 ∧ q.1.length ≤ m2) → VT c (m1 + m2) k acc →
    VT c (m1 + m2) (k + r.length) (r.foldl (fun acc q => putM c acc (p.1 ++ q.1) (p.2 * q.2)) acc) := by
  intro r
  induction r with
  | nil => intro acc k _ h; exact h
  | cons q r ih =>
    intro acc k hw h
    have hq := hw q List.mem_cons_self
    have := ih _ (k + 1) (fun q hq => hw q (List.mem_cons_of_mem _ hq)) (vt_putM hc h (xyz_app hp.1 hq.1) (by rw [len_app]; exact Nat.add_le_add hp.2 hq.2) (p.2 * q.2))
    rw [List.length_cons, List.foldl_cons]
    exact this.mono (Nat.le_refl _) (by omega)
theorem vt_outer {c : Int} {m1 m2 : Nat} (hc : 0 < c) {l2 : Tb} (h2 : ∀ q ∈ l2, xyz q.1 ∧ q.1.length ≤ m2) : ∀ (r : Tb) (acc : Tb) (k : Nat), (∀ q ∈ r, xyz q.1 ∧ q.1.length ≤ m1) → VT c (m1 + m2) k acc →
    VT c (m1 + m2) (k + r.length * l2.length) (r.foldl (fun acc p => l2.foldl (fun acc q => putM c acc (p.1 ++ q.1) (p.2 * q.2)) acc) acc) := by
  intro r
  induction r with
  | nil => intro acc k _ h; simpa using h
  | cons q r ih =>
    intro acc k hw h
    have := ih _ (k + l2.length) (fun q hq => hw q (List.mem_cons_of_mem _ hq)) (vt_inner hc (hw q List.mem_cons_self) l2 acc k h2 h)
    rw [List.length_cons, List.foldl_cons]
    exact this.mono (Nat.le_refl _) (by rw [Nat.add_mul]; omega)
theorem vt_nil (c : Int) (m : Nat) : VT c m 0 [] := ⟨List.nodup_nil, fun p hp => (by cases hp), fun p hp => (by cases hp), Nat.le_refl _⟩
theorem vt_prodM {c : Int} {m1 m2 k1 k2 : Nat} {l1 l2 : Tb} (hc : 0 < c) (h1 : VT c m1 k1 l1) (h2 : VT c m2 k2 l2) : VT c (m1 + m2) (k1 * k2) (prodM c l1 l2) :=
  (vt_outer hc h2.wd l1 [] 0 h1.wd (vt_nil c _)).mono (Nat.le_refl _) (by rw [Nat.zero_add]; exact Nat.mul_le_mul h1.ln h2.ln)
theorem VT.of {c : Int} {m k m' k' : Nat} {l : Tb} (h : VT c m k l) (hm : ∀ p ∈ l, p.1.length ≤ m') (hk : l.length ≤ k') : VT c m' k' l := ⟨h.nd, h.nu, fun p hp => ⟨(h.wd p hp).1, hm p hp⟩, hk⟩
section
variable {P : Program} {w : World} {K : PySem.W.Frag} {mg : Str → Option Value} {base : Heap}
def spPut : Sp := fun vs H Q _ => ∃ (c : Int) (d : Addr) (x : Str) (n : Int) (l : Tb), vs = [.int c, .ref d, .str x, .int n] ∧ 0 < c ∧ H d = some (.dK (kv l)) ∧ l.length ≤ 1000000 ∧
  ∀ H', But d H H' → H' d = some (.dK (kv (putM c l x n))) → Q .non H'
abbrev nPut : List Str := ["_law_clock_here", "_law_bag", "_law_word_here", "_law_number", "_law_total"]
theorem sc_put : FnScope nPut ["_law_clock_here", "_law_bag", "_law_word_here", "_law_number"] (defScope s__law_put) := ⟨rfl, rfl, rfl, by decide +kernel, rfl, by decide +kernel, by decide +kernel⟩
theorem ok_put (T : Top K mg) : Ok P w K mg base 1 "_law_put" ["_law_clock_here", "_law_bag", "_law_word_here", "_law_number"] spPut := by
  obtain ⟨fd, F⟩ := fn__law_put T
  refine ⟨⟨fd, ?_, F.bindsN fun _ _ _ _ _ _ us hl => match us, hl with | [_, _, _, _], _ => rfl⟩, g__law_put T, F.kp⟩
  refine F.ok sc_put (fun vs H Q E h => ?_) (fun cdv A outer s H vs Q E hr h => ?_)
  · obtain ⟨c, d, x, n, l, rfl, _⟩ := h
    rfl
  · obtain ⟨c, d, x, n, l, rfl, hc, hd, hl, q⟩ := h
    have nd := sc_put.nd
    have hu := hu_of hr
    have hs : sizeLine = 16777216 := sizeLine_eq
    refine ⟨_, PSs.nox (pss_cons (ps_set (i := 4) nd rfl (Or.inl rfl) (pe_op op_mod (pe_callTy call_int1 (by rfl) (f_int T) boot_int (pa_cons (pe_op op_add (pe_dget2 hu (pv 1) (pv 2) pe_int ⟨rfl, rfl, rfl, rfl⟩) (pv 3)) pa_nil)) (pv 0)))
      (pss_one (ps_if (pt_cmpR op_eq (pv 4) pe_int (nomark _)) (pss_one (ps_expr (pe_dpop2 (pv 1) (pv 2) pe_int ⟨rfl, rfl, rfl, rfl⟩))) (pss_one (ps_dput hu (pv 1) (pv 2) (pv 4) rfl))))), ?_⟩
    refine ⟨_, rfl, d, rfl, .inl ⟨_, .inl hd⟩, _, rfl, _, DGet.k (k := Sum.inr x) hd, ?_⟩
    rw [num_eq]
    refine ⟨_, rfl, _, _, rfl, rfl, .inl ⟨_, rfl, _, rfl, _, _, rfl, rfl, hc, ?_⟩⟩
    refine ⟨_, rfl, rfl, _, rfl, ?_⟩
    by_cases h0 : (num l x + n) % c = 0
    · rw [decide_eq_true (show V.int ((num l x + n) % c) = V.int 0 by rw [h0])]
      refine iteT ?_
      refine ⟨_, rfl, d, rfl, .inl ⟨_, .inl hd⟩, _, rfl, kv l, Sum.inr x, hd, rfl, fun v hv => ?_, fun hv => ?_⟩
      · refine q _ but_upd ?_
        rw [upd_same, dropK_kv]
        unfold putM
        rw [if_pos h0]
      · refine q _ (But.refl _ _) ?_
        have e : has l x = false := by
          cases z : has l x with
          | false => rfl
          | true =>
            rw [valV_yes z] at hv
            cases hv
        unfold putM
        rw [if_pos h0, dropT_no e]
        exact hd
    · rw [decide_eq_false (show ¬ V.int ((num l x + n) % c) = V.int 0 from fun z => h0 (by injection z))]
      refine iteF ?_
      refine ⟨_, rfl, _, rfl, _, rfl, d, _, rfl, DPut.k (k := Sum.inr x) hd (by rw [kv_len]; omega), ?_⟩
      refine q _ but_upd ?_
      rw [upd_same, putK_kv]
      unfold putM
      rw [if_neg h0]
def spPlus : Sp := fun vs H Q _ => ∃ (c : Int) (d1 d2 : Addr) (f : Int) (l1 l2 : Tb), vs = [.int c, .ref d1, .ref d2, .int f] ∧ 0 < c ∧ c ≤ 7 ∧ H d1 = some (.dK (kv l1)) ∧ H d2 = some (.dK (kv l2)) ∧ Nd l2 ∧ (∀ p ∈ l2, 1 ≤ p.2 ∧ p.2 < c) ∧ l1.length ≤ 900000 ∧ l2.length ≤ 100000 ∧
  ∀ H' d, Same H H' → H d = none → H' d = some (.dK (kv (plusM c l1 l2 f))) → Q (.ref d) H'
abbrev nPlus : List Str := ["_law_clock_here", "_law_one", "_law_other", "_law_factor", "_law_found", "_law_word_here"]
theorem sc_plus : FnScope nPlus ["_law_clock_here", "_law_one", "_law_other", "_law_factor"] (defScope s__law_plus) := ⟨rfl, rfl, rfl, by decide +kernel, rfl, by decide +kernel, by decide +kernel⟩
theorem len_plusM (c f : Int) : ∀ (l2 l1 : Tb), (plusM c l1 l2 f).length ≤ l1.length + l2.length
  | [], l1 => Nat.le_refl _
  | p :: r, l1 => by
    have h1 := len_plusM c f r (putM c l1 p.1 (f * p.2))
    have h2 := len_putM c l1 p.1 (f * p.2)
    have e : plusM c l1 (p :: r) f = plusM c (putM c l1 p.1 (f * p.2)) r f := rfl
    rw [e, List.length_cons]
    omega
theorem plusM_take (c f : Int) (l1 l2 : Tb) {i : Nat} {p : Str × Int} (e : l2[i]? = some p) : plusM c l1 (l2.take (i + 1)) f = putM c (plusM c l1 (l2.take i) f) p.1 (f * p.2) := by
  unfold plusM
  rw [List.take_add_one, e, List.foldl_append]
  rfl
theorem ok_plus (T : Top K mg) : Ok P w K mg base 2 "_law_plus" ["_law_clock_here", "_law_one", "_law_other", "_law_factor"] spPlus := by
  obtain ⟨fd, F⟩ := fn__law_plus T
  refine ⟨⟨fd, ?_, F.bindsN fun _ _ _ _ _ _ us hl => match us, hl with | [_, _, _, _], _ => rfl⟩, g__law_plus T, F.kp⟩
  refine F.ok sc_plus (fun vs H Q E h => ?_) (fun cdv A outer s H vs Q E hr h => ?_)
  · obtain ⟨c, d1, d2, f, l1, l2, rfl, _⟩ := h
    rfl
  · obtain ⟨c, d1, d2, f, l1, l2, rfl, hc, hc7, h1, h2, hnd, hnu, hl1, hl2, q⟩ := h
    have nd := sc_plus.nd
    have hu := hu_of hr
    have hs : sizeLine = 16777216 := sizeLine_eq
    refine ⟨_, PSs.nox (pss_cons (ps_set (i := 4) nd rfl (Or.inl rfl) (pe_callTy call_dictD (by rfl) (f_dict T) (by decide +kernel) (pa_cons (pv 1) pa_nil)))
      (pss_cons (ps_lock (ps_for PassesOwn.never rfl (pi_keys (pv 2)) (pg_name (i := 5) nd rfl (Or.inl rfl))
        (pss_one (ps_expr (pc (ok_put T) hr (pa_cons (pv 0) (pa_cons (pv 4) (pa_cons (pv 5) (pa_cons (pe_op op_mul (pv 3) (pe_dget hu (pv 2) (pv 5) (fun _ _ => rfl))) pa_nil)))))))))
      (pss_one (ps_ret (pv 4))))), ?_⟩
    refine ⟨_, rfl, d1, kv l1, rfl, .inl h1, fun F0 hF => ?_⟩
    have n2F : d2 ≠ F0 := ne_of_none h2 hF
    refine ⟨d2, .dK (kv l2), by rw [upd_ne n2F]; exact h2, trivial, fun od => ?_⟩
    refine ⟨_, rfl, d2, od, rfl, .inl ⟨kv l2, upd_same, ?_⟩⟩
    refine for_it walk_keys (fun i σ H' => (∃ v, σ = [some (.int c), some (.ref d1), some (.ref d2), some (.int f), some (.ref F0), v]) ∧ H' F0 = some (.dK (kv (plusM c l1 (l2.take i) f))) ∧ But d2 H H' ∧ H' d2 = some (.frz od (.dK (kv l2))))
      ⟨⟨none, rfl⟩, ?_, ?_, upd_same⟩ (fun i σ H' _ hP => hP.2.2.2) ?_ ?_
    · rw [upd_ne n2F.symm, upd_same]
      rfl
    · intro b o e n
      rw [upd_ne n, upd_ne (ne_of_none e hF)]
      exact e
    · rintro i x σ H1 H2 hi ⟨⟨v, rfl⟩, p1, p2, p3⟩ ⟨rfl, k, v', e, rfl⟩
      obtain ⟨p, ep, rfl, rfl⟩ := kv_at e
      have hp : p ∈ l2 := List.mem_of_getElem? ep
      have hn := hnu p hp
      refine ⟨_, rfl, _, rfl, _, rfl, _, rfl, _, rfl, _, rfl, d2, .int p.2, rfl, .inl ⟨kv l2, Sum.inr p.1, .inr ⟨od, p3⟩, rfl, ?_⟩, ?_⟩
      · rw [valV_yes (has_of ep), num_of hnd ep]
      · refine ⟨_, _, rfl, rfl, .inr ⟨by omega, by omega⟩, ?_⟩
        refine ⟨c, F0, p.1, f * p.2, plusM c l1 (l2.take i) f, rfl, hc, p1, ?_, fun H3 k3 e3 => ?_⟩
        · have := len_plusM c f (l2.take i) l1
          rw [List.length_take] at this
          omega
        · refine ⟨⟨_, rfl⟩, ?_, ?_, ?_⟩
          · rw [plusM_take c f l1 l2 ep]
            exact e3
          · intro b o z n
            exact k3 b o (p2 b o z n) (ne_of_none z hF)
          · exact k3 _ _ p3 n2F
    · rintro σ H' ⟨⟨v, rfl⟩, p1, p2, p3⟩
      rw [kv_len, List.take_length] at p1
      refine ⟨p3, ?_⟩
      refine ⟨_, rfl, ?_⟩
      refine q _ F0 (fun b o e => ?_) hF (by rw [upd_ne n2F.symm]; exact p1)
      by_cases n : b = d2
      · rw [n, upd_same, ← h2, ← n, e]
      · rw [upd_ne n]
        exact p2 b o e n
end
end Fp

set_option Elab.async false
set_option linter.all false
set_option maxRecDepth 100000
set_option maxHeartbeats 4000000
namespace Fp
open PySem PySem.Spec PyProof.Rows L2
theorem vt_len {c : Int} {m k : Nat} {l : Tb} (h : VT c m k l) : l.length ≤ k := h.ln
theorem inner_take (c : Int) (acc l2 : Tb) (p : Str × Int) {j : Nat} {q : Str × Int} (e : l2[j]? = some q) :
    (l2.take (j + 1)).foldl (fun acc q => putM c acc (p.1 ++ q.1) (p.2 * q.2)) acc = putM c ((l2.take j).foldl (fun acc q => putM c acc (p.1 ++ q.1) (p.2 * q.2)) acc) (p.1 ++ q.1) (p.2 * q.2) := by
  rw [List.take_add_one, e, List.foldl_append]
  rfl
theorem prodM_take (c : Int) (l1 l2 : Tb) {i : Nat} {p : Str × Int} (e : l1[i]? = some p) : prodM c (l1.take (i + 1)) l2 = l2.foldl (fun acc q => putM c acc (p.1 ++ q.1) (p.2 * q.2)) (prodM c (l1.take i) l2) := by
  unfold prodM
  rw [List.take_add_one, e, List.foldl_append]
  rfl
theorem len_inner (c : Int) (p : Str × Int) : ∀ (r acc : Tb), (r.foldl (fun acc q => putM c acc (p.1 ++ q.1) (p.2 * q.2)) acc).length ≤ acc.length + r.length
  | [], acc => Nat.le_refl _
  | q :: r, acc => by
    have h1 := len_inner c p r (putM c acc (p.1 ++ q.1) (p.2 * q.2))
    have h2 := len_putM c acc (p.1 ++ q.1) (p.2 * q.2)
    rw [List.foldl_cons, List.length_cons]
    omega
theorem len_prodM (c : Int) (l2 : Tb) : ∀ (r acc : Tb), (r.foldl (fun acc p => l2.foldl (fun acc q => putM c acc (p.1 ++ q.1) (p.2 * q.2)) acc) acc).length ≤ acc.length + r.length * l2.length
  | [], acc => by simp
  | p :: r, acc => by
    have h1 := len_prodM c l2 r (l2.foldl (fun acc q => putM c acc (p.1 ++ q.1) (p.2 * q.2)) acc)
    have h2 := len_inner c p l2 acc
    rw [List.foldl_cons, List.length_cons, Nat.add_mul]
    omega
section
variable {P : Program} {w : World} {K : PySem.W.Frag} {mg : Str → Option Value} {base : Heap}
def spProd : Sp := fun vs H Q _ => ∃ (c : Int) (d1 d2 : Addr) (m1 m2 : Nat) (l1 l2 : Tb), vs = [.int c, .ref d1, .ref d2] ∧ 0 < c ∧ c ≤ 7 ∧ d1 ≠ d2 ∧ H d1 = some (.dK (kv l1)) ∧ H d2 = some (.dK (kv l2)) ∧ VT c m1 1000 l1 ∧ VT c m2 1000 l2 ∧ m1 ≤ 1000 ∧ m2 ≤ 1000 ∧
  ∀ H' d, Same H H' → H d = none → H' d = some (.dK (kv (prodM c l1 l2))) → Q (.ref d) H'
abbrev nProd : List Str := ["_law_clock_here", "_law_one", "_law_other", "_law_found", "_law_front", "_law_back"]
theorem sc_prod : FnScope nProd ["_law_clock_here", "_law_one", "_law_other"] (defScope s__law_product) := ⟨rfl, rfl, rfl, by decide +kernel, rfl, by decide +kernel, by decide +kernel⟩
theorem ok_prod (T : Top K mg) : Ok P w K mg base 2 "_law_product" ["_law_clock_here", "_law_one", "_law_other"] spProd := by
  obtain ⟨fd, F⟩ := fn__law_product T
  refine ⟨⟨fd, ?_, F.bindsN fun _ _ _ _ _ _ us hl => match us, hl with | [_, _, _], _ => rfl⟩, g__law_product T, F.kp⟩
  refine F.ok sc_prod (fun vs H Q E h => ?_) (fun cdv A outer s H vs Q E hr h => ?_)
  · obtain ⟨c, d1, d2, m1, m2, l1, l2, rfl, _⟩ := h
    rfl
  · obtain ⟨c, d1, d2, m1, m2, l1, l2, rfl, hc, hc7, n12, h1, h2, v1, v2, hm1, hm2, q⟩ := h
    have nd := sc_prod.nd
    have hu := hu_of hr
    have hs : sizeLine = 16777216 := sizeLine_eq
    have hl1 := v1.ln
    have hl2 := v2.ln
    refine ⟨_, PSs.nox (pss_cons (ps_set (i := 3) nd rfl (Or.inl rfl) pe_dnewK)
      (pss_cons (ps_lock (ps_for PassesOwn.never rfl (pi_keys (pv 1)) (pg_name (i := 4) nd rfl (Or.inl rfl))
        (pss_one (ps_lock (ps_for PassesOwn.never rfl (pi_keys (pv 2)) (pg_name (i := 5) nd rfl (Or.inl rfl))
          (pss_one (ps_expr (pc (ok_put T) hr (pa_cons (pv 0) (pa_cons (pv 3) (pa_cons (pe_op op_add_str (pv 4) (pv 5)) (pa_cons (pe_op op_mul (pe_dget hu (pv 1) (pv 4) (fun _ _ => rfl)) (pe_dget hu (pv 2) (pv 5) (fun _ _ => rfl))) pa_nil))))))))))))
      (pss_one (ps_ret (pv 3))))), ?_⟩
    refine fun F0 hF => ?_
    have n1F : d1 ≠ F0 := ne_of_none h1 hF
    have n2F : d2 ≠ F0 := ne_of_none h2 hF
    refine ⟨d1, .dK (kv l1), by rw [upd_ne n1F]; exact h1, trivial, fun od => ?_⟩
    refine ⟨_, rfl, d1, od, rfl, .inl ⟨kv l1, upd_same, ?_⟩⟩
    refine for_it walk_keys (fun i σ H' => (∃ v u, σ = [some (.int c), some (.ref d1), some (.ref d2), some (.ref F0), v, u]) ∧ H' F0 = some (.dK (kv (prodM c (l1.take i) l2))) ∧ But d1 H H' ∧ H' d1 = some (.frz od (.dK (kv l1))))
      ⟨⟨none, none, rfl⟩, ?_, ?_, upd_same⟩ (fun i σ H' _ hP => hP.2.2.2) ?_ ?_
    · rw [upd_ne n1F.symm, upd_same]
      rfl
    · intro b o e n
      rw [upd_ne n, upd_ne (ne_of_none e hF)]
      exact e
    · rintro i x σ H1 H2 hi ⟨⟨v, u, rfl⟩, p1, p2, p3⟩ ⟨rfl, k, v', e, rfl⟩
      obtain ⟨p, ep, rfl, rfl⟩ := kv_at e
      have hp : p ∈ l1 := List.mem_of_getElem? ep
      have hil : i < l1.length := (List.getElem?_eq_some_iff.mp ep).1
      refine ⟨d2, .dK (kv l2), p2 _ _ h2 n12.symm, trivial, fun od2 => ?_⟩
      refine ⟨_, rfl, d2, od2, rfl, .inl ⟨kv l2, upd_same, ?_⟩⟩
      refine for_it walk_keys (fun j σ H' => (∃ u, σ = [some (.int c), some (.ref d1), some (.ref d2), some (.ref F0), some (.str p.1), u]) ∧ H' F0 = some (.dK (kv ((l2.take j).foldl (fun acc q => putM c acc (p.1 ++ q.1) (p.2 * q.2)) (prodM c (l1.take i) l2)))) ∧
          (∀ b o, H b = some o → b ≠ d1 → b ≠ d2 → H' b = some o) ∧ H' d1 = some (.frz od (.dK (kv l1))) ∧ H' d2 = some (.frz od2 (.dK (kv l2))))
        ⟨⟨u, rfl⟩, ?_, ?_, ?_, upd_same⟩ (fun i σ H' _ hP => hP.2.2.2.2) ?_ ?_
      · rw [upd_ne n2F.symm]
        exact p1
      · intro b o z na nb
        rw [upd_ne nb]
        exact p2 b o z na
      · rw [upd_ne n12]
        exact p3
      · rintro j x σ H3 H4 hj ⟨⟨u', rfl⟩, r1, r2, r3, r4⟩ ⟨rfl, k, v'', e', rfl⟩
        obtain ⟨q0, eq0, rfl, rfl⟩ := kv_at e'
        have hq : q0 ∈ l2 := List.mem_of_getElem? eq0
        have hn1 := v1.nu p hp
        have hn2 := v2.nu q0 hq
        have hw1 := v1.wd p hp
        have hw2 := v2.wd q0 hq
        refine ⟨_, rfl, _, rfl, _, rfl, _, rfl, _, _, rfl, rfl, by have := hw1.2; have := hw2.2; omega, ?_⟩
        refine ⟨_, rfl, _, rfl, d1, .int p.2, rfl, .inl ⟨kv l1, Sum.inr p.1, .inr ⟨od, r3⟩, rfl, by rw [valV_yes (has_of ep), num_of v1.nd ep]⟩, ?_⟩
        refine ⟨_, rfl, _, rfl, d2, .int q0.2, rfl, .inl ⟨kv l2, Sum.inr q0.1, .inr ⟨od2, r4⟩, rfl, by rw [valV_yes (has_of eq0), num_of v2.nd eq0]⟩, ?_⟩
        refine ⟨_, _, rfl, rfl, .inl ⟨by omega, by omega⟩, ?_⟩
        refine ⟨c, F0, p.1 ++ q0.1, p.2 * q0.2, _, rfl, hc, r1, ?_, fun H5 k5 e5 => ?_⟩
        · have b1 := len_inner c p (l2.take j) (prodM c (l1.take i) l2)
          have b2 := len_prodM c l2 (l1.take i) []
          have b3 : (l1.take i).length * l2.length ≤ 1000 * 1000 := Nat.mul_le_mul (by rw [List.length_take]; omega) hl2
          have b4 : (l2.take j).length ≤ 1000 := by rw [List.length_take]; omega
          have b5 : (prodM c (l1.take i) l2).length ≤ (l1.take i).length * l2.length := by
            have : (prodM c (l1.take i) l2).length ≤ ([] : Tb).length + (l1.take i).length * l2.length := b2
            simpa using this
          have b6 : (l1.take i).length ≤ 999 := by rw [List.length_take]; omega
          have b7 : (l1.take i).length * l2.length ≤ 999 * 1000 := Nat.mul_le_mul b6 hl2
          omega
        · refine ⟨⟨_, rfl⟩, ?_, ?_, k5 _ _ r3 n1F, k5 _ _ r4 n2F⟩
          · rw [inner_take c _ l2 p eq0]
            exact e5
          · intro b o z na nb
            exact k5 b o (r2 b o z na nb) (ne_of_none z hF)
      · rintro σ H3 ⟨⟨u', rfl⟩, r1, r2, r3, r4⟩
        rw [kv_len, List.take_length] at r1
        refine ⟨r4, ⟨_, _, rfl⟩, ?_, ?_, ?_⟩
        · rw [upd_ne n2F.symm, prodM_take c l1 l2 ep]
          exact r1
        · intro b o z na
          by_cases nb : b = d2
          · rw [nb, upd_same, ← h2, ← nb, z]
          · rw [upd_ne nb]
            exact r2 b o z na nb
        · rw [upd_ne n12]
          exact r3
    · rintro σ H' ⟨⟨v, u, rfl⟩, p1, p2, p3⟩
      rw [kv_len, List.take_length] at p1
      refine ⟨p3, ?_⟩
      refine ⟨_, rfl, ?_⟩
      refine q _ F0 (fun b o e => ?_) hF (by rw [upd_ne n1F.symm]; exact p1)
      by_cases n : b = d1
      · rw [n, upd_same, ← h1, ← n, e]
      · rw [upd_ne n]
        exact p2 b o e n
end
end Fp

set_option Elab.async false
set_option linter.all false
set_option maxRecDepth 100000
set_option maxHeartbeats 4000000
namespace Fp
open PySem PySem.Spec PyProof.Rows L2
theorem leIS_rk {a b : IS} (ha : a.2.1 = -(a.2.2.length : Int)) (hb : b.2.1 = -(b.2.2.length : Int)) : leIS a b = leR a.2.2 b.2.2 := by
  have e1 : enIS a = rk a.2.2 := by
    unfold enIS rk
    rw [ha]
  have e2 : enIS b = rk b.2.2 := by
    unfold enIS rk
    rw [hb]
  unfold leIS leR
  rw [PySem.W.dataLe_eq, PySem.W.dataLe_eq]
  simp only [e1, e2]
theorem sort_words {ps : List IS} (h : ∀ p ∈ ps, p.2.1 = -(p.2.2.length : Int)) : (ps.mergeSort leIS).map (·.2.2) = (ps.map (·.2.2)).mergeSort leR :=
  PySem.W.sort_maps (·.2.2) fun a ha b hb => leIS_rk (h a ha) (h b hb)
section
variable {P : Program} {w : World} {K : PySem.W.Frag} {mg : Str → Option Value} {base : Heap}
def spOrder : Sp := fun vs H Q _ => ∃ (d : Addr) (l : Tb), vs = [.ref d] ∧ H d = some (.dK (kv l)) ∧ (∀ p ∈ l, p.1.length ≤ 1000000) ∧ l.length ≤ 1000000 ∧ ∀ H' D, Same H H' → H D = none → H' D = some (.lst ((ordW l).map V.str)) → Q (.ref D) H'
abbrev nOrder : List Str := ["_law_bag", "_law_pair", "_law_word_here"]
theorem sc_order : FnScope nOrder ["_law_bag"] (defScope s__law_order) := ⟨rfl, rfl, rfl, by decide +kernel, rfl, by decide +kernel, by decide +kernel⟩
theorem ok_order (T : Top K mg) : Ok P w K mg base 2 "_law_order" ["_law_bag"] spOrder := by
  obtain ⟨fd, F⟩ := fn__law_order T
  refine ⟨⟨fd, ?_, F.bindsN fun _ _ _ _ _ _ us hl => match us, hl with | [_], _ => rfl⟩, g__law_order T, F.kp⟩
  refine F.ok sc_order (fun vs H Q E h => ?_) (fun cdv A outer s H vs Q E hr h => ?_)
  · obtain ⟨d, l, rfl, _⟩ := h
    rfl
  · obtain ⟨d, l, rfl, hd, hwl, hll, q⟩ := h
    have nd := sc_order.nd
    have hs : sizeLine = 16777216 := sizeLine_eq
    refine ⟨_, PSs.nox (pss_one (ps_ret (pe_lc (own := [("_law_pair", 1)]) (g := gName 1) (tt := tYes) rfl nd
      (pi_list (pe_callB (cr_sortIS hr) (by rfl) (f_sorted T) (by decide +kernel) (pa_cons (pe_lock (pe_lc (own := [("_law_word_here", 2)]) (g := gName 2) (tt := tYes) rfl nd (pi_keys (pv 0)) (blkOk_by (N := nOrder) (sc := defScope s__law_order) (by decide +kernel))
        (fun _ _ _ _ _ => pg_name (i := 2) nd rfl (Or.inl rfl)) (fun _ _ _ _ _ => pts_nil) (fun _ _ _ _ _ => pe_tup (pa_cons (pe_un un_neg (pe_callB call_len_str (by rfl) (f_len T) PySem.boot_len (pa_cons (pv 2) pa_nil))) (pa_cons (pv 2) pa_nil))))) pa_nil)))
      (blkOk_by (N := nOrder) (sc := defScope s__law_order) (by decide +kernel)) (fun _ _ _ _ _ => pg_name (i := 1) nd rfl (Or.inl rfl)) (fun _ _ _ _ _ => pts_nil) (fun _ _ _ _ _ => pe_ix (r := rIxT K) ix_tup (pv 1) pe_int (fun _ _ => rfl))))), ?_⟩
    refine ⟨d, _, hd, trivial, fun od => ?_⟩
    refine ⟨_, rfl, d, od, rfl, .inl ⟨kv l, upd_same, fun D hD => ?_⟩⟩
    have nD : D ≠ d := fun e => by
      rw [e, upd_same] at hD
      cases hD
    have hD0 : H D = none := by
      rw [upd_ne nD] at hD
      exact hD
    refine lc_it walk_keys (fun i H' => (∃ ps : List IS, H' D = some (.lst (ps.map fun p => V.ref p.1)) ∧ ps.map (·.2.2) = (l.take i).map (·.1) ∧ (∀ p ∈ ps, H' p.1 = some (.tup [.int p.2.1, .str p.2.2])) ∧ ∀ p ∈ ps, p.2.1 = -(p.2.2.length : Int)) ∧ But d H H' ∧ H' d = some (.frz od (.dK (kv l))))
      ⟨⟨[], upd_same, rfl, fun p hp => (by cases hp), fun p hp => (by cases hp)⟩, ?_, ?_⟩ (fun i H' _ hP => hP.2.2) ?_ ?_
    · intro b o e n
      rw [upd_ne (ne_of_none e hD0), upd_ne n]
      exact e
    · rw [upd_ne nD.symm]
      exact upd_same
    · rintro i x H1 H2 hi ⟨⟨ps, p1, p2, p3, p4⟩, p5, p6⟩ ⟨rfl, k, v, e, rfl⟩
      obtain ⟨p, ep, rfl, rfl⟩ := kv_at e
      have hp : p ∈ l := List.mem_of_getElem? ep
      have hpl := hwl p hp
      rw [kv_len] at hi
      have hpsl : ps.length = i := by
        have := congrArg List.length p2
        rw [List.length_map, List.length_map, List.length_take] at this
        omega
      refine ⟨rfl, ?_⟩
      refine ⟨_, rfl, _, rfl, by omega, _, rfl, _, rfl, ?_⟩
      refine ⟨by show 2 ≤ sizeLine; omega, fun t ht => ?_⟩
      have ntD : D ≠ t := ne_of_none p1 ht
      have ntd : d ≠ t := ne_of_none p6 ht
      refine ⟨_, by rw [upd_ne ntD]; exact p1, by rw [List.length_map]; omega, ⟨ps ++ [(t, (-(p.1.length : Int), p.1))], ?_, ?_, ?_, ?_⟩, ?_, ?_⟩
      · rw [upd_same, List.map_append]
        rfl
      · rw [List.map_append, p2, List.take_add_one, ep, List.map_append]
        rfl
      · intro r hr
        rcases List.mem_append.mp hr with hr | hr
        · have := p3 r hr
          rw [upd_ne (ne_of this p1 (by intro z; cases z)), upd_ne (ne_of_none this ht)]
          exact this
        · have : r = (t, (-(p.1.length : Int), p.1)) := by simpa using hr
          subst this
          rw [upd_ne ntD.symm]
          exact upd_same
      · intro r hr
        rcases List.mem_append.mp hr with hr | hr
        · exact p4 r hr
        · have : r = (t, (-(p.1.length : Int), p.1)) := by simpa using hr
          subst this
          rfl
      · intro b o z n
        rw [upd_ne (ne_of_none z hD0), upd_ne (ne_of_none (p5 b o z n) ht)]
        exact p5 b o z n
      · rw [upd_ne nD.symm, upd_ne ntd]
        exact p6
    · rintro H' ⟨⟨ps, p1, p2, p3, p4⟩, p5, p6⟩
      rw [kv_len, List.take_length] at p2
      refine ⟨p6, D, ps, rfl, .inl (.inl ?_), fun p hp => ?_, fun S hS => ?_⟩
      · rw [upd_ne nD]
        exact p1
      · rw [upd_ne (ne_of (p3 p hp) p6 (by intro z; cases z))]
        exact p3 p hp
      · have hS' : H' S = none := by
          by_cases z : S = d
          · rw [z, upd_same] at hS
            cases hS
          · rw [upd_ne z] at hS
            exact hS
        have base : Same H (upd H' d (.dK (kv l))) := fun b o z => by
          by_cases n : b = d
          · rw [n, upd_same, ← hd, ← n, z]
          · rw [upd_ne n]
            exact p5 b o z n
        have hS0 : H S = none := by
          cases z : H S with
          | none => rfl
          | some u =>
            rw [base S u z] at hS
            cases hS
        refine ⟨S, rfl, ⟨_, .inl (.inl upd_same)⟩, fun D2 hD2 => ?_⟩
        have nD2S : D2 ≠ S := fun e => by
          rw [e, upd_same] at hD2
          cases hD2
        rw [upd_ne nD2S] at hD2
        have hD20 : H D2 = none := by
          cases z : H D2 with
          | none => rfl
          | some u =>
            rw [base D2 u z] at hD2
            cases hD2
        have eord : (ps.mergeSort leIS).map (·.2.2) = ordW l := by
          rw [sort_words p4, p2]
          rfl
        have elen : (ps.mergeSort leIS).length = (ordW l).length := by rw [← eord, List.length_map]
        refine lc_it (walk_list (xs := (ps.mergeSort leIS).map fun p => V.ref p.1)) (fun i H2 => H2 D2 = some (.lst (((ordW l).take i).map V.str)) ∧ Same H H2 ∧ (∀ p ∈ ps, H2 p.1 = some (.tup [.int p.2.1, .str p.2.2])) ∧ H2 S = some (.lst ((ps.mergeSort leIS).map fun p => V.ref p.1)))
          ⟨upd_same, ?_, ?_, ?_⟩ (fun i H2 _ hP => .inl (.inl hP.2.2.2)) ?_ ?_
        · intro b o z
          rw [upd_ne (ne_of_none z hD20), upd_ne (ne_of_none z hS0)]
          exact base b o z
        · intro p hp
          have g : (upd H' d (.dK (kv l))) p.1 = some (.tup [.int p.2.1, .str p.2.2]) := by
            rw [upd_ne (ne_of (p3 p hp) p6 (by intro z; cases z))]
            exact p3 p hp
          rw [upd_ne (ne_of_none g hD2), upd_ne (ne_of_none g hS)]
          exact g
        · rw [upd_ne nD2S.symm]
          exact upd_same
        · rintro i x H1 H2 hi ⟨g1, g2, g3, g4⟩ ⟨rfl, e⟩
          rw [List.length_map] at hi
          rw [List.getElem?_map] at e
          cases en : (ps.mergeSort leIS)[i]? with
          | none => rw [en] at e; cases e
          | some p =>
            rw [en] at e
            have e2 : V.ref p.1 = x := Option.some.inj e
            subst e2
            have hp : p ∈ ps := List.mem_mergeSort.mp (List.mem_of_getElem? en)
            have ew : (ordW l)[i]? = some p.2.2 := by
              rw [← eord, List.getElem?_map, en]
              rfl
            have hw1 : i < (ordW l).length := (List.getElem?_eq_some_iff.mp ew).1
            have hw2 := ordW_len l
            refine ⟨rfl, ?_⟩
            refine ⟨_, rfl, p.1, _, 1, _, rfl, rfl, .inl (.inl (g3 p hp)), rfl, ?_⟩
            refine ⟨_, g1, ?_, ?_, ?_, ?_, ?_⟩
            · rw [List.length_map, List.length_take]
              omega
            · rw [upd_same, List.take_add_one, ew, List.map_append]
              rfl
            · intro b o z
              rw [upd_ne (ne_of_none z hD20)]
              exact g2 b o z
            · intro r hr
              rw [upd_ne (ne_of (g3 r hr) g1 (by intro z; cases z))]
              exact g3 r hr
            · rw [upd_ne nD2S.symm]
              exact g4
        · rintro H2 ⟨g1, g2, g3, g4⟩
          rw [List.length_map, elen, List.take_length] at g1
          exact q H2 D2 g2 hD20 g1
def spCk : Sp := fun vs H Q _ => ∃ h ca : Addr, vs = [.ref h] ∧ HandAt ca H h ∧ ∀ H' c, HandAt ca H' h → But h H H' → isCk c → Q (.int c) H'
theorem sc_ck : FnScope ["_law_hand_here"] ["_law_hand_here"] (defScope s__law_clock) := ⟨rfl, rfl, rfl, by decide +kernel, rfl, by decide +kernel, by decide +kernel⟩
theorem ok_ck (T : Top K mg) : Ok P w K mg base 2 "_law_clock" ["_law_hand_here"] spCk := by
  obtain ⟨fd, F⟩ := fn__law_clock T
  refine ⟨⟨fd, ?_, F.bindsN fun _ _ _ _ _ _ us hl => match us, hl with | [_], _ => rfl⟩, g__law_clock T, F.kp⟩
  refine F.ok sc_ck (fun vs H Q E h => ?_) (fun cdv A outer s H vs Q E hr h => ?_)
  · obtain ⟨h, ca, rfl, _⟩ := h
    rfl
  · obtain ⟨h, ca, rfl, hh, q⟩ := h
    refine ⟨_, PSs.nox (pss_one (ps_ret (pe_ix ix_list (pe_lst (pa_cons pe_int (pa_cons pe_int (pa_cons pe_int (pa_cons pe_int (pa_cons pe_int (pa_cons pe_int (pa_cons pe_int (pa_cons pe_int pa_nil))))))))) (pc (ok_draw T) hr (pa_cons (pv 0) (pa_cons pe_int pa_nil))) (fun _ _ => rfl)))), ?_⟩
    refine ⟨by show 8 ≤ sizeLine; rw [sizeLine_eq]; decide, fun L hL => ?_⟩
    have hne : h ≠ L := by
      obtain ⟨xs, hx⟩ := hh.lst
      exact ne_of_none hx hL
    refine ⟨_, rfl, h, ca, 8, rfl, by decide, by decide, hh.same (same_upd hL), fun r H1 hr0 hr1 h1 k1 => ?_⟩
    obtain ⟨n, rfl⟩ : ∃ n : Nat, r = n := ⟨r.toNat, (Int.toNat_of_nonneg hr0).symm⟩
    have hn : n < 8 := by omega
    have e : ∃ c : Int, isCk c ∧ [V.int 2, V.int 3, V.int 2, V.int 3, V.int 2, V.int 3, V.int 5, V.int 7][n]? = some (V.int c) := by
      have : n = 0 ∨ n = 1 ∨ n = 2 ∨ n = 3 ∨ n = 4 ∨ n = 5 ∨ n = 6 ∨ n = 7 := by omega
      rcases this with rfl | rfl | rfl | rfl | rfl | rfl | rfl | rfl
      · exact ⟨2, .inl rfl, rfl⟩
      · exact ⟨3, .inr (.inl rfl), rfl⟩
      · exact ⟨2, .inl rfl, rfl⟩
      · exact ⟨3, .inr (.inl rfl), rfl⟩
      · exact ⟨2, .inl rfl, rfl⟩
      · exact ⟨3, .inr (.inl rfl), rfl⟩
      · exact ⟨5, .inr (.inr (.inl rfl)), rfl⟩
      · exact ⟨7, .inr (.inr (.inr rfl)), rfl⟩
    obtain ⟨c, hc, ec⟩ := e
    refine ⟨L, _, _, _, rfl, rfl, .inl (.inl (k1 _ _ upd_same hne.symm)), atI_nat ec, ?_⟩
    exact q H1 c h1 (fun b o z n => k1 b o (same_upd hL b o z) n) hc
end
end Fp

set_option Elab.async false
set_option linter.all false
set_option maxRecDepth 100000
set_option maxHeartbeats 4000000
namespace Fp
open PySem PySem.Spec PyProof.Rows L2 TL
/-! ### words drawn -/
theorem join_signs : ∀ ys : List Str, (∀ y ∈ ys, ∃ c, y = ⟨#[c]⟩ ∧ (c = 120 ∨ c = 121 ∨ c = 122)) → xyz (PySem.Txt.join "" ys) ∧ (PySem.Txt.join "" ys).length = ys.length := by
  intro ys
  have h0 : ∀ zs : List Str, (∀ y ∈ zs, ∃ c, y = ⟨#[c]⟩ ∧ (c = 120 ∨ c = 121 ∨ c = 122)) → (∀ c ∈ joinL [] (zs.map tl), c = 120 ∨ c = 121 ∨ c = 122) ∧ (joinL [] (zs.map tl)).length = zs.length := by
    intro zs
    induction zs with
    | nil => intro _; exact ⟨fun c hc => (by cases hc), rfl⟩
    | cons y r ih =>
      intro h
      obtain ⟨c, rfl, hc⟩ := h y List.mem_cons_self
      obtain ⟨i1, i2⟩ := ih fun z hz => h z (List.mem_cons_of_mem _ hz)
      cases r with
      | nil =>
        refine ⟨fun d hd => ?_, rfl⟩
        have : d = c := by simpa [joinL, tl] using hd
        rw [this]
        exact hc
      | cons z r =>
        have e : joinL [] ((⟨#[c]⟩ :: z :: r : List Str).map tl) = c :: joinL [] ((z :: r).map tl) := rfl
        rw [e]
        refine ⟨fun d hd => ?_, by rw [List.length_cons, i2]; rfl⟩
        rcases List.mem_cons.mp hd with rfl | hd
        · exact hc
        · exact i1 d hd
  intro h
  obtain ⟨h1, h2⟩ := h0 ys h
  have e : tl (PySem.Txt.join "" ys) = joinL [] (ys.map tl) := by
    rw [join_eq, tl_join]
    rfl
  refine ⟨fun c hc => h1 c ?_, ?_⟩
  · rw [← e]
    exact hc
  · rw [len_tl, e, h2]
theorem vt_put {c : Int} {m k : Nat} {l : Tb} (hv : VT c m k l) {x : Str} (hx : xyz x) (hl : x.length ≤ m) {n : Int} (h1 : 1 ≤ n) (h2 : n < c) : VT c m (k + 1) (putT l x n) := by
  refine ⟨nd_put hv.nd x n, fun p hp => ?_, fun p hp => ?_, Nat.le_trans (len_put l x n) (Nat.succ_le_succ hv.ln)⟩
  · rcases mem_put hp with rfl | hp
    · exact ⟨h1, h2⟩
    · exact hv.nu p hp
  · rcases mem_put hp with rfl | hp
    · exact ⟨hx, hl⟩
    · exact hv.wd p hp
section
variable {P : Program} {w : World} {K : PySem.W.Frag} {mg : Str → Option Value} {base : Heap}
def spWrd : Sp := fun vs H Q _ => ∃ (h ca : Addr) (z : Str) (m : Nat), vs = [.ref h, .str z, .int m] ∧ HandAt ca H h ∧ xyz z ∧ 1 ≤ z.length ∧ z.length ≤ 1000 ∧ m ≤ 1000 ∧ ∀ H' r, HandAt ca H' h → But h H H' → xyz r → r.length ≤ m → Q (.str r) H'
abbrev nWrd : List Str := ["_law_hand_here", "_law_letters", "_law_most", "_law_turn"]
theorem sc_wrd : FnScope nWrd ["_law_hand_here", "_law_letters", "_law_most"] (defScope s__law_word) := ⟨rfl, rfl, rfl, by decide +kernel, rfl, by decide +kernel, by decide +kernel⟩
theorem ok_wrd (T : Top K mg) : Ok P w K mg base 3 "_law_word" ["_law_hand_here", "_law_letters", "_law_most"] spWrd := by
  obtain ⟨fd, F⟩ := fn__law_word T
  refine ⟨⟨fd, ?_, F.bindsN fun _ _ _ _ _ _ us hl => match us, hl with | [_, _, _], _ => rfl⟩, g__law_word T, F.kp⟩
  refine F.ok sc_wrd (fun vs H Q E h => ?_) (fun cdv A outer s H vs Q E hr h => ?_)
  · obtain ⟨h, ca, z, m, rfl, _⟩ := h
    rfl
  · obtain ⟨h, ca, z, m, rfl, hh, hz, hz1, hz2, hm, q⟩ := h
    have nd := sc_wrd.nd
    have hs : sizeLine = 16777216 := sizeLine_eq
    have hr1 : Room 1 _ := hr.mono (by decide)
    refine ⟨_, PSs.nox (pss_one (ps_ret (pe_join pe_str (pe_lc (own := [("_law_turn", 3)]) (g := gName 3) (tt := tYes) rfl nd (pi_range1 (by rfl) (f_range T) (pa_cons (pc (ok_draw T) hr1 (pa_cons (pv 0) (pa_cons (pe_op op_add (pv 2) pe_int) pa_nil))) pa_nil))
      (blkOk_by (N := nWrd) (sc := defScope s__law_word) (by decide +kernel)) (fun _ _ _ _ _ => pg_name (i := 3) nd rfl (Or.inl rfl)) (fun _ _ _ _ _ => pts_nil)
      (fun _ _ _ _ _ => pe_item_str (pv 1) (pc (ok_draw T) hr1 (pa_cons (pv 0) (pa_cons (pe_callB call_len_str (by rfl) (f_len T) PySem.boot_len (pa_cons (pv 1) pa_nil)) pa_nil))) (fun _ _ => rfl)))))), ?_⟩
    refine ⟨⟨_, rfl⟩, ?_⟩
    refine ⟨_, rfl, _, rfl, _, _, rfl, rfl, h, ca, (m : Int) + 1, rfl, by omega, by omega, hh, fun r1 H1 hr0 hr2 hh1 k1 => ?_⟩
    refine ⟨r1, rfl, by omega, by omega, fun D hD => ?_⟩
    have nhD : h ≠ D := by
      obtain ⟨xs, hx⟩ := hh1.lst
      exact ne_of_none hx hD
    have ncD : ca ≠ D := by
      obtain ⟨xs, hx⟩ := hh1.cells
      exact ne_of_none hx hD
    refine lc_it walk_range (fun i H' => (∃ ys : List Str, H' D = some (.lst (ys.map V.str)) ∧ ys.length = i ∧ ∀ y ∈ ys, ∃ c, y = ⟨#[c]⟩ ∧ (c = 120 ∨ c = 121 ∨ c = 122)) ∧ HandAt ca H' h ∧ But h H1 H')
      ⟨⟨[], upd_same, rfl, fun y hy => (by cases hy)⟩, hh1.same (same_upd hD), But.of (same_upd hD)⟩ (fun _ _ _ _ => trivial) ?_ ?_
    · rintro i x H2 H3 hi ⟨⟨ys, p1, p2, p3⟩, p4, p5⟩ ⟨rfl, rfl⟩
      refine ⟨rfl, ?_⟩
      refine ⟨_, rfl, _, rfl, _, rfl, z, rfl, by omega, h, ca, (z.length : Int), rfl, by omega, by omega, p4, fun r2 H4 hr3 hr4 hh4 k4 => ?_⟩
      obtain ⟨n, rfl⟩ : ∃ n : Nat, r2 = n := ⟨r2.toNat, (Int.toNat_of_nonneg hr3).symm⟩
      have hn : n < z.cps.size := by
        have : z.length = z.cps.size := rfl
        omega
      refine ⟨z, _, z.cps[n], rfl, rfl, by omega, by omega, hr4, ?_, ?_⟩
      · rw [Int.toNat_natCast, Array.getElem?_eq_getElem hn]
      · refine ⟨_, k4 _ _ p1 nhD.symm, ?_, ⟨ys ++ [⟨#[z.cps[n]]⟩], ?_, ?_, ?_⟩, ?_, ?_⟩
        · rw [List.length_map]
          omega
        · rw [upd_same, List.map_append]
          rfl
        · rw [List.length_append, p2]
          rfl
        · intro y hy
          rcases List.mem_append.mp hy with hy | hy
          · exact p3 y hy
          · have : y = ⟨#[z.cps[n]]⟩ := by simpa using hy
            exact ⟨_, this, hz _ (by simp)⟩
        · exact hh4.off (d := D) but_upd nhD ncD
        · intro b o z' n'
          have nb : b ≠ D := ne_of_none z' hD
          rw [upd_ne nb]
          exact k4 b o (p5 b o z' n') n'
    · rintro H' ⟨⟨ys, p1, p2, p3⟩, p4, p5⟩
      obtain ⟨j1, j2⟩ := join_signs ys p3
      refine ⟨_, D, ys, rfl, rfl, .inl (.inl (.inl p1)), ?_, ?_⟩
      · have e : (ys.map (·.length)).sum = ys.length := by
          clear p1 p2 j1 j2
          induction ys with
          | nil => rfl
          | cons y r ih =>
            obtain ⟨c, rfl, _⟩ := p3 y List.mem_cons_self
            rw [List.map_cons, List.sum_cons, ih fun w hw => p3 w (List.mem_cons_of_mem _ hw), List.length_cons]
            show 1 + r.length = _
            omega
        rw [e]
        show ys.length + ys.length * 0 ≤ _
        omega
      · exact q H' _ p4 (fun b o z' n' => p5 b o (k1 b o z' n') n') j1 (by omega)
end
end Fp

set_option Elab.async false
set_option linter.all false
set_option maxRecDepth 100000
set_option maxHeartbeats 4000000
namespace Fp
open PySem PySem.Spec PyProof.Rows L2
instance (w : Str) : Decidable (xyz w) := by unfold xyz; infer_instance
theorem merge_kv' : ∀ (l a : Tb), Nd l → (∀ p ∈ l, has a p.1 = false) → mergeK (kv a) (kv l) = kv (a ++ l)
  | [], a, _, _ => by
    rw [List.append_nil]
    rfl
  | p :: r, a, h, hd => by
    have h' : (p.1 :: r.map (·.1)).Nodup := h
    obtain ⟨h1, h2⟩ := List.nodup_cons.mp h'
    have e : mergeK (kv a) (kv (p :: r)) = mergeK (putK (kv a) (Sum.inr p.1 : Key) (.int p.2)) (kv r) := rfl
    have e2 : putT a p.1 p.2 = a ++ [p] := by
      unfold putT
      rw [hd p List.mem_cons_self, if_neg Bool.false_ne_true]
    rw [e, putK_kv, e2, merge_kv' r (a ++ [p]) h2 fun q hq => ?_]
    · rw [List.append_assoc]
      rfl
    · unfold has
      rw [List.any_append]
      have h3 := hd q (List.mem_cons_of_mem _ hq)
      unfold has at h3
      rw [h3]
      have : p.1 ≠ q.1 := fun z => h1 (z ▸ List.mem_map.mpr ⟨q, hq, rfl⟩)
      simp [this]
theorem merge_kv {l : Tb} (h : Nd l) : mergeK [] (kv l) = kv l := merge_kv' l [] h fun _ _ => rfl
theorem vt_small {c : Int} {l : Tb} (hk : Nd l) (hw : ∀ x ∈ l.map (·.1), xyz x ∧ x.length ≤ 2) (hn : ∀ p ∈ l, 1 ≤ p.2 ∧ p.2 < c) (hl : l.length ≤ 3) : VT c 2 3 l :=
  ⟨hk, hn, fun p hp => hw _ (List.mem_map.mpr ⟨p, hp, rfl⟩), hl⟩
theorem vt1 {c n : Int} {a : Str} (ha : xyz a ∧ a.length ≤ 2) (h1 : 1 ≤ n) (h2 : n < c) : VT c 2 3 [(a, n)] := by
  refine ⟨by show [a].Nodup; simp, fun p hp => ?_, fun p hp => ?_, by show 1 ≤ 3; decide⟩
  · have : p = (a, n) := by simpa using hp
    subst this
    exact ⟨h1, h2⟩
  · have : p = (a, n) := by simpa using hp
    subst this
    exact ha
theorem vt2 {c n m : Int} {a b : Str} (hne : a ≠ b) (ha : xyz a ∧ a.length ≤ 2) (hb : xyz b ∧ b.length ≤ 2) (h1 : 1 ≤ n ∧ n < c) (h2 : 1 ≤ m ∧ m < c) : VT c 2 3 [(a, n), (b, m)] := by
  refine ⟨by show [a, b].Nodup; simp [hne], fun p hp => ?_, fun p hp => ?_, by show 2 ≤ 3; decide⟩
  · have hp' : p = (a, n) ∨ p = (b, m) := by simpa using hp
    rcases hp' with rfl | rfl
    · exact h1
    · exact h2
  · have hp' : p = (a, n) ∨ p = (b, m) := by simpa using hp
    rcases hp' with rfl | rfl
    · exact ha
    · exact hb
theorem vt3 {c n m k : Int} {a b d : Str} (hn : ([a, b, d] : List Str).Nodup) (ha : xyz a ∧ a.length ≤ 2) (hb : xyz b ∧ b.length ≤ 2) (hd : xyz d ∧ d.length ≤ 2) (h1 : 1 ≤ n ∧ n < c) (h2 : 1 ≤ m ∧ m < c) (h3 : 1 ≤ k ∧ k < c) : VT c 2 3 [(a, n), (b, m), (d, k)] := by
  refine ⟨hn, fun p hp => ?_, fun p hp => ?_, by show 3 ≤ 3; decide⟩
  · have hp' : p = (a, n) ∨ p = (b, m) ∨ p = (d, k) := by simpa using hp
    rcases hp' with rfl | rfl | rfl
    · exact h1
    · exact h2
    · exact h3
  · have hp' : p = (a, n) ∨ p = (b, m) ∨ p = (d, k) := by simpa using hp
    rcases hp' with rfl | rfl | rfl
    · exact ha
    · exact hb
    · exact hd
section
variable {P : Program} {w : World} {K : PySem.W.Frag} {mg : Str → Option Value} {base : Heap}
def spLot : Sp := fun vs H Q _ => ∃ (h ca : Addr) (c : Int) (z : Str) (m k : Nat), vs = [.ref h, .int c, .str z, .int m, .int k] ∧ HandAt ca H h ∧ 2 ≤ c ∧ c ≤ 7 ∧ xyz z ∧ 1 ≤ z.length ∧ z.length ≤ 1000 ∧ m ≤ 1000 ∧ k ≤ 1000 ∧
  ∀ H' d l, HandAt ca H' h → But h H H' → H d = none → H' d = some (.dK (kv l)) → VT c m k l → Q (.ref d) H'
abbrev nLot : List Str := ["_law_hand_here", "_law_clock_here", "_law_letters", "_law_most", "_law_many", "_law_found", "_law_turn"]
theorem sc_lot : FnScope nLot ["_law_hand_here", "_law_clock_here", "_law_letters", "_law_most", "_law_many"] (defScope s__law_lot) := ⟨rfl, rfl, rfl, by decide +kernel, rfl, by decide +kernel, by decide +kernel⟩
theorem ok_lot (T : Top K mg) : Ok P w K mg base 4 "_law_lot" ["_law_hand_here", "_law_clock_here", "_law_letters", "_law_most", "_law_many"] spLot := by
  obtain ⟨fd, F⟩ := fn__law_lot T
  refine ⟨⟨fd, ?_, F.bindsN fun _ _ _ _ _ _ us hl => match us, hl with | [_, _, _, _, _], _ => rfl⟩, g__law_lot T, F.kp⟩
  refine F.ok sc_lot (fun vs H Q E h => ?_) (fun cdv A outer s H vs Q E hr h => ?_)
  · obtain ⟨h, ca, c, z, m, k, rfl, _⟩ := h
    rfl
  · obtain ⟨h, ca, c, z, m, k, rfl, hh, hc2, hc7, hz, hz1, hz2, hm, hk, q⟩ := h
    have nd := sc_lot.nd
    have hu := hu_of hr
    have hs : sizeLine = 16777216 := sizeLine_eq
    have hr1 : Room 1 _ := hr.mono (by decide)
    refine ⟨_, PSs.nox (pss_cons (ps_set (i := 5) nd rfl (Or.inl rfl) pe_dnewK)
      (pss_cons (ps_for PassesOwn.never rfl (pi_range1 (by rfl) (f_range T) (pa_cons (pc (ok_draw T) hr1 (pa_cons (pv 0) (pa_cons (pe_op op_add (pv 4) pe_int) pa_nil))) pa_nil)) (pg_name (i := 6) nd rfl (Or.inl rfl))
        (pss_one (ps_dput hu (pv 5) (pc (ok_wrd T) hr (pa_cons (pv 0) (pa_cons (pv 2) (pa_cons (pv 3) pa_nil)))) (pe_op op_add pe_int (pc (ok_draw T) hr1 (pa_cons (pv 0) (pa_cons (pe_op op_sub (pv 1) pe_int) pa_nil)))) rfl)))
      (pss_one (ps_ret (pv 5))))), ?_⟩
    refine fun F0 hF => ?_
    have nhF : h ≠ F0 := by
      obtain ⟨xs, hx⟩ := hh.lst
      exact ne_of_none hx hF
    have ncF : ca ≠ F0 := by
      obtain ⟨xs, hx⟩ := hh.cells
      exact ne_of_none hx hF
    refine ⟨_, rfl, _, rfl, _, _, rfl, rfl, h, ca, (k : Int) + 1, rfl, by omega, by omega, hh.same (same_upd hF), fun r1 H1 hr0 hr2 hh1 k1 => ?_⟩
    refine ⟨r1, rfl, by omega, by omega, ?_⟩
    refine for_it walk_range (fun i σ H' => (∃ v, σ = [some (.ref h), some (.int c), some (.str z), some (.int m), some (.int k), some (.ref F0), v]) ∧ (∃ l, H' F0 = some (.dK (kv l)) ∧ VT c m i l) ∧ HandAt ca H' h ∧ But h H H')
      ⟨⟨none, rfl⟩, ⟨[], k1 _ _ upd_same nhF.symm, vt_nil c m⟩, hh1, fun b o e n => k1 b o (same_upd hF b o e) n⟩ (fun _ _ _ _ _ => trivial) ?_ ?_
    · rintro i x σ H2 H3 hi ⟨⟨v, rfl⟩, ⟨l, p1, p2⟩, p3, p4⟩ ⟨rfl, rfl⟩
      refine ⟨_, rfl, _, rfl, _, _, rfl, rfl, h, ca, c - 1, rfl, by omega, by omega, p3, fun r2 H4 g0 g1 hh4 k4 => ?_⟩
      refine ⟨_, _, rfl, rfl, _, rfl, _, rfl, _, rfl, _, rfl, h, ca, z, m, rfl, hh4, hz, hz1, hz2, hm, fun H5 x5 hh5 k5 hx5 hl5 => ?_⟩
      have e5 : H5 F0 = some (.dK (kv l)) := k5 _ _ (k4 _ _ p1 nhF.symm) nhF.symm
      have hlen := p2.ln
      refine ⟨F0, _, rfl, DPut.k (k := Sum.inr x5) e5 (by rw [kv_len]; omega), ?_⟩
      refine ⟨⟨_, rfl⟩, ⟨putT l x5 (1 + r2), ?_, vt_put p2 hx5 hl5 (by omega) (by omega)⟩, hh5.off but_upd nhF ncF, fun b o e n => ?_⟩
      · rw [upd_same, putK_kv]
      · rw [upd_ne (ne_of_none e hF)]
        exact k5 b o (k4 b o (p4 b o e n) n) n
    · rintro σ H' ⟨⟨v, rfl⟩, ⟨l, p1, p2⟩, p3, p4⟩
      refine ⟨_, rfl, ?_⟩
      exact q H' F0 l p3 p4 hF p1 (p2.mono (Nat.le_refl _) (by omega))
def spSmall : Sp := fun vs H Q _ => ∃ (h ca : Addr) (c : Int), vs = [.ref h, .int c] ∧ HandAt ca H h ∧ 2 ≤ c ∧ c ≤ 7 ∧ ∀ H' d l, HandAt ca H' h → But h H H' → H d = none → H' d = some (.dK (kv l)) → VT c 2 3 l → l ≠ [] → Q (.ref d) H'
/-- what is known of each of the small ones -/
def Good (c : Int) (H0 H : Hp) (d : Addr) : Prop := ∃ l, H d = some (.dK (kv l)) ∧ VT c 2 3 l ∧ H0 d = none ∧ l ≠ []
theorem Good.same {c : Int} {H0 H H' : Hp} {d : Addr} (g : Good c H0 H d) (s : Same H H') : Good c H0 H' d := by
  obtain ⟨l, h1, h2, h3, h4⟩ := g
  exact ⟨l, s _ _ h1, h2, h3, h4⟩
/-- one more display -/
theorem one_more {c : Int} {H0 H : Hp} {ds : List Addr} {p : Addr} {l : Tb} (s0 : Same H0 H) (hp : H p = none) (g : ∀ d ∈ ds, Good c H0 H d) (hv : VT c 2 3 l) (hne : l ≠ [] := by exact List.cons_ne_nil _ _) :
    Same H0 (upd H p (.dK (kv l))) ∧ ∀ d ∈ ds ++ [p], Good c H0 (upd H p (.dK (kv l))) d := by
  refine ⟨s0.trans (same_upd hp), fun d hd => ?_⟩
  rcases List.mem_append.mp hd with hd | hd
  · exact (g d hd).same (same_upd hp)
  · have : d = p := by simpa using hd
    subst this
    exact ⟨l, upd_same, hv, s0.free hp, hne⟩
theorem one_list {c : Int} {H0 H : Hp} {ds : List Addr} {p : Addr} {xs : List V} (s0 : Same H0 H) (hp : H p = none) (g : ∀ d ∈ ds, Good c H0 H d) :
    Same H0 (upd H p (.lst xs)) ∧ ∀ d ∈ ds, Good c H0 (upd H p (.lst xs)) d := ⟨s0.trans (same_upd hp), fun d hd => (g d hd).same (same_upd hp)⟩
abbrev nSmall : List Str := ["_law_hand_here", "_law_clock_here", "_law_number", "_law_some_here"]
end
end Fp

set_option Elab.async false
set_option linter.all false
set_option maxRecDepth 100000
set_option maxHeartbeats 4000000
namespace Fp
open PySem PySem.Spec PyProof.Rows L2
section
variable {P : Program} {w : World} {K : PySem.W.Frag} {mg : Str → Option Value} {base : Heap}
def spWoven : Sp := fun vs H Q _ => ∃ (h ca : Addr) (c k : Int), vs = [.ref h, .int c, .int k] ∧ HandAt ca H h ∧ 2 ≤ c ∧ c ≤ 7 ∧ 1 ≤ k ∧ k ≤ 1000 ∧ ∀ H' d l, HandAt ca H' h → But h H H' → H d = none → H' d = some (.dK (kv l)) → VT c 7 120 l → Q (.ref d) H'
abbrev nWoven : List Str := ["_law_hand_here", "_law_clock_here", "_law_most", "_law_found", "_law_turn", "_law_one", "_law_other", "_law_longer", "_law_word_here"]
/-- a new thing stands apart from what stood -/
theorem But.ne {a : Addr} {H H' : Hp} (k : But a H H') {p q : Addr} {o : HO} (hp : H p = some o) (np : p ≠ a) (hq : H' q = none) : p ≠ q := ne_of_none (k _ _ hp np) hq
theorem HandAt.neD {ca : Addr} {H : Hp} {h d : Addr} {kvs : List (Key × V)} (x : HandAt ca H h) (hd : H d = some (.dK kvs)) : d ≠ h := by
  obtain ⟨xs, hx⟩ := x.lst
  exact ne_of hd hx (by intro z; cases z)
end
end Fp

set_option Elab.async false
set_option linter.all false
set_option maxRecDepth 100000
set_option maxHeartbeats 4000000
namespace Fp
open PySem PySem.Spec PyProof.Rows L2
/-! ### the order of words: total, no two alike -/
theorem leR_total : PySem.W.TotalLe leR := PySem.W.sortLe_total (listOrd itemOrd) false fun b => PySem.W.keyToks (rk b)
theorem rk_inj {a b : Str} (h : PySem.W.keyToks (rk a) = PySem.W.keyToks (rk b)) : a = b := by
  unfold rk at h
  simp only [PySem.W.keyToks, PySem.W.keyToksAll] at h
  have : a.cps.toList = b.cps.toList := by simp at h; rw [h.2]
  exact PySem.W.str_of_cps this
theorem leR_anti {a b : Str} (h1 : leR a b = true) (h2 : leR b a = true) : a = b := by
  have e1 : PySem.W.dataLt (rk b) (rk a) = false := by
    have : (!PySem.W.dataLt (rk b) (rk a)) = true := h1
    simpa using this
  have e2 : PySem.W.dataLt (rk a) (rk b) = false := by
    have : (!PySem.W.dataLt (rk a) (rk b)) = true := h2
    simpa using this
  exact rk_inj ((listOrd itemOrd).total _ _ e2 e1)
theorem ord_perm {l m : List Str} (h : l.Perm m) : l.mergeSort leR = m.mergeSort leR :=
  List.Perm.eq_of_pairwise (le := fun a b => leR a b = true) (fun a b _ _ h1 h2 => leR_anti h1 h2) (PySem.W.sort_pairwise leR_total l) (PySem.W.sort_pairwise leR_total m)
    (((List.mergeSort_perm l leR).trans h).trans (List.mergeSort_perm m leR).symm)
/-! ### tables in order -/
theorem num_find {l : Tb} (h : Nd l) {p : Str × Int} (hp : p ∈ l) : num l p.1 = p.2 := by
  obtain ⟨i, hi, e⟩ := List.mem_iff_getElem.mp hp
  exact num_of h (i := i) (by rw [List.getElem?_eq_getElem hi, e])
theorem num_not {l : Tb} {x : Str} (h : x ∉ l.map (·.1)) : num l x = 0 := by
  refine (valV_no ?_).2
  cases e : has l x with
  | false => rfl
  | true => exact absurd (has_iff.mp e) h
theorem canon_keys (l : Tb) : (canon l).map (·.1) = ordW l := by
  unfold canon
  rw [List.map_map]
  exact List.map_id' _
theorem canon_nd {l : Tb} (h : Nd l) : Nd (canon l) := by
  unfold Nd
  rw [canon_keys]
  exact (List.mergeSort_perm _ _).nodup_iff.mpr h
theorem canon_mem {l : Tb} {p : Str × Int} (h : p ∈ canon l) : p.1 ∈ l.map (·.1) ∧ p.2 = num l p.1 := by
  unfold canon at h
  obtain ⟨x, hx, rfl⟩ := List.mem_map.mp h
  exact ⟨ordW_mem.mp hx, rfl⟩
theorem canon_num {l : Tb} (h : Nd l) (x : Str) : num (canon l) x = num l x := by
  by_cases hx : x ∈ l.map (·.1)
  · have hm : (x, num l x) ∈ canon l := by
      unfold canon
      exact List.mem_map.mpr ⟨x, ordW_mem.mpr hx, rfl⟩
    exact num_find (canon_nd h) hm
  · rw [num_not hx, num_not]
    rw [canon_keys]
    exact fun z => hx (ordW_mem.mp z)
/-- the same words with the same numbers: the same in order -/
theorem canon_eq {l m : Tb} (hl : Nd l) (hm : Nd m) (hk : ∀ x, x ∈ l.map (·.1) ↔ x ∈ m.map (·.1)) (hn : ∀ x, num l x = num m x) : canon l = canon m := by
  have e : ordW l = ordW m := ord_perm ((List.perm_ext_iff_of_nodup hl hm).mpr hk)
  unfold canon
  rw [e]
  exact List.map_congr_left fun x _ => by rw [hn x]
theorem canon_canon {l : Tb} (h : Nd l) : canon (canon l) = canon l :=
  canon_eq (canon_nd h) h (fun x => by rw [canon_keys]; exact ordW_mem) (canon_num h)
theorem vt_canon {c : Int} {m k : Nat} {l : Tb} (h : VT c m k l) : VT c m k (canon l) := by
  have key : ∀ p ∈ canon l, p ∈ l := fun p hp => by
    obtain ⟨h1, h2⟩ := canon_mem hp
    obtain ⟨q, hq, e⟩ := List.mem_map.mp h1
    have := num_find h.nd hq
    have : p = q := by
      obtain ⟨a, b⟩ := p
      obtain ⟨a', b'⟩ := q
      simp only at e h2 this
      subst e
      rw [h2, this]
    rw [this]
    exact hq
  refine ⟨canon_nd h.nd, fun p hp => h.nu p (key p hp), fun p hp => h.wd p (key p hp), ?_⟩
  have : (canon l).length = l.length := by
    unfold canon
    rw [List.length_map, ordW_len]
  rw [this]
  exact h.ln
/-- a number changed: not the same -/
theorem canon_ne {l m : Tb} (hl : Nd l) (hm : Nd m) {x : Str} (h : num l x ≠ num m x) : canon l ≠ canon m := fun e => h (by rw [← canon_num hl, ← canon_num hm, e])
theorem num_put {l : Tb} (x : Str) (n : Int) : num (putT l x n) x = n := by
  unfold putT
  cases e : has l x with
  | true =>
    rw [if_pos rfl]
    unfold num
    have : ∀ r : Tb, has r x = true → ((r.map fun p => if p.1 = x then (p.1, n) else p).find? fun p => decide (p.1 = x)).map (·.2) = some n := by
      intro r
      induction r with
      | nil => intro h; cases h
      | cons p r ih =>
        intro h
        by_cases hp : p.1 = x
        · rw [List.map_cons, if_pos hp, List.find?_cons_of_pos (by simpa using hp)]
          rfl
        · rw [List.map_cons, if_neg hp, List.find?_cons_of_neg (by simpa using hp)]
          refine ih ?_
          unfold has at h ⊢
          rw [List.any_cons] at h
          simpa [hp] using h
    rw [this l e]
    rfl
  | false =>
    rw [if_neg Bool.false_ne_true]
    unfold num
    rw [List.find?_append]
    have : l.find? (fun p => decide (p.1 = x)) = none := by
      rw [has_find] at e
      cases z : l.find? fun p => decide (p.1 = x) with
      | none => rfl
      | some p => rw [z] at e; cases e
    rw [this]
    simp
theorem num_drop {l : Tb} (x : Str) : num (dropT l x) x = 0 := by
  refine num_not fun h => ?_
  obtain ⟨p, hp, e⟩ := List.mem_map.mp h
  have := (List.mem_filter.mp hp).2
  simp [e] at this
theorem num_putM (c : Int) (l : Tb) (x : Str) (n : Int) : num (putM c l x n) x = (num l x + n) % c := by
  unfold putM
  split
  · rename_i h
    rw [num_drop, h]
  · exact num_put x _
theorem num_range {c : Int} {m k : Nat} {l : Tb} (hc : 0 < c) (h : VT c m k l) (x : Str) : 0 ≤ num l x ∧ num l x < c := by
  by_cases hx : x ∈ l.map (·.1)
  · obtain ⟨p, hp, rfl⟩ := List.mem_map.mp hx
    rw [num_find h.nd hp]
    have := h.nu p hp
    omega
  · rw [num_not hx]
    omega
/-- words put in backward -/
theorem puts_new : ∀ (xs : List Str) (f : Str → Int) (a : Tb), (a.map (·.1) ++ xs).Nodup → xs.foldl (fun a x => putT a x (f x)) a = a ++ xs.map fun x => (x, f x)
  | [], f, a, _ => by simp
  | x :: r, f, a, h => by
    have h1 : x ∉ a.map (·.1) := fun z => by
      have := (List.nodup_append.mp h).2.2 x z x List.mem_cons_self
      exact this rfl
    have e : putT a x (f x) = a ++ [(x, f x)] := by
      unfold putT
      have : has a x = false := by
        cases z : has a x with
        | false => rfl
        | true => exact absurd (has_iff.mp z) h1
      rw [this, if_neg Bool.false_ne_true]
    rw [List.foldl_cons, e, puts_new r f _ (by rw [List.map_append, List.append_assoc]; exact h), List.map_cons, List.append_assoc]
    rfl
def backT (l : Tb) : Tb := (ordW l).reverse.map fun x => (x, num l x)
theorem backT_keys (l : Tb) : (backT l).map (·.1) = (ordW l).reverse := by
  unfold backT
  rw [List.map_map]
  exact List.map_id' _
theorem ordW_nd {l : Tb} (h : Nd l) : (ordW l).Nodup := (List.mergeSort_perm _ _).nodup_iff.mpr h
theorem backT_nd {l : Tb} (h : Nd l) : Nd (backT l) := by
  unfold Nd
  rw [backT_keys]
  exact (List.reverse_perm _).nodup_iff.mpr (ordW_nd h)
theorem backT_num {l : Tb} (h : Nd l) (x : Str) : num (backT l) x = num l x := by
  by_cases hx : x ∈ l.map (·.1)
  · have hm : (x, num l x) ∈ backT l := by
      unfold backT
      exact List.mem_map.mpr ⟨x, List.mem_reverse.mpr (ordW_mem.mpr hx), rfl⟩
    exact num_find (backT_nd h) hm
  · rw [num_not hx, num_not]
    rw [backT_keys]
    exact fun z => hx (ordW_mem.mp (List.mem_reverse.mp z))
theorem backT_canon {l : Tb} (h : Nd l) : canon (backT l) = canon l :=
  canon_eq (backT_nd h) h (fun x => by rw [backT_keys, List.mem_reverse]; exact ordW_mem) (backT_num h)
theorem vt_back {c : Int} {m k : Nat} {l : Tb} (h : VT c m k l) : VT c m k (backT l) := by
  have key : ∀ p ∈ backT l, p ∈ l := fun p hp => by
    unfold backT at hp
    obtain ⟨x, hx, rfl⟩ := List.mem_map.mp hp
    obtain ⟨q, hq, e⟩ := List.mem_map.mp (ordW_mem.mp (List.mem_reverse.mp hx))
    have := num_find h.nd hq
    obtain ⟨a, b⟩ := q
    simp only at e this
    subst e
    rw [this]
    exact hq
  refine ⟨backT_nd h.nd, fun p hp => h.nu p (key p hp), fun p hp => h.wd p (key p hp), ?_⟩
  unfold backT
  rw [List.length_map, List.length_reverse, ordW_len]
  exact h.ln
section
variable {P : Program} {w : World} {K : PySem.W.Frag} {mg : Str → Option Value} {base : Heap}
def spSome : Sp := fun vs H Q _ => ∃ (h ca : Addr) (c : Int), vs = [.ref h, .int c] ∧ HandAt ca H h ∧ 2 ≤ c ∧ c ≤ 7 ∧ ∀ H' d l, HandAt ca H' h → But h H H' → H d = none → H' d = some (.dK (kv l)) → VT c 7 120 l → Q (.ref d) H'
abbrev nSome : List Str := ["_law_hand_here", "_law_clock_here", "_law_kind"]
end
end Fp

set_option Elab.async false
set_option linter.all false
set_option maxRecDepth 100000
set_option maxHeartbeats 4000000
namespace Fp
open PySem PySem.Spec PyProof.Rows L2
/-! ### sums of numbers by words -/
def tot (es : Tb) (x : Str) : Int := (es.map fun p => if p.1 = x then p.2 else 0).sum
theorem tot_nil (x : Str) : tot [] x = 0 := rfl
theorem tot_cons (p : Str × Int) (r : Tb) (x : Str) : tot (p :: r) x = (if p.1 = x then p.2 else 0) + tot r x := by
  unfold tot
  rw [List.map_cons, List.sum_cons]
theorem tot_app (a b : Tb) (x : Str) : tot (a ++ b) x = tot a x + tot b x := by
  induction a with
  | nil => rw [List.nil_append, tot_nil, Int.zero_add]
  | cons p r ih => rw [List.cons_append, tot_cons, tot_cons, ih, Int.add_assoc]
theorem tot_not {l : Tb} {x : Str} (h : x ∉ l.map (·.1)) : tot l x = 0 := by
  induction l with
  | nil => rfl
  | cons p r ih =>
    rw [tot_cons, if_neg (fun z : p.1 = x => h (by rw [← z]; exact List.mem_cons_self)), ih (fun z => h (List.mem_cons_of_mem _ z)), Int.zero_add]
theorem num_cons (p : Str × Int) (r : Tb) (x : Str) : num (p :: r) x = if p.1 = x then p.2 else num r x := by
  unfold num
  by_cases h : p.1 = x
  · rw [List.find?_cons_of_pos (by simpa using h), if_pos h]
    rfl
  · rw [List.find?_cons_of_neg (by simpa using h), if_neg h]
theorem tot_num {l : Tb} (h : Nd l) (x : Str) : tot l x = num l x := by
  induction l with
  | nil => rfl
  | cons p r ih =>
    have h' : (p.1 :: r.map (·.1)).Nodup := h
    obtain ⟨h1, h2⟩ := List.nodup_cons.mp h'
    rw [tot_cons, num_cons]
    by_cases e : p.1 = x
    · rw [if_pos e, if_pos e, tot_not (e ▸ h1), Int.add_zero]
    · rw [if_neg e, if_neg e, Int.zero_add, ih h2]
theorem num_put_ne {l : Tb} {x y : Str} (n : Int) (h : x ≠ y) : num (putT l x n) y = num l y := by
  unfold putT
  cases has l x with
  | true =>
    rw [if_pos rfl]
    induction l with
    | nil => rfl
    | cons p r ih =>
      rw [List.map_cons, num_cons, num_cons, ih]
      by_cases e : p.1 = x
      · rw [if_pos e]
        show (if p.1 = y then n else num r y) = _
        rw [if_neg (fun z => h (e ▸ z)), if_neg (fun z => h (e ▸ z))]
      · rw [if_neg e]
  | false =>
    rw [if_neg Bool.false_ne_true]
    induction l with
    | nil =>
      rw [List.nil_append, num_cons, if_neg h]
    | cons p r ih => rw [List.cons_append, num_cons, num_cons, ih]
theorem num_drop_ne {l : Tb} {x y : Str} (h : x ≠ y) : num (dropT l x) y = num l y := by
  unfold dropT
  induction l with
  | nil => rfl
  | cons p r ih =>
    by_cases e : p.1 = x
    · rw [List.filter_cons_of_neg (by simpa using e), ih, num_cons, if_neg (fun z => h (e ▸ z))]
    · rw [List.filter_cons_of_pos (by simpa using e), num_cons, num_cons, ih]
theorem num_putM_ne (c : Int) {l : Tb} {x y : Str} (n : Int) (h : x ≠ y) : num (putM c l x n) y = num l y := by
  unfold putM
  split
  · exact num_drop_ne h
  · exact num_put_ne _ h
/-- the law's putting, entry by entry -/
theorem num_foldM {c : Int} : ∀ (es : Tb) (a : Tb) (x : Str), num (es.foldl (fun a p => putM c a p.1 p.2) a) x % c = (num a x + tot es x) % c
  | [], a, x => by rw [tot_nil, Int.add_zero]; rfl
  | p :: r, a, x => by
    rw [List.foldl_cons, num_foldM r, tot_cons]
    by_cases e : p.1 = x
    · subst e
      rw [num_putM, if_pos rfl, Int.emod_add_emod, Int.add_assoc]
    · rw [num_putM_ne _ _ e, if_neg e, Int.zero_add]
/-- laying to, entry by entry -/
def addT (es a : Tb) : Tb := es.foldl (fun a p => putT a p.1 (num a p.1 + p.2)) a
theorem num_addT : ∀ (es a : Tb) (x : Str), num (addT es a) x = num a x + tot es x
  | [], a, x => by rw [tot_nil, Int.add_zero]; rfl
  | p :: r, a, x => by
    have e0 : addT (p :: r) a = addT r (putT a p.1 (num a p.1 + p.2)) := rfl
    rw [e0, num_addT r, tot_cons]
    by_cases e : p.1 = x
    · subst e
      rw [num_put, if_pos rfl, Int.add_assoc]
    · rw [num_put_ne _ e, if_neg e, Int.zero_add]
theorem nd_addT : ∀ (es a : Tb), Nd a → Nd (addT es a)
  | [], a, h => h
  | p :: r, a, h => nd_addT r _ (nd_put h _ _)
theorem len_addT : ∀ (es a : Tb), (addT es a).length ≤ a.length + es.length
  | [], a => Nat.le_refl _
  | p :: r, a => by
    have h1 := len_addT r (putT a p.1 (num a p.1 + p.2))
    have h2 := len_put a p.1 (num a p.1 + p.2)
    have e0 : addT (p :: r) a = addT r (putT a p.1 (num a p.1 + p.2)) := rfl
    rw [e0, List.length_cons]
    omega
theorem key_put {l : Tb} {x : Str} {n : Int} {q : Str × Int} (h : q ∈ putT l x n) : q.1 = x ∨ ∃ p ∈ l, p.1 = q.1 := by
  rcases mem_put h with rfl | h
  · exact .inl rfl
  · exact .inr ⟨q, h, rfl⟩
theorem key_addT : ∀ (es a : Tb) (q : Str × Int), q ∈ addT es a → (∃ p ∈ a, p.1 = q.1) ∨ ∃ p ∈ es, p.1 = q.1
  | [], a, q, h => .inl ⟨q, h, rfl⟩
  | p :: r, a, q, h => by
    rcases key_addT r _ q h with ⟨p', h1, h2⟩ | ⟨p', h1, h2⟩
    · rcases key_put h1 with e | ⟨p2, h3, h4⟩
      · exact .inr ⟨p, List.mem_cons_self, e ▸ h2⟩
      · exact .inl ⟨p2, h3, h4.trans h2⟩
    · exact .inr ⟨p', List.mem_cons_of_mem _ h1, h2⟩
/-- tidied -/
def tidyM (c : Int) (l : Tb) : Tb := (l.filter fun p => decide (p.2 % c ≠ 0)).map fun p => (p.1, p.2 % c)
theorem tidy_keys {c : Int} {l : Tb} {q : Str × Int} (h : q ∈ tidyM c l) : ∃ p ∈ l, q = (p.1, p.2 % c) ∧ p.2 % c ≠ 0 := by
  unfold tidyM at h
  obtain ⟨p, hp, rfl⟩ := List.mem_map.mp h
  obtain ⟨h1, h2⟩ := List.mem_filter.mp hp
  exact ⟨p, h1, rfl, of_decide_eq_true h2⟩
theorem tidy_nd {c : Int} {l : Tb} (h : Nd l) : Nd (tidyM c l) := by
  unfold Nd tidyM
  rw [List.map_map]
  have : ((fun p : Str × Int => p.1) ∘ fun p : Str × Int => (p.1, p.2 % c)) = fun p => p.1 := rfl
  rw [this]
  exact (List.Sublist.map _ List.filter_sublist).nodup h
theorem tidy_len {c : Int} {l : Tb} : (tidyM c l).length ≤ l.length := by
  unfold tidyM
  rw [List.length_map]
  exact List.length_filter_le _ _
theorem tidy_rg {c : Int} {l : Tb} (hc : 0 < c) : ∀ q ∈ tidyM c l, 1 ≤ q.2 ∧ q.2 < c := fun q hq => by
  obtain ⟨p, _, rfl, h⟩ := tidy_keys hq
  have h1 := Int.emod_nonneg p.2 (show c ≠ 0 by omega)
  have h2 := Int.emod_lt_of_pos p.2 hc
  show 1 ≤ p.2 % c ∧ p.2 % c < c
  omega
theorem num_tidy {c : Int} {l : Tb} (h : Nd l) (x : Str) : num (tidyM c l) x = num l x % c := by
  unfold tidyM
  induction l with
  | nil => rfl
  | cons p r ih =>
    have h' : (p.1 :: r.map (·.1)).Nodup := h
    obtain ⟨h1, h2⟩ := List.nodup_cons.mp h'
    have ih := ih h2
    rw [num_cons]
    by_cases e : p.2 % c = 0
    · rw [List.filter_cons_of_neg (by simpa using e), ih]
      by_cases e2 : p.1 = x
      · rw [if_pos e2, e, num_not (e2 ▸ h1)]
        rfl
      · rw [if_neg e2]
    · rw [List.filter_cons_of_pos (by simpa using e), List.map_cons, num_cons]
      by_cases e2 : p.1 = x
      · rw [if_pos e2, if_pos e2]
      · rw [if_neg e2, if_neg e2, ih]
theorem vt_tidy {c : Int} {m : Nat} {l : Tb} (hc : 0 < c) (h : Nd l) (hw : ∀ p ∈ l, xyz p.1 ∧ p.1.length ≤ m) : VT c m l.length (tidyM c l) :=
  ⟨tidy_nd h, tidy_rg hc, fun q hq => by
    obtain ⟨p, hp, rfl, _⟩ := tidy_keys hq
    exact hw p hp, tidy_len⟩
/-! ### two tables with the same numbers are the same in order -/
theorem rg_key {l : Tb} (h : Nd l) (hr : ∀ p ∈ l, 1 ≤ p.2) (x : Str) : x ∈ l.map (·.1) ↔ num l x ≠ 0 := by
  constructor
  · intro hx
    obtain ⟨p, hp, rfl⟩ := List.mem_map.mp hx
    rw [num_find h hp]
    have := hr p hp
    omega
  · intro hn
    by_cases hx : x ∈ l.map (·.1)
    · exact hx
    · exact absurd (num_not hx) hn
theorem canon_ext {l m : Tb} (hl : Nd l) (hm : Nd m) (rl : ∀ p ∈ l, 1 ≤ p.2) (rm : ∀ p ∈ m, 1 ≤ p.2) (h : ∀ x, num l x = num m x) : canon l = canon m :=
  canon_eq hl hm (fun x => by rw [rg_key hl rl, rg_key hm rm, h x]) h
theorem num_mod {c : Int} {m k : Nat} {l : Tb} (hc : 0 < c) (h : VT c m k l) (x : Str) : num l x % c = num l x :=
  Int.emod_eq_of_lt (num_range hc h x).1 (num_range hc h x).2
/-- tables by a clock -/
theorem vt_ext {c : Int} {m k m' k' : Nat} {l l' : Tb} (h : VT c m k l) (h' : VT c m' k' l') (e : ∀ x, num l x = num l' x) : canon l = canon l' :=
  canon_ext h.nd h'.nd (fun p hp => (h.nu p hp).1) (fun p hp => (h'.nu p hp).1) e
/-! ### what the law's sums and products have -/
def scl (f : Int) (l : Tb) : Tb := l.map fun p => (p.1, f * p.2)
theorem tot_scl (f : Int) (l : Tb) (x : Str) : tot (scl f l) x = f * tot l x := by
  induction l with
  | nil => rw [tot_nil, Int.mul_zero]; rfl
  | cons p r ih =>
    have e : scl f (p :: r) = (p.1, f * p.2) :: scl f r := rfl
    rw [e, tot_cons, tot_cons, ih, Int.mul_add]
    by_cases h : p.1 = x
    · rw [if_pos h, if_pos h]
    · rw [if_neg h, if_neg h, Int.mul_zero]
theorem num_plusM {c f : Int} {m k m' k' : Nat} {l1 l2 : Tb} (hc : 0 < c) (h1 : VT c m k l1) (h2 : VT c m k' l2) (x : Str) : num (plusM c l1 l2 f) x = (num l1 x + f * num l2 x) % c := by
  have v := vt_plusM hc h1 h2 f
  rw [← num_mod hc v x]
  have e : plusM c l1 l2 f = (scl f l2).foldl (fun a p => putM c a p.1 p.2) l1 := by
    unfold plusM scl
    rw [List.foldl_map]
  rw [e, num_foldM, tot_scl, tot_num h2.nd]
/-- each word of one with each of the other behind it -/
def prs (l m : Tb) : Tb := l.flatMap fun p => m.map fun q => (p.1 ++ q.1, p.2 * q.2)
theorem prs_cons (p : Str × Int) (l m : Tb) : prs (p :: l) m = (m.map fun q => (p.1 ++ q.1, p.2 * q.2)) ++ prs l m := List.flatMap_cons
theorem prodM_tab (c : Int) (l m : Tb) : prodM c l m = (prs l m).foldl (fun a p => putM c a p.1 p.2) [] := by
  have key : ∀ (l : Tb) (a : Tb), l.foldl (fun acc p => m.foldl (fun acc q => putM c acc (p.1 ++ q.1) (p.2 * q.2)) acc) a = (prs l m).foldl (fun a p => putM c a p.1 p.2) a := by
    intro l
    induction l with
    | nil => intro a; rfl
    | cons p r ih =>
      intro a
      rw [List.foldl_cons, ih, prs_cons, List.foldl_append, List.foldl_map]
  exact key l []
theorem num_prodM {c : Int} {m1 k1 m2 k2 : Nat} {l1 l2 : Tb} (hc : 0 < c) (h1 : VT c m1 k1 l1) (h2 : VT c m2 k2 l2) (x : Str) : num (prodM c l1 l2) x = tot (prs l1 l2) x % c := by
  rw [← num_mod hc (vt_prodM hc h1 h2) x, prodM_tab, num_foldM]
  have : num [] x = 0 := rfl
  rw [this, Int.zero_add]
def multT (l m : Tb) : Tb := addT (prs l m) []
/-! ### products by their totals -/
theorem str_cancel {u v w : Str} (h : u ++ v = u ++ w) : v = w := by
  have e : (u ++ v).cps.toList = (u ++ w).cps.toList := by rw [h]
  have e1 : ∀ a b : Str, (a ++ b).cps.toList = a.cps.toList ++ b.cps.toList := fun a b => by
    show (a.cps ++ b.cps).toList = _
    exact Array.toList_append
  rw [e1, e1] at e
  exact PySem.W.str_of_cps (List.append_cancel_left e)
theorem str_cancel_r {u v w : Str} (h : v ++ u = w ++ u) : v = w := by
  have e : (v ++ u).cps.toList = (w ++ u).cps.toList := by rw [h]
  have e1 : ∀ a b : Str, (a ++ b).cps.toList = a.cps.toList ++ b.cps.toList := fun a b => by
    show (a.cps ++ b.cps).toList = _
    exact Array.toList_append
  rw [e1, e1] at e
  exact PySem.W.str_of_cps (List.append_cancel_right e)
theorem str_assoc (u v w : Str) : (u ++ v) ++ w = u ++ (v ++ w) := by
  apply PySem.W.str_of_cps
  have e1 : ∀ a b : Str, (a ++ b).cps.toList = a.cps.toList ++ b.cps.toList := fun a b => by
    show (a.cps ++ b.cps).toList = _
    exact Array.toList_append
  rw [e1, e1, e1, e1, List.append_assoc]
/-- a word put ahead of each -/
def fwd (p : Str × Int) (m : Tb) : Tb := m.map fun q => (p.1 ++ q.1, p.2 * q.2)
theorem tot_fwd (p : Str × Int) (m : Tb) (x : Str) : (∃ v, p.1 ++ v = x ∧ tot (fwd p m) x = p.2 * tot m v) ∨ ((∀ v, p.1 ++ v ≠ x) ∧ tot (fwd p m) x = 0) := by
  by_cases h : ∃ v, p.1 ++ v = x
  · obtain ⟨v, hv⟩ := h
    refine .inl ⟨v, hv, ?_⟩
    induction m with
    | nil => rw [tot_nil, Int.mul_zero]; rfl
    | cons q r ih =>
      have e : fwd p (q :: r) = (p.1 ++ q.1, p.2 * q.2) :: fwd p r := rfl
      rw [e, tot_cons, tot_cons, ih, Int.mul_add]
      by_cases z : q.1 = v
      · rw [if_pos z, if_pos (by rw [z]; exact hv)]
      · rw [if_neg z, if_neg (fun y => z (str_cancel (y.trans hv.symm))), Int.mul_zero]
  · have h' : ∀ v, p.1 ++ v ≠ x := fun v hv => h ⟨v, hv⟩
    refine .inr ⟨h', ?_⟩
    induction m with
    | nil => rfl
    | cons q r ih =>
      have e : fwd p (q :: r) = (p.1 ++ q.1, p.2 * q.2) :: fwd p r := rfl
      rw [e, tot_cons, if_neg (h' q.1), ih, Int.zero_add]
def bwd (q : Str × Int) (l : Tb) : Tb := l.map fun p => (p.1 ++ q.1, p.2 * q.2)
theorem tot_bwd (q : Str × Int) (l : Tb) (x : Str) : (∃ v, v ++ q.1 = x ∧ tot (bwd q l) x = tot l v * q.2) ∨ ((∀ v, v ++ q.1 ≠ x) ∧ tot (bwd q l) x = 0) := by
  by_cases h : ∃ v, v ++ q.1 = x
  · obtain ⟨v, hv⟩ := h
    refine .inl ⟨v, hv, ?_⟩
    induction l with
    | nil => rw [tot_nil, Int.zero_mul]; rfl
    | cons p r ih =>
      have e : bwd q (p :: r) = (p.1 ++ q.1, p.2 * q.2) :: bwd q r := rfl
      rw [e, tot_cons, tot_cons, ih, Int.add_mul]
      by_cases z : p.1 = v
      · rw [if_pos z, if_pos (by rw [z]; exact hv)]
      · rw [if_neg z, if_neg (fun y => z (str_cancel_r (y.trans hv.symm))), Int.zero_mul]
  · have h' : ∀ v, v ++ q.1 ≠ x := fun v hv => h ⟨v, hv⟩
    refine .inr ⟨h', ?_⟩
    induction l with
    | nil => rfl
    | cons p r ih =>
      have e : bwd q (p :: r) = (p.1 ++ q.1, p.2 * q.2) :: bwd q r := rfl
      rw [e, tot_cons, if_neg (h' p.1), ih, Int.zero_add]
theorem tot_prs_cons (p : Str × Int) (l m : Tb) (x : Str) : tot (prs (p :: l) m) x = tot (fwd p m) x + tot (prs l m) x := by
  rw [prs_cons, tot_app]
  rfl
theorem prs_nil_r (l : Tb) : prs l [] = [] := by
  induction l with
  | nil => rfl
  | cons p r ih => rw [prs_cons, ih]; rfl
theorem tot_prs_cons_r (q : Str × Int) (l m : Tb) (x : Str) : tot (prs l (q :: m)) x = tot (bwd q l) x + tot (prs l m) x := by
  induction l with
  | nil => rfl
  | cons p r ih =>
    rw [tot_prs_cons, tot_prs_cons, ih]
    have e1 : fwd p (q :: m) = (p.1 ++ q.1, p.2 * q.2) :: fwd p m := rfl
    have e2 : bwd q (p :: r) = (p.1 ++ q.1, p.2 * q.2) :: bwd q r := rfl
    rw [e1, e2, tot_cons, tot_cons]
    omega
/-- alike by a clock -/
def Lk (c : Int) (l m : Tb) : Prop := ∀ x, tot l x % c = tot m x % c
theorem Lk.refl (c : Int) (l : Tb) : Lk c l l := fun _ => rfl
theorem Lk.symm {c : Int} {l m : Tb} (h : Lk c l m) : Lk c m l := fun x => (h x).symm
theorem Lk.trans {c : Int} {l m n : Tb} (h : Lk c l m) (g : Lk c m n) : Lk c l n := fun x => (h x).trans (g x)
theorem Lk.app {c : Int} {l l' m m' : Tb} (h : Lk c l l') (g : Lk c m m') : Lk c (l ++ m) (l' ++ m') := fun x => by
  rw [tot_app, tot_app, Int.add_emod, h x, g x, ← Int.add_emod]
theorem Lk.scl {c : Int} (f : Int) {l l' : Tb} (h : Lk c l l') : Lk c (scl f l) (Fp.scl f l') := fun x => by
  rw [tot_scl, tot_scl, Int.mul_emod, h x, ← Int.mul_emod]
theorem Lk.prs_r {c : Int} (l : Tb) {m m' : Tb} (h : Lk c m m') : Lk c (prs l m) (prs l m') := fun x => by
  induction l with
  | nil => rfl
  | cons p r ih =>
    rw [tot_prs_cons, tot_prs_cons, Int.add_emod, ih]
    have : tot (fwd p m) x % c = tot (fwd p m') x % c := by
      rcases tot_fwd p m x with ⟨v, hv, e⟩ | ⟨hn, e⟩
      · rcases tot_fwd p m' x with ⟨v', hv', e'⟩ | ⟨hn, e'⟩
        · have : v = v' := str_cancel (hv.trans hv'.symm)
          rw [e, e', this, Int.mul_emod, h v', ← Int.mul_emod]
        · exact absurd hv (hn v)
      · rcases tot_fwd p m' x with ⟨v', hv', e'⟩ | ⟨_, e'⟩
        · exact absurd hv' (hn v')
        · rw [e, e']
    rw [this, ← Int.add_emod]
theorem Lk.prs_l {c : Int} {l l' : Tb} (m : Tb) (h : Lk c l l') : Lk c (prs l m) (prs l' m) := fun x => by
  induction m with
  | nil => rw [prs_nil_r, prs_nil_r]
  | cons q r ih =>
    rw [tot_prs_cons_r, tot_prs_cons_r, Int.add_emod, ih]
    have : tot (bwd q l) x % c = tot (bwd q l') x % c := by
      rcases tot_bwd q l x with ⟨v, hv, e⟩ | ⟨hn, e⟩
      · rcases tot_bwd q l' x with ⟨v', hv', e'⟩ | ⟨hn, e'⟩
        · have : v = v' := str_cancel_r (hv.trans hv'.symm)
          rw [e, e', this, Int.mul_emod, h v', ← Int.mul_emod]
        · exact absurd hv (hn v)
      · rcases tot_bwd q l' x with ⟨v', hv', e'⟩ | ⟨_, e'⟩
        · exact absurd hv' (hn v')
        · rw [e, e']
    rw [this, ← Int.add_emod]
theorem Lk.prs {c : Int} {l l' m m' : Tb} (h : Lk c l l') (g : Lk c m m') : Lk c (prs l m) (Fp.prs l' m') := (Lk.prs_l m h).trans (Lk.prs_r l' g)
theorem prs_assoc (l m n : Tb) : prs (prs l m) n = prs l (prs m n) := by
  unfold prs
  rw [List.flatMap_assoc]
  congr 1
  funext p
  rw [List.flatMap_map, List.map_flatMap]
  congr 1
  funext q
  rw [List.map_map]
  congr 1
  funext r
  simp only [Function.comp]
  rw [str_assoc, Int.mul_assoc]
theorem prs_app_r (l m n : Tb) (x : Str) : tot (prs l (m ++ n)) x = tot (prs l m ++ prs l n) x := by
  induction l with
  | nil => rfl
  | cons p r ih =>
    rw [tot_app] at ih ⊢
    rw [tot_prs_cons, tot_prs_cons, tot_prs_cons, ih]
    have e : fwd p (m ++ n) = fwd p m ++ fwd p n := by unfold fwd; rw [List.map_append]
    rw [e, tot_app]
    omega
theorem str_nil_l (x : Str) : ("" : Str) ++ x = x := PySem.W.str_of_cps (by show ((#[] : Array Nat) ++ x.cps).toList = _; simp)
theorem str_nil_r (x : Str) : x ++ ("" : Str) = x := PySem.W.str_of_cps (by show (x.cps ++ (#[] : Array Nat)).toList = _; simp)
theorem prs_one_l (m : Tb) : prs [("", 1)] m = m := by
  rw [prs_cons]
  have : prs [] m = [] := rfl
  rw [this, List.append_nil]
  have e : (fun q : Str × Int => (((("" : Str), (1 : Int)).1 ++ q.1, (("" : Str), (1 : Int)).2 * q.2) : Str × Int)) = id := by
    funext q
    show ((("" : Str) ++ q.1, 1 * q.2) : Str × Int) = q
    rw [str_nil_l, Int.one_mul]
  rw [e, List.map_id]
theorem prs_one_r (l : Tb) : prs l [("", 1)] = l := by
  induction l with
  | nil => rfl
  | cons p r ih =>
    rw [prs_cons, ih]
    show ((p.1 ++ ("" : Str), p.2 * 1) : Str × Int) :: r = _
    rw [str_nil_r, Int.mul_one]
end Fp

set_option Elab.async false
set_option linter.all false
set_option maxRecDepth 100000
set_option maxHeartbeats 4000000
namespace L2
open PySem PySem.Spec PyProof.Rows
/-- a dict comprehension over what is walked: Pv by the turn and the heap, the new dict at D in it -/
theorem dc_it {J : It} {n : Nat} {G : Hp → Prop} {Y : Nat → Hp → V → Hp → Prop} (wk : Walk J n G Y) {g : TG} {tt : TT} {tk tv : TE} {vs : List Nat} {σ : St} {H1 : Hp} {D : Addr} {Qd : Hp → Prop} (Pv : Nat → Hp → Prop) (z0 : Pv 0 (upd H1 D (.dK [])))
    (zG : ∀ i H, i ≤ n → Pv i H → G H)
    (zs : ∀ i x H H', i < n → Pv i H → Y i H x H' → g x (wipe σ vs) H' fun σ2 H2 => wipe σ2 vs = wipe σ vs ∧ tt σ2 H2 fun b H3 =>
      if b = true then tk σ2 H3 fun y H4 => tv σ2 H4 fun z H5 => ∃ kvs k, y = kV k ∧ H5 D = some (.dK kvs) ∧ kvs.length < sizeLine ∧ Pv (i + 1) (upd H5 D (.dK (putK kvs k z))) else Pv (i + 1) H3)
    (zd : ∀ H, Pv n H → Qd H) :
    ∃ W : Nat → Nat → Hp → Prop, (∃ m, W 0 m (upd H1 D (.dK []))) ∧ ∀ i m H, W i m H →
      (J.stop i H ∧ Qd H) ∨ (J.go i H ∧ ∃ Nx : Hp → Prop, (∀ H', Nx H' → ∃ m', m' < m ∧ W (i + 1) m' H') ∧ ∀ x H', J.yld i H x H' → g x (wipe σ vs) H' fun σ2 H2 => wipe σ2 vs = wipe σ vs ∧ tt σ2 H2 fun b H3 =>
        if b = true then tk σ2 H3 fun y H4 => tv σ2 H4 fun z H5 => ∃ kvs k, y = kV k ∧ H5 D = some (.dK kvs) ∧ kvs.length < sizeLine ∧ Nx (upd H5 D (.dK (putK kvs k z))) else Nx H3) := by
  refine ⟨fun i m H => (m = n - i ∧ i ≤ n) ∧ Pv i H, ⟨n, ⟨by simp, Nat.zero_le _⟩, z0⟩, ?_⟩
  rintro i m H ⟨⟨rfl, hi⟩, p⟩
  have q := zG i H hi p
  by_cases hlt : i < n
  · exact .inr ⟨wk.goes i H hlt q, Pv (i + 1), fun H' p' => ⟨n - (i + 1), by omega, ⟨rfl, hlt⟩, p'⟩, fun x H' y => zs i x H H' hlt p (wk.yields i H x H' hlt q y)⟩
  · obtain rfl : i = n := by omega
    exact .inl ⟨wk.stops H q, zd H p⟩
/-- X(), X an own class without __init__ -/
theorem pmk_own0 {X : Cx} {C : Addr} {bmB : List Value} {B newId initId : String} {x : Str} {p pos : Pos} (F : ExcBaseFacts B newId initId bmB) (q : PySem.W.excIn X.K C bmB newId = true) (gC : X.mg x = some (.ref C))
    (kC : PySem.W.keepIn X.K (.ref C) = true) (r : Raises X (.ref C)) (hg : Gl X x) (hdb : (x == ("__debug__" : Str)) = false := by decide) : PMk X (.Call (.Name x p) [] [] pos) (fun _ H Q => Q (.ref C) none H) := by
  intro pins s σ H Q I h
  refine wpAny_Call_Name_kw (ld_glob I hg gC ?_ hdb)
  refine PySem.W.callWith_K0 (K := X.K) I.kIn kC ?_
  show wpAny _ _ (call (.ref C) []) _ _ _
  obtain ⟨bm, N, nm, qn, bs, hdct, sn, sub, ab, col, dd, k0, k1, k2, k3, k5, mN, hC, hN, hni, T⟩ := exc_obj I.kIn q
  refine wpAny_call_exc_subT F T hC hN hni (fun h' e hm => ?_) (Nat.zero_le _)
  exact mk_of I hm r h (I.hok.gone hm.new)
abbrev tTru (K : PySem.W.Frag) (te : TE) : TT := fun σ H Q => te σ H fun x H' => ∃ k, TruV K x H' k ∧ Q k H'
abbrev tMod (a b : TE) : TE := tOp (rI (fun _ j => 0 < j) fun i j => .int (i % j)) a b
abbrev gPair (K : PySem.W.Frag) (i j : Nat) : TG := gTup K 2 (gCons (gName i) (gCons (gName j) gNil))
end L2
namespace Fp
open PySem PySem.Spec PyProof.Rows L2
theorem tidy_take (c : Int) {l : Tb} {i : Nat} {p : Str × Int} (e : l[i]? = some p) : tidyM c (l.take (i + 1)) = if p.2 % c ≠ 0 then tidyM c (l.take i) ++ [(p.1, p.2 % c)] else tidyM c (l.take i) := by
  unfold tidyM
  rw [List.take_add_one, e]
  simp only [Option.toList_some, List.filter_append, List.map_append]
  by_cases h : p.2 % c = 0
  · rw [if_neg (fun z => z h)]
    have : [p].filter (fun p => decide (p.2 % c ≠ 0)) = [] := List.filter_cons_of_neg (by simpa using h)
    rw [this]
    simp
  · rw [if_pos h]
    have : [p].filter (fun p => decide (p.2 % c ≠ 0)) = [p] := List.filter_cons_of_pos (by simpa using h)
    rw [this]
    rfl
theorem tidy_no (c : Int) {l : Tb} (h : Nd l) {i : Nat} {p : Str × Int} (e : l[i]? = some p) : has (tidyM c (l.take i)) p.1 = false := by
  cases z : has (tidyM c (l.take i)) p.1 with
  | false => rfl
  | true =>
    exfalso
    obtain ⟨q, hq, e2⟩ := List.mem_map.mp (has_iff.mp z)
    obtain ⟨p', hp', e3, _⟩ := tidy_keys hq
    rw [e3] at e2
    have h1 : Nd (l.take (i + 1)) := by
      unfold Nd
      rw [List.map_take]
      exact (List.take_sublist _ _).nodup h
    unfold Nd at h1
    rw [List.take_add_one, e, List.map_append] at h1
    have h2 := (List.nodup_append.mp h1).2.2
    exact h2 p'.1 (List.mem_map.mpr ⟨p', hp', rfl⟩) p.1 (by simp) e2
theorem kv_item {l : Tb} {i : Nat} {k v : V} (h1 : ((kv l)[i]?.map fun kv => kV kv.1) = some k) (h2 : ((kv l)[i]?.map Prod.snd) = some v) : ∃ p, l[i]? = some p ∧ k = .str p.1 ∧ v = .int p.2 := by
  unfold kv at h1 h2
  rw [List.getElem?_map] at h1 h2
  cases q : l[i]? with
  | none => rw [q] at h1; cases h1
  | some p =>
    rw [q] at h1 h2
    exact ⟨p, rfl, (Option.some.inj h1).symm, (Option.some.inj h2).symm⟩
section
variable {P : Program} {w : World} {K : PySem.W.Frag} {mg : Str → Option Value} {base : Heap}
def spTidied : Sp := fun vs H Q _ => ∃ (d : Addr) (c : Int) (l : Tb), vs = [.ref d, .int c] ∧ 0 < c ∧ H d = some (.dK (kv l)) ∧ Nd l ∧ l.length ≤ 1000000 ∧ ∀ H' D, Same H H' → H D = none → H' D = some (.dK (kv (tidyM c l))) → Q (.ref D) H'
abbrev nTidied : List Str := ["table", "clock", "word", "number"]
theorem sc_tidied : FnScope nTidied ["table", "clock"] (defScope s_tidied) := ⟨rfl, rfl, rfl, by decide +kernel, rfl, by decide +kernel, by decide +kernel⟩
theorem ok_tidied (T : Top K mg) : Ok P w K mg base 1 "tidied" ["table", "clock"] spTidied := by
  obtain ⟨fd, F⟩ := fn_tidied T
  refine ⟨⟨fd, ?_, F.bindsN fun _ _ _ _ _ _ us hl => match us, hl with | [_, _], _ => rfl⟩, g_tidied T, F.kp⟩
  refine F.ok sc_tidied (fun vs H Q E h => ?_) (fun cdv A outer s H vs Q E hr h => ?_)
  · obtain ⟨d, c, l, rfl, _⟩ := h
    rfl
  · obtain ⟨d, c, l, rfl, hc, hd, hnd, hll, q⟩ := h
    have nd := sc_tidied.nd
    have hu := hu_of hr
    have hs : sizeLine = 16777216 := sizeLine_eq
    refine ⟨_, PSs.nox (pss_one (ps_ret (pe_lock (pe_dc (own := [("word", 2), ("number", 3)]) (g := gPair K 2 3) (tt := tTru K (tMod (tVar 3) (tVar 1))) (tk := tVar 2) (tv := tMod (tVar 3) (tVar 1)) rfl nd (pi_items (pv 0)) (blkOk_by (N := nTidied) (sc := defScope s_tidied) (by decide +kernel))
      (fun _ _ _ _ _ => pg_tup rfl (pgs_cons (pg_name (i := 2) nd rfl (Or.inl rfl)) (pgs_cons (pg_name (i := 3) nd rfl (Or.inl rfl)) pgs_nil)))
      (fun _ _ _ _ _ => pts_one (pt_truth (pe_op op_mod (pv 3) (pv 1)) (fun _ => rfl))) (fun _ _ _ _ _ => pv 2) (fun _ _ _ _ _ => pe_op op_mod (pv 3) (pv 1)))))), ?_⟩
    refine ⟨d, _, hd, trivial, fun od => ?_⟩
    refine ⟨_, rfl, d, od, kv l, rfl, upd_same, fun D hD => ?_⟩
    have nD : D ≠ d := fun e => by
      rw [e, upd_same] at hD
      cases hD
    have hD0 : H D = none := by
      rw [upd_ne nD] at hD
      exact hD
    refine dc_it walk_items (fun i H' => H' D = some (.dK (kv (tidyM c (l.take i)))) ∧ But d H H' ∧ H' d = some (.frz od (.dK (kv l)))) ⟨upd_same, ?_, ?_⟩ (fun i H' _ hP => hP.2.2) ?_ ?_
    · intro b o e n
      rw [upd_ne (ne_of_none e hD0), upd_ne n]
      exact e
    · rw [upd_ne nD.symm]
      exact upd_same
    · rintro i x H1 H2 hi ⟨p1, p2, p3⟩ ⟨t, k, v, rfl, ht, rfl, e1, e2⟩
      obtain ⟨p, ep, rfl, rfl⟩ := kv_item e1 e2
      have nt : D ≠ t := ne_of_none p1 ht
      have ndt : d ≠ t := ne_of_none p3 ht
      refine ⟨t, _, rfl, .inl (.inl upd_same), rfl, ?_⟩
      refine ⟨_, _, rfl, _, _, rfl, rfl, rfl, ?_⟩
      refine ⟨_, rfl, _, rfl, _, _, rfl, rfl, hc, _, rfl, ?_⟩
      have et := tidy_take c ep
      have el : (tidyM c (l.take i)).length ≤ i := Nat.le_trans tidy_len (by rw [List.length_take]; omega)
      rw [kv_len] at hi
      refine ite2 (fun hz => ?_) (fun hz => ?_)
      · have hz' : p.2 % c ≠ 0 := by simpa using hz
        rw [if_pos hz'] at et
        refine ⟨_, rfl, _, rfl, _, rfl, _, _, rfl, rfl, hc, _, Sum.inr p.1, rfl, by rw [upd_ne nt]; exact p1, by rw [kv_len]; omega, ?_, ?_, ?_⟩
        · rw [upd_same, putK_kv, et]
          unfold putT
          rw [tidy_no c hnd ep, if_neg Bool.false_ne_true]
        · intro b o e n
          rw [upd_ne (ne_of_none e hD0), upd_ne (ne_of_none (p2 b o e n) ht)]
          exact p2 b o e n
        · rw [upd_ne nD.symm, upd_ne ndt]
          exact p3
      · have hz' : ¬ p.2 % c ≠ 0 := by simpa using hz
        rw [if_neg hz'] at et
        refine ⟨?_, ?_, ?_⟩
        · rw [upd_ne nt, et]
          exact p1
        · intro b o e n
          rw [upd_ne (ne_of_none (p2 b o e n) ht)]
          exact p2 b o e n
        · rw [upd_ne ndt]
          exact p3
    · rintro H' ⟨p1, p2, p3⟩
      rw [kv_len, List.take_length] at p1
      refine ⟨p3, q _ D (fun b o e => ?_) hD0 (by rw [upd_ne nD]; exact p1)⟩
      by_cases n : b = d
      · rw [n, upd_same, ← hd, ← n, e]
      · rw [upd_ne n]
        exact p2 b o e n
end
end Fp

set_option Elab.async false
set_option linter.all false
set_option maxRecDepth 100000
set_option maxHeartbeats 4000000
namespace Fp
open PySem PySem.Spec PyProof.Rows L2
theorem addT_app (a b x : Tb) : addT (a ++ b) x = addT b (addT a x) := by
  unfold addT
  rw [List.foldl_append]
theorem addT_take {es : Tb} {i : Nat} {p : Str × Int} (e : es[i]? = some p) (a : Tb) : addT (es.take (i + 1)) a = putT (addT (es.take i) a) p.1 (num (addT (es.take i) a) p.1 + p.2) := by
  rw [List.take_add_one, e, addT_app]
  rfl
theorem scl_get {f : Int} {l : Tb} {i : Nat} {p : Str × Int} (e : l[i]? = some p) : (scl f l)[i]? = some (p.1, f * p.2) := by
  unfold scl
  rw [List.getElem?_map, e]
  rfl
theorem scl_len (f : Int) (l : Tb) : (scl f l).length = l.length := List.length_map _
theorem fwd_get {q : Str × Int} {l : Tb} {i : Nat} {p : Str × Int} (e : l[i]? = some p) : (fwd q l)[i]? = some (q.1 ++ p.1, q.2 * p.2) := by
  unfold fwd
  rw [List.getElem?_map, e]
  rfl
theorem fwd_len (q : Str × Int) (l : Tb) : (fwd q l).length = l.length := List.length_map _
theorem prs_take {l m : Tb} {i : Nat} {p : Str × Int} (e : l[i]? = some p) : prs (l.take (i + 1)) m = prs (l.take i) m ++ fwd p m := by
  rw [List.take_add_one, e]
  unfold prs
  rw [List.flatMap_append]
  simp only [Option.toList_some, List.flatMap_cons, List.flatMap_nil, List.append_nil]
  rfl
theorem prs_len (l m : Tb) : (prs l m).length = l.length * m.length := by
  induction l with
  | nil => rw [show prs [] m = [] from rfl]; simp
  | cons p r ih => rw [prs_cons, List.length_append, ih, List.length_map, List.length_cons, Nat.add_mul]; omega
section
variable {P : Program} {w : World} {K : PySem.W.Frag} {mg : Str → Option Value} {base : Heap}
def spAdded : Sp := fun vs H Q _ => ∃ (d1 d2 : Addr) (f c : Int) (l1 l2 : Tb), vs = [.ref d1, .ref d2, .int f, .int c] ∧ 0 < c ∧ c ≤ 7 ∧ H d1 = some (.dK (kv l1)) ∧ H d2 = some (.dK (kv l2)) ∧ Nd l1 ∧ (∀ p ∈ l2, 1 ≤ p.2 ∧ p.2 < c) ∧ l1.length ≤ 400000 ∧ l2.length ≤ 400000 ∧
  ∀ H' D, Same H H' → H D = none → H' D = some (.dK (kv (tidyM c (addT (scl f l2) l1)))) → Q (.ref D) H'
abbrev nAdded : List Str := ["one", "other", "factor", "clock", "found", "word", "number"]
theorem sc_added : FnScope nAdded ["one", "other", "factor", "clock"] (defScope s_added) := ⟨rfl, rfl, rfl, by decide +kernel, rfl, by decide +kernel, by decide +kernel⟩
theorem ok_added (T : Top K mg) : Ok P w K mg base 2 "added" ["one", "other", "factor", "clock"] spAdded := by
  obtain ⟨fd, F⟩ := fn_added T
  refine ⟨⟨fd, ?_, F.bindsN fun _ _ _ _ _ _ us hl => match us, hl with | [_, _, _, _], _ => rfl⟩, g_added T, F.kp⟩
  refine F.ok sc_added (fun vs H Q E h => ?_) (fun cdv A outer s H vs Q E hr h => ?_)
  · obtain ⟨d1, d2, f, c, l1, l2, rfl, _⟩ := h
    rfl
  · obtain ⟨d1, d2, f, c, l1, l2, rfl, hc, hc7, h1, h2, hnd, hnu, hl1, hl2, q⟩ := h
    have nd := sc_added.nd
    have hu := hu_of hr
    have hs : sizeLine = 16777216 := sizeLine_eq
    refine ⟨_, PSs.nox (pss_cons (ps_set (i := 4) nd rfl (Or.inl rfl) (pe_callTy call_dictD (by rfl) (f_dict T) (by decide +kernel) (pa_cons (pv 0) pa_nil)))
      (pss_cons (ps_lock (ps_for PassesOwn.never rfl (pi_items (pv 1)) (pg_tup rfl (pgs_cons (pg_name (i := 5) nd rfl (Or.inl rfl)) (pgs_cons (pg_name (i := 6) nd rfl (Or.inl rfl)) pgs_nil)))
        (pss_one (ps_dput hu (pv 4) (pv 5) (pe_op op_add (pe_dget2 hu (pv 4) (pv 5) pe_int ⟨rfl, rfl, rfl, rfl⟩) (pe_op op_mul (pv 2) (pv 6))) rfl))))
      (pss_one (ps_ret (pc (ok_tidied T) hr (pa_cons (pv 4) (pa_cons (pv 3) pa_nil))))))), ?_⟩
    refine ⟨_, rfl, d1, kv l1, rfl, .inl h1, fun F0 hF => ?_⟩
    have n2F : d2 ≠ F0 := ne_of_none h2 hF
    refine ⟨d2, .dK (kv l2), by rw [upd_ne n2F]; exact h2, trivial, fun od => ?_⟩
    refine ⟨_, rfl, d2, od, kv l2, rfl, upd_same, ?_⟩
    refine for_it walk_items (fun i σ H' => (∃ v u, σ = [some (.ref d1), some (.ref d2), some (.int f), some (.int c), some (.ref F0), v, u]) ∧ H' F0 = some (.dK (kv (addT ((scl f l2).take i) l1))) ∧ But d2 H H' ∧ H' d2 = some (.frz od (.dK (kv l2))))
      ⟨⟨none, none, rfl⟩, ?_, ?_, upd_same⟩ (fun i σ H' _ hP => hP.2.2.2) ?_ ?_
    · rw [upd_ne n2F.symm, upd_same]
      rfl
    · intro b o e n
      rw [upd_ne n, upd_ne (ne_of_none e hF)]
      exact e
    · rintro i x σ H1 H2 hi ⟨⟨v, u, rfl⟩, p1, p2, p3⟩ ⟨t, k, v', rfl, ht, rfl, e1, e2⟩
      obtain ⟨p, ep, rfl, rfl⟩ := kv_item e1 e2
      have hn := hnu p (List.mem_of_getElem? ep)
      have nFt : F0 ≠ t := ne_of_none p1 ht
      have ndt : d2 ≠ t := ne_of_none p3 ht
      have p1' : (upd H1 t (.tup [.str p.1, .int p.2])) F0 = some (.dK (kv (addT ((scl f l2).take i) l1))) := by
        rw [upd_ne nFt]
        exact p1
      refine ⟨t, _, rfl, .inl (.inl upd_same), rfl, ?_⟩
      refine ⟨_, _, rfl, _, _, rfl, rfl, ?_⟩
      refine ⟨_, rfl, F0, rfl, .inl ⟨_, .inl p1'⟩, _, rfl, _, DGet.k (k := Sum.inr p.1) p1', ?_⟩
      rw [num_eq]
      refine ⟨_, rfl, _, rfl, _, _, rfl, rfl, .inr ⟨by omega, by omega⟩, _, _, rfl, rfl, ?_⟩
      refine ⟨_, rfl, _, rfl, F0, _, rfl, DPut.k (k := Sum.inr p.1) p1' ?_, ?_⟩
      · have := len_addT ((scl f l2).take i) l1
        rw [List.length_take, scl_len] at this
        rw [kv_len]
        omega
      · refine ⟨⟨_, _, rfl⟩, ?_, ?_, ?_⟩
        · rw [upd_same, putK_kv, addT_take (scl_get ep)]
        · intro b o z n
          rw [upd_ne (ne_of_none z hF), upd_ne (ne_of_none (p2 b o z n) ht)]
          exact p2 b o z n
        · rw [upd_ne n2F, upd_ne ndt]
          exact p3
    · rintro σ H' ⟨⟨v, u, rfl⟩, p1, p2, p3⟩
      rw [kv_len, List.take_of_length_le (by rw [scl_len]; exact Nat.le_refl _)] at p1
      refine ⟨p3, ?_⟩
      have base' : Same H (upd H' d2 (.dK (kv l2))) := fun b o e => by
        by_cases n : b = d2
        · rw [n, upd_same, ← h2, ← n, e]
        · rw [upd_ne n]
          exact p2 b o e n
      refine ⟨_, rfl, _, rfl, F0, c, _, rfl, hc, by rw [upd_ne n2F.symm]; exact p1, nd_addT _ _ hnd, ?_, fun H2 D s2 nD eD => q H2 D (base'.trans s2) (base'.free nD) eD⟩
      have := len_addT (scl f l2) l1
      rw [scl_len] at this
      omega
def spMult : Sp := fun vs H Q _ => ∃ (d1 d2 : Addr) (c : Int) (m1 k1 m2 k2 : Nat) (l1 l2 : Tb), vs = [.ref d1, .ref d2, .int c] ∧ 0 < c ∧ c ≤ 7 ∧ d1 ≠ d2 ∧ H d1 = some (.dK (kv l1)) ∧ H d2 = some (.dK (kv l2)) ∧ VT c m1 k1 l1 ∧ VT c m2 k2 l2 ∧ m1 ≤ 1000 ∧ m2 ≤ 1000 ∧ k1 * k2 ≤ 900000 ∧
  ∀ H' D, Same H H' → H D = none → H' D = some (.dK (kv (tidyM c (multT l1 l2)))) → Q (.ref D) H'
abbrev nMult : List Str := ["one", "other", "clock", "found", "front", "number", "back", "amount"]
theorem sc_mult : FnScope nMult ["one", "other", "clock"] (defScope s_multiplied) := ⟨rfl, rfl, rfl, by decide +kernel, rfl, by decide +kernel, by decide +kernel⟩
theorem ok_multiplied (T : Top K mg) : Ok P w K mg base 2 "multiplied" ["one", "other", "clock"] spMult := by
  obtain ⟨fd, F⟩ := fn_multiplied T
  refine ⟨⟨fd, ?_, F.bindsN fun _ _ _ _ _ _ us hl => match us, hl with | [_, _, _], _ => rfl⟩, g_multiplied T, F.kp⟩
  refine F.ok sc_mult (fun vs H Q E h => ?_) (fun cdv A outer s H vs Q E hr h => ?_)
  · obtain ⟨d1, d2, c, m1, k1, m2, k2, l1, l2, rfl, _⟩ := h
    rfl
  · obtain ⟨d1, d2, c, m1, k1, m2, k2, l1, l2, rfl, hc, hc7, n12, h1, h2, v1, v2, hm1, hm2, hk, q⟩ := h
    have nd := sc_mult.nd
    have hu := hu_of hr
    have hs : sizeLine = 16777216 := sizeLine_eq
    have hkk : l1.length * l2.length ≤ 900000 := Nat.le_trans (Nat.mul_le_mul v1.ln v2.ln) hk
    refine ⟨_, PSs.nox (pss_cons (ps_set (i := 3) nd rfl (Or.inl rfl) pe_dnewK)
      (pss_cons (ps_lock (ps_for PassesOwn.never rfl (pi_items (pv 0)) (pg_tup rfl (pgs_cons (pg_name (i := 4) nd rfl (Or.inl rfl)) (pgs_cons (pg_name (i := 5) nd rfl (Or.inl rfl)) pgs_nil)))
        (pss_one (ps_lock (ps_for PassesOwn.never rfl (pi_items (pv 1)) (pg_tup rfl (pgs_cons (pg_name (i := 6) nd rfl (Or.inl rfl)) (pgs_cons (pg_name (i := 7) nd rfl (Or.inl rfl)) pgs_nil)))
          (pss_one (ps_dput hu (pv 3) (pe_op op_add_str (pv 4) (pv 6)) (pe_op op_add (pe_dget2 hu (pv 3) (pe_op op_add_str (pv 4) (pv 6)) pe_int ⟨rfl, rfl, rfl, rfl⟩) (pe_op op_mul (pv 5) (pv 7))) rfl)))))))
      (pss_one (ps_ret (pc (ok_tidied T) hr (pa_cons (pv 3) (pa_cons (pv 2) pa_nil))))))), ?_⟩
    refine fun F0 hF => ?_
    have n1F : d1 ≠ F0 := ne_of_none h1 hF
    have n2F : d2 ≠ F0 := ne_of_none h2 hF
    refine ⟨d1, .dK (kv l1), by rw [upd_ne n1F]; exact h1, trivial, fun od => ?_⟩
    refine ⟨_, rfl, d1, od, kv l1, rfl, upd_same, ?_⟩
    refine for_it walk_items (fun i σ H' => (∃ v u v2 u2, σ = [some (.ref d1), some (.ref d2), some (.int c), some (.ref F0), v, u, v2, u2]) ∧ H' F0 = some (.dK (kv (addT (prs (l1.take i) l2) []))) ∧ But d1 H H' ∧ H' d1 = some (.frz od (.dK (kv l1))))
      ⟨⟨none, none, none, none, rfl⟩, ?_, ?_, upd_same⟩ (fun i σ H' _ hP => hP.2.2.2) ?_ ?_
    · rw [upd_ne n1F.symm, upd_same]
      rfl
    · intro b o e n
      rw [upd_ne n, upd_ne (ne_of_none e hF)]
      exact e
    · rintro i x σ H1 H2 hi ⟨⟨v, u, v2', u2', rfl⟩, p1, p2, p3⟩ ⟨t, k, v', rfl, ht, rfl, e1, e2⟩
      obtain ⟨p, ep, rfl, rfl⟩ := kv_item e1 e2
      have hp : p ∈ l1 := List.mem_of_getElem? ep
      have hil : i < l1.length := (List.getElem?_eq_some_iff.mp ep).1
      have nFt : F0 ≠ t := ne_of_none p1 ht
      have ndt : d1 ≠ t := ne_of_none p3 ht
      have x1 : (upd H1 t (.tup [.str p.1, .int p.2])) F0 = some (.dK (kv (addT (prs (l1.take i) l2) []))) := by
        rw [upd_ne nFt]
        exact p1
      have x2 : But d1 H (upd H1 t (.tup [.str p.1, .int p.2])) := fun b o z n => by
        rw [upd_ne (ne_of_none (p2 b o z n) ht)]
        exact p2 b o z n
      have x3 : (upd H1 t (.tup [.str p.1, .int p.2])) d1 = some (.frz od (.dK (kv l1))) := by
        rw [upd_ne ndt]
        exact p3
      refine ⟨t, _, rfl, .inl (.inl upd_same), rfl, ?_⟩
      refine ⟨_, _, rfl, _, _, rfl, rfl, ?_⟩
      generalize upd H1 t (.tup [.str p.1, .int p.2]) = H1 at x1 x2 x3 ⊢
      clear p1 p2 p3 nFt ndt ht
      have hplen : (l1.take i).length = i := by rw [List.length_take]; omega
      refine ⟨d2, .dK (kv l2), x2 _ _ h2 n12.symm, trivial, fun od2 => ?_⟩
      refine ⟨_, rfl, d2, od2, kv l2, rfl, upd_same, ?_⟩
      refine for_it walk_items (fun j σ H' => (∃ v u, σ = [some (.ref d1), some (.ref d2), some (.int c), some (.ref F0), some (.str p.1), some (.int p.2), v, u]) ∧ H' F0 = some (.dK (kv (addT ((fwd p l2).take j) (addT (prs (l1.take i) l2) [])))) ∧
          (∀ b o, H b = some o → b ≠ d1 → b ≠ d2 → H' b = some o) ∧ H' d1 = some (.frz od (.dK (kv l1))) ∧ H' d2 = some (.frz od2 (.dK (kv l2))))
        ⟨⟨_, _, rfl⟩, ?_, ?_, ?_, upd_same⟩ (fun i σ H' _ hP => hP.2.2.2.2) ?_ ?_
      · rw [upd_ne n2F.symm]
        exact x1
      · intro b o z na nb
        rw [upd_ne nb]
        exact x2 b o z na
      · rw [upd_ne n12]
        exact x3
      · rintro j x σ H3 H4 hj ⟨⟨v, u, rfl⟩, r1, r2, r3, r4⟩ ⟨t2, k, v', rfl, ht2, rfl, e1, e2⟩
        obtain ⟨q0, eq0, rfl, rfl⟩ := kv_item e1 e2
        have hq : q0 ∈ l2 := List.mem_of_getElem? eq0
        have hjl : j < l2.length := (List.getElem?_eq_some_iff.mp eq0).1
        have hn1 := v1.nu p hp
        have hn2 := v2.nu q0 hq
        have hw1 := v1.wd p hp
        have hw2 := v2.wd q0 hq
        have nFt : F0 ≠ t2 := ne_of_none r1 ht2
        have y1 : (upd H3 t2 (.tup [.str q0.1, .int q0.2])) F0 = some (.dK (kv (addT ((fwd p l2).take j) (addT (prs (l1.take i) l2) [])))) := by
          rw [upd_ne nFt]
          exact r1
        have hwl : p.1.length + q0.1.length ≤ sizeLine := by have := hw1.2; have := hw2.2; omega
        refine ⟨t2, _, rfl, .inl (.inl upd_same), rfl, ?_⟩
        refine ⟨_, _, rfl, _, _, rfl, rfl, ?_⟩
        refine ⟨_, rfl, F0, rfl, .inl ⟨_, .inl y1⟩, _, rfl, _, rfl, _, _, rfl, rfl, hwl, _, DGet.k (k := Sum.inr (p.1 ++ q0.1)) y1, ?_⟩
        rw [num_eq]
        refine ⟨_, rfl, _, rfl, _, _, rfl, rfl, .inr ⟨by omega, by omega⟩, _, _, rfl, rfl, ?_⟩
        refine ⟨_, rfl, _, rfl, _, rfl, _, _, rfl, rfl, hwl, F0, _, rfl, DPut.k (k := Sum.inr (p.1 ++ q0.1)) y1 ?_, ?_⟩
        · have b1 := len_addT ((fwd p l2).take j) (addT (prs (l1.take i) l2) [])
          have b2 := len_addT (prs (l1.take i) l2) []
          rw [prs_len, hplen] at b2
          rw [List.length_take, fwd_len] at b1
          have b3 : (i + 1) * l2.length ≤ l1.length * l2.length := Nat.mul_le_mul_right _ hil
          rw [Nat.add_mul] at b3
          have b4 : ([] : Tb).length = 0 := rfl
          rw [kv_len]
          omega
        · refine ⟨⟨_, _, rfl⟩, ?_, ?_, ?_, ?_⟩
          · rw [upd_same, putK_kv, addT_take (fwd_get eq0)]
          · intro b o z na nb
            rw [upd_ne (ne_of_none z hF), upd_ne (ne_of_none (r2 b o z na nb) ht2)]
            exact r2 b o z na nb
          · rw [upd_ne n1F, upd_ne (ne_of_none r3 ht2)]
            exact r3
          · rw [upd_ne n2F, upd_ne (ne_of_none r4 ht2)]
            exact r4
      · rintro σ H3 ⟨⟨v, u, rfl⟩, r1, r2, r3, r4⟩
        rw [kv_len, List.take_of_length_le (by rw [fwd_len]; exact Nat.le_refl _)] at r1
        refine ⟨r4, ⟨_, _, _, _, rfl⟩, ?_, ?_, ?_⟩
        · rw [upd_ne n2F.symm, prs_take ep, addT_app]
          exact r1
        · intro b o z na
          by_cases nb : b = d2
          · rw [nb, upd_same, ← h2, ← nb, z]
          · rw [upd_ne nb]
            exact r2 b o z na nb
        · rw [upd_ne n12]
          exact r3
    · rintro σ H' ⟨⟨v, u, v2', u2', rfl⟩, p1, p2, p3⟩
      rw [kv_len, List.take_length] at p1
      refine ⟨p3, ?_⟩
      have base' : Same H (upd H' d1 (.dK (kv l1))) := fun b o e => by
        by_cases n : b = d1
        · rw [n, upd_same, ← h1, ← n, e]
        · rw [upd_ne n]
          exact p2 b o e n
      refine ⟨_, rfl, _, rfl, F0, c, _, rfl, hc, by rw [upd_ne n1F.symm]; exact p1, nd_addT _ _ (show Nd [] from List.nodup_nil), ?_, fun H2 D s2 nD eD => q H2 D (base'.trans s2) (base'.free nD) eD⟩
      have := len_addT (prs l1 l2) []
      rw [prs_len] at this
      have b4 : ([] : Tb).length = 0 := rfl
      omega
end
end Fp

set_option Elab.async false
set_option linter.all false
set_option maxRecDepth 100000
set_option maxHeartbeats 4000000
namespace L2
open PySem PySem.Spec PyProof.Rows
/-- a walk over a list or a tuple, told by the heap -/
def iSeqV (K : PySem.W.Frag) (tl : TE) : TI := fun σ H R => tl σ H fun x H1 => ∃ a, x = .ref a ∧ (((∃ xs, SqL K H1 a xs) ∧ R (Itl K a) H1) ∨ ((∃ xs, SqT K H1 a xs) ∧ R (Itt K a) H1))
theorem pi_seqV {X : Cx} {tg : Expr} {l : Expr} {tl : TE} (he : PE X l tl) : PI X tg l (iSeqV X.K tl) := by
  constructor
  intro pins s σ H R I h
  refine thn (he.run pins s σ H _ I h) fun v t ⟨x, G, J, rr, a, e, hh⟩ => ?_
  subst e
  cases rr
  have fp : ∀ b ∈ [t.heap.objs.size], FpOk X pins G b := fun b hb => by
    rw [List.mem_singleton.mp hb]
    exact J.fpOk (Nat.le_refl _) (J.hok.fresh (Nat.le_refl _))
  have go : ∀ o, Inv X pins σ G { t with heap := t.heap.push o } := fun o => J.kept (t' := t.toks) fun b u z => Heap.get?_push_of_some _ z
  rcases hh with ⟨⟨xs, hq⟩, q⟩ | ⟨⟨xs, hq⟩, q⟩
  · obtain ⟨its, _, pl, _⟩ := J.list hq
    exact wpAny_pyIter_list pl.isList ⟨t.heap.objs.size, [t.heap.objs.size], _, _, G, rfl, go _, turn_list a _, ⟨_, Heap.get?_push_size _ rfl, rfl, rfl⟩, fp, q⟩
  · obtain ⟨its, _, pl, _⟩ := J.tuple hq
    exact wpAny_pyIter_tuple (show t.heap.IsTuple a its.toArray from pl) ⟨t.heap.objs.size, [t.heap.objs.size], _, _, G, rfl, go _, turn_tuple a _, ⟨_, Heap.get?_push_size _ rfl, rfl, rfl⟩, fp, q⟩
end L2
namespace Fp
open PySem PySem.Spec PyProof.Rows L2
/-! ### defs that may raise -/
structure OkX (P : Program) (w : World) (K : PySem.W.Frag) (mg : Str → Option Value) (base : Heap) (k : Nat) (x : Str) (ps : List Str) (sp : Sp) : Prop where
  ex : ∃ fd, FnOk P w K mg base (L2.CX P w) k (He.ga K x) fd ps sp ∧ Binds K fd ps []
  g : mg x = some (.ref (He.ga K x))
  kp : PySem.W.keepIn K (.ref (He.ga K x)) = true
/-- called where it doesn't raise -/
theorem pcL {X : Cx} {x : Str} {p pos : Pos} {e : Expr} {es : List Expr} {t : TA} {k : Nat} {ps : List Str} {sp : Sp} (G : OkX X.prog X.w X.K X.mg X.base k x ps sp) (hr : Room k X.A) (ha : PA X (e :: es) t) (hg : Gl X x := by rfl) (hdb : (x == ("__debug__" : Str)) = false := by decide)
    (he : starEach (e :: es) X.env = (false, eval e X.env) :: starEach es X.env := by rfl) (hpl : (backTo pos (starEach es X.env)).any (·.1) = false := by rfl) : PE X (.Call (.Name x p) (e :: es) [] pos) (tCall sp [] E0 t) := by
  obtain ⟨fd, F, b⟩ := G.ex
  exact pe_call F hr hg G.g G.kp b .nil passL ha hdb he hpl
/-- called where it may -/
theorem pcX {X : Cx} {W : WX} (tk : Takes X W) {x : Str} {p pos : Pos} {e : Expr} {es : List Expr} {t : TA} {k : Nat} {ps : List Str} {sp : Sp} (G : OkX X.prog X.w X.K X.mg X.base k x ps sp) (hr : Room k X.A) (ha : PA X (e :: es) t) (hg : Gl X x := by rfl) (hdb : (x == ("__debug__" : Str)) = false := by decide)
    (he : starEach (e :: es) X.env = (false, eval e X.env) :: starEach es X.env := by rfl) (hpl : (backTo pos (starEach es X.env)).any (·.1) = false := by rfl) : PE X (.Call (.Name x p) (e :: es) [] pos) (tCallS sp (fun σ => WE W σ) t) := by
  obtain ⟨fd, F, b⟩ := G.ex
  exact pe_callS F hr hg G.g G.kp b (fun σ => passAt tk σ) ha hdb he hpl
/-! ### bags: what callers know -/
theorem ck_range {c : Int} (h : isCk c) : 2 ≤ c ∧ c ≤ 7 := by
  rcases h with rfl | rfl | rfl | rfl <;> constructor <;> decide
theorem Lk.of_num {c : Int} {l m : Tb} (hl : Nd l) (hm : Nd m) (h : ∀ x, num l x = num m x) : Lk c l m := fun x => by rw [tot_num hl, tot_num hm, h x]
theorem lk_canon {c : Int} {l : Tb} (h : Nd l) : Lk c (canon l) l := Lk.of_num (canon_nd h) h (canon_num h)
theorem lk_tidy {c : Int} {l : Tb} (h : Nd l) : Lk c (tidyM c l) l := fun x => by rw [tot_num (tidy_nd h), tot_num h, num_tidy h, Int.emod_emod_of_dvd _ (Int.dvd_refl c)]
theorem lk_addT {c : Int} {es a : Tb} (h : Nd a) : Lk c (addT es a) (a ++ es) := fun x => by rw [tot_num (nd_addT _ _ h), num_addT, tot_app, tot_num h]
theorem lk_same {c : Int} {m k m' k' : Nat} {l l' : Tb} (hc : 0 < c) (h : VT c m k l) (h' : VT c m' k' l') (e : Lk c l l') : canon l = canon l' :=
  vt_ext h h' fun x => by
    have := e x
    rw [tot_num h.nd, tot_num h'.nd, num_mod hc h, num_mod hc h'] at this
    exact this
theorem lk_diff {c : Int} {m k m' k' : Nat} {l l' : Tb} (hc : 0 < c) (h : VT c m k l) (h' : VT c m' k' l') (e : canon l = canon l') : Lk c l l' := (lk_canon h.nd).symm.trans (e ▸ lk_canon h'.nd)
theorem lk_plus {c f : Int} {m k m' k' : Nat} {l1 l2 : Tb} (hc : 0 < c) (h1 : VT c m k l1) (h2 : VT c m k' l2) : Lk c (plusM c l1 l2 f) (l1 ++ scl f l2) := fun x => by
  rw [tot_num (vt_plusM hc h1 h2 f).nd, num_plusM (m' := 0) hc h1 h2, tot_app, tot_scl, tot_num h1.nd, tot_num h2.nd, Int.emod_emod_of_dvd _ (Int.dvd_refl c)]
theorem lk_prod {c : Int} {m1 k1 m2 k2 : Nat} {l1 l2 : Tb} (hc : 0 < c) (h1 : VT c m1 k1 l1) (h2 : VT c m2 k2 l2) : Lk c (prodM c l1 l2) (prs l1 l2) := fun x => by
  rw [tot_num (vt_prodM hc h1 h2).nd, num_prodM hc h1 h2, Int.emod_emod_of_dvd _ (Int.dvd_refl c)]
/-- a Bag of a table -/
def Bg (K : PySem.W.Frag) (H : Hp) (b : Addr) (c : Int) (m k : Nat) (l : Tb) : Prop := BagAt K H b c (canon l) ∧ VT c m k l
theorem Bg.same {K : PySem.W.Frag} {H H' : Hp} {b : Addr} {c : Int} {m k : Nat} {l : Tb} (h : Bg K H b c m k l) (s : Same H H') : Bg K H' b c m k l := ⟨h.1.same s, h.2⟩
theorem Bg.mono {K : PySem.W.Frag} {H : Hp} {b : Addr} {c : Int} {m k m' k' : Nat} {l : Tb} (h : Bg K H b c m k l) (h1 : m ≤ m') (h2 : k ≤ k') : Bg K H b c m' k' l := ⟨h.1, h.2.mono h1 h2⟩
theorem putF_flds (c : Int) (t t' : Addr) : putF "words" (.ref t') (flds c t) = flds c t' := by
  rw [flds_eq, flds_eq]
  show (if ("clock" : Str) = "words" then (("words" : Str), V.ref t') :: [("words", V.ref t)] else (("clock" : Str), V.int c) :: putF "words" (.ref t') [("words", V.ref t)]) = _
  rw [if_neg kwc]
  show (("clock" : Str), V.int c) :: (if ("words" : Str) = "words" then [(("words" : Str), V.ref t')] else _) = _
  rw [if_pos rfl]
section
variable {P : Program} {w : World} {K : PySem.W.Frag} {mg : Str → Option Value} {base : Heap}
def spTable (K : PySem.W.Frag) : Sp := fun vs H Q _ => ∃ (a : Addr) (c : Int) (L : Tb), vs = [.ref a] ∧ BagAt K H a c L ∧ Nd L ∧ ∀ D, H D = none → Q (.ref D) (upd H D (.dK (kv L)))
theorem pairs_kv {K : PySem.W.Frag} {H : Hp} {ps : List Addr} {L : Tb} (h : Paired (fun p (q : Str × Int) => H p = some (.tup [.str q.1, .int q.2])) ps L) : Paired (fun p (x : Key × V) => SqT K H p [kV x.1, x.2]) ps (kv L) := by
  induction h with
  | nil => exact .nil
  | cons e _ ih => exact .cons (.inl (.inl e)) ih
abbrev nTable : List Str := ["bag"]
theorem sc_table_of : FnScope nTable nTable (defScope s_table_of) := ⟨rfl, rfl, rfl, by decide +kernel, rfl, by decide +kernel, by decide +kernel⟩
theorem ok_table_of (T : Top K mg) : Ok P w K mg base 1 "table_of" nTable (spTable K) := by
  obtain ⟨fd, F⟩ := fn_table_of T
  refine ⟨⟨fd, ?_, F.bindsN fun _ _ _ _ _ _ us hl => match us, hl with | [_], _ => rfl⟩, g_table_of T, F.kp⟩
  refine F.ok sc_table_of (fun vs H Q E h => ?_) (fun cdv A outer s H vs Q E hr h => ?_)
  · obtain ⟨a, c, L, rfl, _⟩ := h
    rfl
  · obtain ⟨a, c, L, rfl, ⟨dx, t, ea, ps, o, hps, hpt, hpr⟩, hnd, q⟩ := h
    refine ⟨_, PSs.nox (pss_one (ps_ret (pe_callTy (call_dictPT rfl) (by rfl) (f_dict T) (by decide +kernel) (pa_cons (pe_fld (pv 0) rfl) pa_nil)))), ?_⟩
    refine ⟨_, rfl, a, _, dx, _, _, rfl, ea, cls_Bag T, na_Bag_words T, flds_words _ _, ?_⟩
    refine ⟨t, o, ps, kv L, rfl, hps, hpt, pairs_kv hpr, fun D nD => ?_⟩
    rw [merge_kv hnd]
    exact q D nD
def spBagOf (K : PySem.W.Frag) : Sp := fun vs H Q _ => ∃ (c : Int) (d : Addr) (l : Tb), vs = [.int c, .ref d] ∧ isCk c ∧ H d = some (.dK (kv l)) ∧ Nd l ∧ (∀ p ∈ l, p.1.length ≤ 1000000) ∧ l.length ≤ 1000000 ∧
  ∀ H' b, Same H H' → H b = none → BagAt K H' b c (canon (tidyM c l)) → Q (.ref b) H'
abbrev nBagOf : List Str := ["clock", "table", "bag"]
theorem sc_bag_of : FnScope nBagOf ["clock", "table"] (defScope s_bag_of) := ⟨rfl, rfl, rfl, by decide +kernel, rfl, by decide +kernel, by decide +kernel⟩
theorem made_dict {H : Hp} {d x dx : Addr} {o u v : HO} (hd : H d = some o) (hx : H x = none) (hdx : H dx = none) : (upd (upd H dx u) x v) d = some o := by
  rw [upd_ne (ne_of_none hd hx), upd_ne (ne_of_none hd hdx)]
  exact hd
theorem made_same {H H' : Hp} {x dx : Addr} {u v : HO} (k : But x (upd (upd H dx u) x v) H') (hx : H x = none) (hdx : H dx = none) : Same H H' := fun b o e => by
  refine k b o ?_ (ne_of_none e hx)
  rw [upd_ne (ne_of_none e hx), upd_ne (ne_of_none e hdx)]
  exact e
theorem ok_bag_of (T : Top K mg) : Ok P w K mg base 7 "bag_of" ["clock", "table"] (spBagOf K) := by
  obtain ⟨fd, F⟩ := fn_bag_of T
  refine ⟨⟨fd, ?_, F.bindsN fun _ _ _ _ _ _ us hl => match us, hl with | [_, _], _ => rfl⟩, g_bag_of T, F.kp⟩
  refine F.ok sc_bag_of (fun vs H Q E h => ?_) (fun cdv A outer s H vs Q E hr h => ?_)
  · obtain ⟨c, d, l, rfl, _⟩ := h
    rfl
  · obtain ⟨c, d, l, rfl, hc, hd, hnd, hwl, hll, q⟩ := h
    have nd := sc_bag_of.nd
    have hu := hu_of hr
    have hr1 : Room 1 _ := hr.mono (by decide)
    have hr2 : Room 2 _ := hr.mono (by decide)
    obtain ⟨hc2, hc7⟩ := ck_range hc
    refine ⟨_, PSs.nox (pss_cons (ps_set (i := 2) nd rfl (Or.inl rfl) (pbag T hr (pa_cons (pv 0) (pa_cons pe_dnewK pa_nil))))
      (pss_cons (ps_fld (pv 2) (pc (ok_pairs_of T) hr2 (pa_cons (pc (ok_tidied T) hr1 (pa_cons (pv 1) (pa_cons (pv 0) pa_nil))) pa_nil)) rfl)
      (pss_one (ps_ret (pv 2))))), ?_⟩
    refine ⟨_, rfl, fun D hD b dx hb hdx ne => ?_⟩
    refine ⟨b, D, dx, c, [], rfl, upd_same, hc, made_dict upd_same hb hdx, (vt_nil c 12).mono (Nat.le_refl _) (by decide), fun H1 k1 hb1 => ⟨rfl, ?_⟩⟩
    have s1 : Same H H1 := (same_upd hD).trans (made_same k1 hb hdx)
    have hb0 : H b = none := (same_upd hD).free hb
    refine ⟨_, rfl, _, rfl, d, c, l, rfl, by omega, s1 _ _ hd, hnd, hll, fun H2 D2 s2 nD2 eD2 => ?_⟩
    refine ⟨D2, tidyM c l, rfl, eD2, tidy_nd hnd, fun p hp => ?_, Nat.le_trans tidy_len hll, fun H3 t s3 nt wt => ?_⟩
    · obtain ⟨p', h1, rfl, _⟩ := tidy_keys hp
      exact hwl p' h1
    obtain ⟨dx', t0, eb, w0⟩ := (hb1.same s2).same s3
    refine ⟨_, rfl, b, _, dx', _, rfl, eb, cls_Bag T, na_Bag_words T, by rw [flds_eq]; show 2 < 1000; decide, ?_⟩
    refine ⟨_, rfl, q _ b (fun y o e => ?_) hb0 ⟨dx', t, ?_, ?_⟩⟩
    · rw [upd_ne (ne_of_none e hb0)]
      exact s3 _ _ (s2 _ _ (s1 _ _ e))
    · rw [upd_same, putF_flds]
      rfl
    · refine wt.but (a := b) but_upd (fun e => ?_) fun xs z => ?_
      · obtain ⟨ps, o, h1, _⟩ := wt
        rw [e, eb] at h1
        cases h1
      · rw [eb] at z
        cases z
/-! ### unlike clocks -/
def spClocks (K : PySem.W.Frag) : Sp := fun vs H Q E => ∃ (a b : Addr) (c c' : Int) (L M : Tb), vs = [.ref a, .ref b] ∧ BagAt K H a c L ∧ BagAt K H b c' M ∧ (c = c' → Q .non H) ∧ (c ≠ c' → E (.ref (He.ga K "UnlikeClocks")) none H)
abbrev nClocks : List Str := ["one", "other"]
theorem sc_check_clocks : FnScope nClocks nClocks (defScope s_check_clocks) := ⟨rfl, rfl, rfl, by decide +kernel, rfl, by decide +kernel, by decide +kernel⟩
theorem ok_check_clocks (T : Top K mg) : OkX P w K mg base 1 "check_clocks" nClocks (spClocks K) := by
  obtain ⟨fd, F⟩ := fn_check_clocks T
  obtain ⟨x1, x2, x3, x4⟩ := e_UnlikeClocks T
  refine ⟨⟨fd, ?_, F.bindsN fun _ _ _ _ _ _ us hl => match us, hl with | [_, _], _ => rfl⟩, g_check_clocks T, F.kp⟩
  refine F.ok sc_check_clocks (fun vs H Q E h => ?_) (fun cdv A outer s H vs Q E hr h => ?_)
  · obtain ⟨a, b, c, c', L, M, rfl, _⟩ := h
    rfl
  · obtain ⟨a, b, c, c', L, M, rfl, ⟨dx, t, ea, _⟩, ⟨dy, t', eb, _⟩, q1, q2⟩ := h
    refine ⟨_, pss_one (ps_if (pt_cmpR op_ne (pe_fld (pv 0) rfl) (pe_fld (pv 1) rfl) (nomark _)) (pss_one (ps_raise rfl (takes_of rfl rfl rfl rfl) (pmk_own0 PySem.F.excBase_ValueError x1 (g_UnlikeClocks T) x2 (raises_own x3 x4) rfl))) pss_nil), ?_⟩
    refine ⟨_, rfl, a, _, dx, _, _, rfl, ea, cls_Bag T, na_Bag_clock T, flds_clock _ _, _, rfl, b, _, dy, _, _, rfl, eb, cls_Bag T, na_Bag_clock T, flds_clock _ _, rfl, _, rfl, ?_⟩
    refine ite2 (fun hne => ?_) (fun hne => ?_)
    · refine q2 fun z => ?_
      rw [z] at hne
      simp at hne
    · refine q1 ?_
      simpa using hne
end
end Fp

set_option Elab.async false
set_option linter.all false
set_option maxRecDepth 100000
set_option maxHeartbeats 4000000
namespace Fp
open PySem PySem.Spec PyProof.Rows L2
abbrev invs : WTab := [(2, [0, 1]), (3, [0, 1, 2]), (5, [0, 1, 3, 2, 4]), (7, [0, 1, 4, 5, 2, 3, 6])]
theorem inv_get {c : Int} (hc : isCk c) : ∃ ns : List Int, (c, ns) ∈ invs ∧ ∀ r : Nat, (r : Int) < c → ∃ m : Int, ns[r]? = some m ∧ 0 ≤ m ∧ m < c ∧ (r ≠ 0 → ((r : Int) * m) % c = 1 ∧ 1 ≤ m) := by
  rcases hc with rfl | rfl | rfl | rfl
  · refine ⟨[0, 1], by decide, fun r hr => ?_⟩
    have hr : r < 2 := by omega
    match r, hr with
    | 0, _ => exact ⟨0, rfl, by decide, by decide, fun h => absurd rfl h⟩
    | 1, _ => exact ⟨1, rfl, by decide, by decide, fun _ => by decide⟩
  · refine ⟨[0, 1, 2], by decide, fun r hr => ?_⟩
    have hr : r < 3 := by omega
    match r, hr with
    | 0, _ => exact ⟨0, rfl, by decide, by decide, fun h => absurd rfl h⟩
    | 1, _ => exact ⟨1, rfl, by decide, by decide, fun _ => by decide⟩
    | 2, _ => exact ⟨2, rfl, by decide, by decide, fun _ => by decide⟩
  · refine ⟨[0, 1, 3, 2, 4], by decide, fun r hr => ?_⟩
    have hr : r < 5 := by omega
    match r, hr with
    | 0, _ => exact ⟨0, rfl, by decide, by decide, fun h => absurd rfl h⟩
    | 1, _ => exact ⟨1, rfl, by decide, by decide, fun _ => by decide⟩
    | 2, _ => exact ⟨3, rfl, by decide, by decide, fun _ => by decide⟩
    | 3, _ => exact ⟨2, rfl, by decide, by decide, fun _ => by decide⟩
    | 4, _ => exact ⟨4, rfl, by decide, by decide, fun _ => by decide⟩
  · refine ⟨[0, 1, 4, 5, 2, 3, 6], by decide, fun r hr => ?_⟩
    have hr : r < 7 := by omega
    match r, hr with
    | 0, _ => exact ⟨0, rfl, by decide, by decide, fun h => absurd rfl h⟩
    | 1, _ => exact ⟨1, rfl, by decide, by decide, fun _ => by decide⟩
    | 2, _ => exact ⟨4, rfl, by decide, by decide, fun _ => by decide⟩
    | 3, _ => exact ⟨5, rfl, by decide, by decide, fun _ => by decide⟩
    | 4, _ => exact ⟨2, rfl, by decide, by decide, fun _ => by decide⟩
    | 5, _ => exact ⟨3, rfl, by decide, by decide, fun _ => by decide⟩
    | 6, _ => exact ⟨6, rfl, by decide, by decide, fun _ => by decide⟩
section
variable {P : Program} {w : World} {K : PySem.W.Frag} {mg : Str → Option Value} {base : Heap}
/-- the number that gives 1 -/
def spInv : Sp := fun vs H Q _ => ∃ (n c : Int), vs = [.int n, .int c] ∧ isCk c ∧ ∀ m : Int, 0 ≤ m → m < c → (n % c ≠ 0 → (n * m) % c = 1 ∧ 1 ≤ m) → Q (.int m) H
abbrev nInv : List Str := ["number", "clock"]
theorem sc_inverse : FnScope nInv nInv (defScope s_inverse) := ⟨rfl, rfl, rfl, by decide +kernel, rfl, by decide +kernel, by decide +kernel⟩
theorem ok_inverse (T : Top K mg) : Ok P w K mg base 1 "inverse" nInv spInv := by
  obtain ⟨fd, F⟩ := fn_inverse T
  refine ⟨⟨fd, ?_, F.bindsN fun _ _ _ _ _ _ us hl => match us, hl with | [_, _], _ => rfl⟩, g_inverse T, F.kp⟩
  refine F.ok sc_inverse (fun vs H Q E h => ?_) (fun cdv A outer s H vs Q E hr h => ?_)
  · obtain ⟨n, c, rfl, _⟩ := h
    rfl
  · obtain ⟨n, c, rfl, hc, q⟩ := h
    obtain ⟨hc2, hc7⟩ := ck_range hc
    refine ⟨_, PSs.nox (pss_one (ps_ret (pe_ix ix_tup (pe_wd (t := invs) (by decide) (pe_glob (v := .ref (He.ga K "INVERSES")) rfl (g_INVERSES T) rfl) (pv 1) (fun _ _ => rfl)) (pe_op op_mod (pv 0) (pv 1)) (fun _ _ => rfl)))), ?_⟩
    obtain ⟨ns, h1, h2⟩ := inv_get hc
    have m0 := Int.emod_nonneg n (show c ≠ 0 by omega)
    have m1 := Int.emod_lt_of_pos n (show 0 < c by omega)
    obtain ⟨r, er⟩ : ∃ r : Nat, n % c = r := ⟨(n % c).toNat, (Int.toNat_of_nonneg m0).symm⟩
    obtain ⟨m, e1, e2, e3, e4⟩ := h2 r (by omega)
    refine ⟨_, rfl, He.ga K "INVERSES", c, ns, rfl, w_INVERSES T, rfl, h1, fun b hb => ?_⟩
    refine ⟨_, rfl, _, rfl, _, _, rfl, rfl, (by show 0 < c; omega), b, ns.map V.int, r, .int m, rfl, ?_, tupO_sq hb _, atI_nat (by rw [List.getElem?_map, e1]; rfl), q m e2 e3 fun hz => ?_⟩
    · show V.int (n % c) = _
      rw [er]
    · have := e4 (by omega)
      rw [Int.mul_emod, er, Int.emod_eq_of_lt e2 e3]
      exact this
def spScaled : Sp := fun vs H Q _ => ∃ (d : Addr) (f c : Int) (l : Tb), vs = [.ref d, .int f, .int c] ∧ 0 < c ∧ c ≤ 7 ∧ H d = some (.dK (kv l)) ∧ Nd l ∧ (∀ p ∈ l, 1 ≤ p.2 ∧ p.2 < c) ∧ l.length ≤ 1000000 ∧ ∀ H' D, Same H H' → H D = none → H' D = some (.dK (kv (tidyM c (scl f l)))) → Q (.ref D) H'
abbrev nScaled : List Str := ["table", "factor", "clock", "word", "number"]
theorem sc_scaled : FnScope nScaled ["table", "factor", "clock"] (defScope s_scaled) := ⟨rfl, rfl, rfl, by decide +kernel, rfl, by decide +kernel, by decide +kernel⟩
theorem scl_nd {f : Int} {l : Tb} (h : Nd l) : Nd (scl f l) := by
  unfold Nd scl
  rw [List.map_map]
  exact h
theorem scl_take {f : Int} {l : Tb} {i : Nat} {p : Str × Int} (e : l[i]? = some p) : scl f (l.take (i + 1)) = scl f (l.take i) ++ [(p.1, f * p.2)] := by
  rw [List.take_add_one, e]
  unfold scl
  rw [List.map_append]
  rfl
theorem has_take {l : Tb} (h : Nd l) {i : Nat} {p : Str × Int} (e : l[i]? = some p) : has (l.take i) p.1 = false := by
  cases z : has (l.take i) p.1 with
  | false => rfl
  | true =>
    exfalso
    have h1 : Nd (l.take (i + 1)) := by
      unfold Nd
      rw [List.map_take]
      exact (List.take_sublist _ _).nodup h
    unfold Nd at h1
    rw [List.take_add_one, e, List.map_append] at h1
    exact (List.nodup_append.mp h1).2.2 p.1 (has_iff.mp z) p.1 (by simp) rfl
theorem ok_scaled (T : Top K mg) : Ok P w K mg base 2 "scaled" ["table", "factor", "clock"] spScaled := by
  obtain ⟨fd, F⟩ := fn_scaled T
  refine ⟨⟨fd, ?_, F.bindsN fun _ _ _ _ _ _ us hl => match us, hl with | [_, _, _], _ => rfl⟩, g_scaled T, F.kp⟩
  refine F.ok sc_scaled (fun vs H Q E h => ?_) (fun cdv A outer s H vs Q E hr h => ?_)
  · obtain ⟨d, f, c, l, rfl, _⟩ := h
    rfl
  · obtain ⟨d, f, c, l, rfl, hc, hc7, hd, hnd, hnu, hll, q⟩ := h
    have nd := sc_scaled.nd
    have hu := hu_of hr
    have hs : sizeLine = 16777216 := sizeLine_eq
    refine ⟨_, PSs.nox (pss_one (ps_ret (pc (ok_tidied T) hr (pa_cons (pe_lock (pe_dc (own := [("word", 3), ("number", 4)]) (g := gPair K 3 4) (tt := tYes) (tk := tVar 3) (tv := tOp (rI CMul fun i j => .int (i * j)) (tVar 4) (tVar 1)) rfl nd (pi_items (pv 0)) (blkOk_by (N := nScaled) (sc := defScope s_scaled) (by decide +kernel))
      (fun _ _ _ _ _ => pg_tup rfl (pgs_cons (pg_name (i := 3) nd rfl (Or.inl rfl)) (pgs_cons (pg_name (i := 4) nd rfl (Or.inl rfl)) pgs_nil)))
      (fun _ _ _ _ _ => pts_nil) (fun _ _ _ _ _ => pv 3) (fun _ _ _ _ _ => pe_op op_mul (pv 4) (pv 1)))) (pa_cons (pv 2) pa_nil))))), ?_⟩
    refine ⟨d, _, hd, trivial, fun od => ?_⟩
    refine ⟨_, rfl, d, od, kv l, rfl, upd_same, fun D hD => ?_⟩
    have nD : D ≠ d := fun e => by
      rw [e, upd_same] at hD
      cases hD
    have hD0 : H D = none := by
      rw [upd_ne nD] at hD
      exact hD
    refine dc_it walk_items (fun i H' => H' D = some (.dK (kv (scl f (l.take i)))) ∧ But d H H' ∧ H' d = some (.frz od (.dK (kv l)))) ⟨upd_same, ?_, ?_⟩ (fun i H' _ hP => hP.2.2) ?_ ?_
    · intro b o e n
      rw [upd_ne (ne_of_none e hD0), upd_ne n]
      exact e
    · rw [upd_ne nD.symm]
      exact upd_same
    · rintro i x H1 H2 hi ⟨p1, p2, p3⟩ ⟨t, k, v, rfl, ht, rfl, e1, e2⟩
      obtain ⟨p, ep, rfl, rfl⟩ := kv_item e1 e2
      have hn := hnu p (List.mem_of_getElem? ep)
      have nt : D ≠ t := ne_of_none p1 ht
      have ndt : d ≠ t := ne_of_none p3 ht
      rw [kv_len] at hi
      refine ⟨t, _, rfl, .inl (.inl upd_same), rfl, ?_⟩
      refine ⟨_, _, rfl, _, _, rfl, rfl, rfl, ?_⟩
      have hz : has (scl f (l.take i)) p.1 = false := by
        rw [← Bool.not_eq_true, has_iff]
        intro hm
        have : p.1 ∈ (l.take i).map (·.1) := by
          unfold scl at hm
          rw [List.map_map] at hm
          exact hm
        rw [← has_iff, has_take hnd ep] at this
        cases this
      refine ⟨_, rfl, _, rfl, _, rfl, _, _, rfl, rfl, .inl ⟨by omega, by omega⟩, _, Sum.inr p.1, rfl, by rw [upd_ne nt]; exact p1, by rw [kv_len, scl_len, List.length_take]; omega, ?_, ?_, ?_⟩
      · rw [upd_same, putK_kv, scl_take ep, Int.mul_comm p.2 f]
        unfold putT
        rw [hz, if_neg Bool.false_ne_true]
      · intro b o e n
        rw [upd_ne (ne_of_none e hD0), upd_ne (ne_of_none (p2 b o e n) ht)]
        exact p2 b o e n
      · rw [upd_ne nD.symm, upd_ne ndt]
        exact p3
    · rintro H' ⟨p1, p2, p3⟩
      rw [kv_len, List.take_length] at p1
      refine ⟨p3, ?_⟩
      have base' : Same H (upd H' d (.dK (kv l))) := fun b o e => by
        by_cases n : b = d
        · rw [n, upd_same, ← hd, ← n, e]
        · rw [upd_ne n]
          exact p2 b o e n
      exact ⟨_, rfl, D, c, _, rfl, hc, by rw [upd_ne nD]; exact p1, scl_nd hnd, by rw [scl_len]; exact hll, fun H2 D2 s2 n2 e2 => q H2 D2 (base'.trans s2) (base'.free n2) e2⟩
end
end Fp

set_option Elab.async false
set_option linter.all false
set_option maxRecDepth 100000
set_option maxHeartbeats 4000000
namespace Fp
open PySem PySem.Spec PyProof.Rows L2
section
variable {P : Program} {w : World} {K : PySem.W.Frag} {mg : Str → Option Value} {base : Heap}
def spWords : Sp := fun vs H Q _ => ∃ (d : Addr) (l : Tb), vs = [.ref d] ∧ H d = some (.dK (kv l)) ∧ Nd l ∧ (∀ p ∈ l, p.1.length ≤ 1000000) ∧ l.length ≤ 1000000 ∧ ∀ H' t, Same H H' → H t = none → WordsAt H' t (canon l) → Q (.ref t) H'
abbrev nWords : List Str := ["_law_bag", "_law_word_here"]
/-- told just so -/
def spIs (K : PySem.W.Frag) : Sp := fun vs H Q _ => ∃ (b d : Addr) (c : Int) (l : Tb), vs = [.ref b, .int c, .ref d] ∧ BagAt K H b c (canon l) ∧ H d = some (.dK (kv l)) ∧ Nd l ∧ (∀ p ∈ l, p.1.length ≤ 1000000) ∧ l.length ≤ 1000000 ∧ ∀ H', Same H H' → Q (.bl true) H'
abbrev nIs : List Str := ["_law_told", "_law_clock_here", "_law_bag"]
end
end Fp

set_option Elab.async false
set_option linter.all false
set_option maxRecDepth 100000
set_option maxHeartbeats 4000000
namespace Fp
open PySem PySem.Spec PyProof.Rows L2
/-- the pairs at a tuple, told by place -/
theorem WordsAt.get {H : Hp} {t : Addr} {L : Tb} (h : WordsAt H t L) : ∃ (ps : List Addr) (o : Obj), H t = some (.frz o (.tup (ps.map V.ref))) ∧ ps.length = L.length ∧ ∀ (i : Nat) (q : Str × Int), L[i]? = some q → ∃ p, ps[i]? = some p ∧ H p = some (.tup [.str q.1, .int q.2]) := by
  obtain ⟨ps, o, h1, _, h3⟩ := h
  refine ⟨ps, o, h1, ?_, ?_⟩
  · clear h1
    induction h3 with
    | nil => rfl
    | cons _ _ ih => rw [List.length_cons, List.length_cons, ih]
  · clear h1
    induction h3 with
    | nil => intro i q e; simp at e
    | @cons p q0 ps L e _ ih =>
      intro i q eq
      cases i with
      | zero =>
        have : q0 = q := Option.some.inj eq
        exact ⟨p, rfl, this ▸ e⟩
      | succ i => exact ih i q eq
section
variable {P : Program} {w : World} {K : PySem.W.Frag} {mg : Str → Option Value} {base : Heap}
def spSomething (K : PySem.W.Frag) : Sp := fun vs H Q E => ∃ (a : Addr) (c : Int) (L : Tb), vs = [.ref a] ∧ BagAt K H a c L ∧ (L ≠ [] → Q .non H) ∧ (L = [] → E (.ref (He.ga K "IsNothing")) none H)
theorem sc_check_something : FnScope ["bag"] ["bag"] (defScope s_check_something) := ⟨rfl, rfl, rfl, by decide +kernel, rfl, by decide +kernel, by decide +kernel⟩
theorem ok_check_something (T : Top K mg) : OkX P w K mg base 1 "check_something" ["bag"] (spSomething K) := by
  obtain ⟨fd, F⟩ := fn_check_something T
  obtain ⟨x1, x2, x3, x4⟩ := e_IsNothing T
  refine ⟨⟨fd, ?_, F.bindsN fun _ _ _ _ _ _ us hl => match us, hl with | [_], _ => rfl⟩, g_check_something T, F.kp⟩
  refine F.ok sc_check_something (fun vs H Q E h => ?_) (fun cdv A outer s H vs Q E hr h => ?_)
  · obtain ⟨a, c, L, rfl, _⟩ := h
    rfl
  · obtain ⟨a, c, L, rfl, ⟨dx, t, ea, wt⟩, q1, q2⟩ := h
    obtain ⟨ps, o, e1, e2, e3⟩ := WordsAt.get wt
    refine ⟨_, pss_one (ps_if (pt_not (pt_truth (pe_fld (pv 0) rfl) (fun _ => rfl))) (pss_one (ps_raise rfl (takes_of rfl rfl rfl rfl) (pmk_own0 PySem.F.excBase_ValueError x1 (g_IsNothing T) x2 (raises_own x3 x4) rfl))) pss_nil), ?_⟩
    refine ⟨_, rfl, a, _, dx, _, _, rfl, ea, cls_Bag T, na_Bag_words T, flds_words _ _, ?_⟩
    refine ⟨_, .inr (.inl ⟨_, .inl (.inr ⟨o, e1⟩), rfl⟩), ?_⟩
    cases L with
    | nil =>
      have : ps = [] := List.eq_nil_of_length_eq_zero e2
      subst this
      exact ite2 (fun _ => q2 rfl) (fun z => absurd rfl z)
    | cons p r =>
      cases ps with
      | nil => simp at e2
      | cons p1 ps => exact ite2 (fun z => absurd z (by simp)) (fun _ => q1 (by simp))
end
end Fp

set_option Elab.async false
set_option linter.all false
set_option maxRecDepth 100000
set_option maxHeartbeats 2000000
/-! heaps in arrays: what one exchange keeps -/
namespace Fp
section
variable {α : Type} {le : α → α → Prop}
/-- two places exchanged -/
def swapA (X : Array α) (i j : Nat) (x y : α) : Array α := (X.setIfInBounds i y).setIfInBounds j x
theorem swapA_size (X : Array α) (i j : Nat) (x y : α) : (swapA X i j x y).size = X.size := by
  unfold swapA
  rw [Array.size_setIfInBounds, Array.size_setIfInBounds]
theorem swapA_get {X : Array α} {i j : Nat} {x y : α} (hi : i < X.size) (hj : j < X.size) (k : Nat) : (swapA X i j x y)[k]? = if k = j then some x else if k = i then some y else X[k]? := by
  unfold swapA
  rw [Array.getElem?_setIfInBounds]
  by_cases h1 : j = k
  · subst h1
    rw [if_pos rfl, if_pos rfl, if_pos (by rw [Array.size_setIfInBounds]; exact hj)]
  · rw [if_neg h1, if_neg (fun z => h1 z.symm), Array.getElem?_setIfInBounds]
    by_cases h2 : i = k
    · subst h2
      rw [if_pos rfl, if_pos hi, if_pos rfl]
    · rw [if_neg h2, if_neg (fun z => h2 z.symm)]
theorem swapA_perm {X : Array α} {i j : Nat} {x y : α} (hx : X[i]? = some x) (hy : X[j]? = some y) : (swapA X i j x y).toList.Perm X.toList := by
  obtain ⟨hi, ex⟩ := Array.getElem?_eq_some_iff.mp hx
  obtain ⟨hj, ey⟩ := Array.getElem?_eq_some_iff.mp hy
  have e : swapA X i j x y = X.swap i j hi hj := by
    apply Array.ext_getElem?
    intro k
    rw [swapA_get hi hj, Array.getElem?_swap, ex, ey]
    by_cases h1 : k = j
    · subst h1
      simp
    · by_cases h2 : k = i
      · subst h2
        simp [h1, Ne.symm h1]
      · simp [h1, h2, Ne.symm h1, Ne.symm h2]
  rw [e]
  exact Array.perm_iff_toList_perm.mp (Array.swap_perm hi hj)
/-- the edge above a place is in order -/
def Ed (le : α → α → Prop) (X : Array α) (i : Nat) : Prop := ∀ v p, X[i]? = some v → X[(i - 1) / 2]? = some p → le p v
/-- a place below a top -/
inductive Sub (top : Nat) : Nat → Prop
  | top : Sub top top
  | down {p c : Nat} (h : Sub top p) (h1 : 1 ≤ c) (h2 : (c - 1) / 2 = p) : Sub top c
theorem Sub.le_ {top pos : Nat} (h : Sub top pos) : top ≤ pos := by
  induction h with
  | top => exact Nat.le_refl _
  | down _ h1 h2 ih => omega
theorem Sub.up {top pos : Nat} (h : Sub top pos) (hp : top < pos) : Sub top ((pos - 1) / 2) := by
  cases h with
  | top => omega
  | down h h1 h2 => rw [h2]; exact h
theorem Sub.tp {top pos : Nat} (h : Sub top pos) : top ≤ pos ∧ (top = pos ∨ top ≤ (pos - 1) / 2) := by
  have := h.le_
  by_cases e : top = pos
  · exact ⟨this, .inl e⟩
  · exact ⟨this, .inr (h.up (by omega)).le_⟩
/-- all edges but those at one place, from a top on; what stands below the place is behind what stands above it -/
structure Dn (le : α → α → Prop) (X : Array α) (top pos : Nat) : Prop where
  ed : ∀ i, 1 ≤ i → top ≤ (i - 1) / 2 → (i - 1) / 2 ≠ pos → i ≠ pos → Ed le X i
  br : ∀ c, 1 ≤ c → (c - 1) / 2 = pos → top < pos → ∀ v p, X[c]? = some v → X[(pos - 1) / 2]? = some p → le p v
  sb : Sub top pos
/-- all edges but the one above a place -/
structure Up (le : α → α → Prop) (X : Array α) (top pos : Nat) : Prop where
  ed : ∀ i, 1 ≤ i → top ≤ (i - 1) / 2 → i ≠ pos → Ed le X i
  br : ∀ c, 1 ≤ c → (c - 1) / 2 = pos → top < pos → ∀ v p, X[c]? = some v → X[(pos - 1) / 2]? = some p → le p v
  sb : Sub top pos
def Hpd (le : α → α → Prop) (X : Array α) (top : Nat) : Prop := ∀ i, 1 ≤ i → top ≤ (i - 1) / 2 → Ed le X i
theorem Dn.leaf {X : Array α} {top pos : Nat} (h : Dn le X top pos) (hp : X.size / 2 ≤ pos) : Up le X top pos := by
  refine ⟨fun i h1 h2 h3 => ?_, fun c h1 h2 h3 v p e1 e2 => ?_, h.sb⟩
  · by_cases hq : (i - 1) / 2 = pos
    · intro v p e1 e2
      have := (Array.getElem?_eq_some_iff.mp e1).1
      omega
    · exact h.ed i h1 h2 hq h3
  · have := (Array.getElem?_eq_some_iff.mp e1).1
    omega
theorem Up.stop {X : Array α} {top pos : Nat} (h : Up le X top pos) (hp : pos ≤ top ∨ Ed le X pos) : Hpd le X top := fun i h1 h2 => by
  by_cases e : i = pos
  · subst e
    rcases hp with hp | hp
    · have := h.sb.tp
      omega
    · exact hp
  · exact h.ed i h1 h2 e
/-- one place down: the lesser of two, or the only one, comes up -/
theorem Dn.step {X : Array α} {top pos c : Nat} {v x : α} (h : Dn le X top pos) (hc : (c - 1) / 2 = pos) (c1 : 1 ≤ c) (hv : X[pos]? = some v) (hx : X[c]? = some x) (hmin : ∀ d y, 1 ≤ d → (d - 1) / 2 = pos → d ≠ c → X[d]? = some y → le x y) :
    Dn le (swapA X c pos x v) top c := by
  obtain ⟨hcs, _⟩ := Array.getElem?_eq_some_iff.mp hx
  obtain ⟨hps, _⟩ := Array.getElem?_eq_some_iff.mp hv
  have htp := h.sb.tp
  have get := fun k => swapA_get (x := x) (y := v) hcs hps k
  have hne : c ≠ pos := by omega
  refine ⟨fun i h1 h2 h3 h4 u p e1 e2 => ?_, fun d h1 h2 h3 u p e1 e2 => ?_, .down h.sb c1 hc⟩
  · rw [get] at e1 e2
    by_cases hi : i = pos
    · subst hi
      rw [if_pos rfl] at e1
      have hpp : (i - 1) / 2 ≠ i := by omega
      rw [if_neg hpp, if_neg h3] at e2
      cases e1
      exact h.br c c1 hc (by omega) x p hx e2
    · rw [if_neg hi, if_neg h4] at e1
      by_cases hq : (i - 1) / 2 = pos
      · rw [if_pos hq] at e2
        cases e2
        exact hmin i u h1 hq h4 e1
      · rw [if_neg hq, if_neg h3] at e2
        exact h.ed i h1 h2 hq hi u p e1 e2
  · rw [get] at e1 e2
    have hd1 : d ≠ pos := by omega
    have hd2 : d ≠ c := by omega
    rw [if_neg hd1, if_neg hd2] at e1
    rw [hc, if_pos rfl] at e2
    cases e2
    exact h.ed d h1 (by omega) (by omega) hd1 u x e1 (by rw [h2]; exact hx)
/-- one place up -/
theorem Up.step (tot : ∀ a b, le a b ∨ le b a) (tr : ∀ a b c, le a b → le b c → le a c) {X : Array α} {top pos : Nat} {v x : α} (h : Up le X top pos) (ht : top < pos) (hv : X[pos]? = some v) (hx : X[(pos - 1) / 2]? = some x) (hlt : ¬ le x v) :
    Up le (swapA X ((pos - 1) / 2) pos x v) top ((pos - 1) / 2) := by
  obtain ⟨hcs, _⟩ := Array.getElem?_eq_some_iff.mp hx
  obtain ⟨hps, _⟩ := Array.getElem?_eq_some_iff.mp hv
  have htp := h.sb.tp
  have htq := (h.sb.up ht).tp
  have get := fun k => swapA_get (x := x) (y := v) hcs hps k
  have hne : (pos - 1) / 2 ≠ pos := by omega
  have hvx : le v x := (tot v x).resolve_right hlt
  have hE : ∀ i u, 1 ≤ i → (i - 1) / 2 = (pos - 1) / 2 → i ≠ pos → X[i]? = some u → le x u := fun i u h1 h2 h3 e => h.ed i h1 (by omega) h3 u x e (by rw [h2]; exact hx)
  refine ⟨fun i h1 h2 h3 u p e1 e2 => ?_, fun d h1 h2 h3 u p e1 e2 => ?_, h.sb.up ht⟩
  · rw [get] at e1 e2
    by_cases hi : i = pos
    · subst hi
      rw [if_pos rfl] at e1
      rw [if_neg hne, if_pos rfl] at e2
      cases e1
      cases e2
      exact hvx
    · rw [if_neg hi, if_neg h3] at e1
      by_cases hq : (i - 1) / 2 = pos
      · rw [if_pos hq] at e2
        cases e2
        exact h.br i h1 hq ht u x e1 hx
      · rw [if_neg hq] at e2
        by_cases hq2 : (i - 1) / 2 = (pos - 1) / 2
        · rw [if_pos hq2] at e2
          cases e2
          exact tr _ _ _ hvx (hE i u h1 hq2 hi e1)
        · rw [if_neg hq2] at e2
          exact h.ed i h1 h2 hi u p e1 e2
  · rw [get] at e1 e2
    have hpp : ((pos - 1) / 2 - 1) / 2 ≠ pos := by omega
    have hpq : ((pos - 1) / 2 - 1) / 2 ≠ (pos - 1) / 2 := by omega
    rw [if_neg hpp, if_neg hpq] at e2
    have hpx : le p x := h.ed ((pos - 1) / 2) (by omega) (by omega) hne x p hx e2
    by_cases hd : d = pos
    · rw [if_pos hd] at e1
      cases e1
      exact hpx
    · rw [if_neg hd, if_neg (by omega)] at e1
      exact tr _ _ _ hpx (hE d u h1 h2 hd e1)
/-- the first is the least -/
theorem Hpd.least (rf : ∀ a, le a a) (tr : ∀ a b c, le a b → le b c → le a c) {X : Array α} (h : Hpd le X 0) {m : α} (hm : X[0]? = some m) : ∀ (i : Nat) (v : α), X[i]? = some v → le m v := by
  intro i
  induction i using Nat.strongRecOn with
  | _ i ih =>
    intro v e
    by_cases hi : i = 0
    · subst hi
      rw [hm] at e
      cases e
      exact rf m
    · obtain ⟨hs, _⟩ := Array.getElem?_eq_some_iff.mp e
      have hps : (i - 1) / 2 < X.size := by omega
      have ep : X[(i - 1) / 2]? = some X[(i - 1) / 2] := Array.getElem?_eq_getElem hps
      exact tr _ _ _ (ih _ (by omega) _ ep) (h i (by omega) (Nat.zero_le _) v _ e ep)
end
end Fp

set_option Elab.async false
set_option linter.all false
set_option maxRecDepth 100000
set_option maxHeartbeats 2000000
/-! the heap's moves, run: ranks (of words) in a list -/
namespace Fp
open PySem PySem.Spec PyProof.Rows
theorem plain_sift : plainId "_heapq.heapify.sift" = true := by decide +kernel
theorem entry_sift : entryFor table "_heapq.heapify.sift" = some Builtin.«_heapq.heapify.sift» := entryFor_of_fast (by kernel_rfl)
def lob (X : Array Value) (n : Nat) : Obj := { cls := .type "list", dict := none, data := .seq X n, slots := #[] }
/-- a word's rank as an object -/
def RkAt (h : Heap) (v : Value) (x : Str) : Prop := ∃ p o t1 t2 n, v = .ref p ∧ h.get? p = some o ∧ o.cls = .type "tuple" ∧ o.data = .seq #[.int (-(x.length : Int)) t1, .str x t2] n
theorem RkAt.reads {h : Heap} {v : Value} {x : Str} (r : RkAt h v x) : Reads h v (rk x) [] := by
  obtain ⟨p, o, t1, t2, n, rfl, h1, h2, h3⟩ := r
  exact Reads.tuple h1 h2 h3 (ReadsAll.cons (Reads.int _ _) (ReadsAll.cons (Reads.str x t2) ReadsAll.nil))
def StH (a : Addr) (s0 : Shared) (X : Array Value) (s : Shared) : Prop := ∃ h n, s = { s0 with heap := h } ∧ h.get? a = some (lob X n) ∧ ∀ b u, b ≠ a → s0.heap.get? b = some u → h.get? b = some u
def KeyH (a : Addr) (s0 : Shared) (wd : Value → Str) (v : Value) : Prop := RkAt s0.heap v (wd v) ∧ v ≠ .ref a
theorem KeyH.now {a : Addr} {s0 s : Shared} {X : Array Value} {wd : Value → Str} {v : Value} (k : KeyH a s0 wd v) (z : StH a s0 X s) : RkAt s.heap v (wd v) := by
  obtain ⟨⟨p, o, t1, t2, n, rfl, h1, h2, h3⟩, hne⟩ := k
  obtain ⟨h, n', rfl, _, hk⟩ := z
  exact ⟨p, o, t1, t2, n, rfl, hk p o (fun e => hne (by rw [e])) h1, h2, h3⟩
def leV (wd : Value → Str) (v v' : Value) : Prop := leR (wd v) (wd v') = true
theorem at_get {M : Model} {A : Around} {E : Value → Shared → Prop} {s : Shared} {X : Array Value} {i : Nat} {v : Value} {Q : Value → Shared → Prop} (h : X[i]? = some v) (q : Q v s) :
    wpAny M A (match X[i]? with | some v => pure v | none => unsupported "internal:_heapq.index" : Sem Value) Q E s := by
  rw [h]
  exact wpAny_pure q
theorem StH.swap {a : Addr} {s0 s : Shared} {X : Array Value} (z : StH a s0 X s) (f : Array Value → Array Value) : StH a s0 (f X) { s with heap := s.heap.update a (Obj.mapSeq f) } := by
  obtain ⟨h, n, rfl, h1, h2⟩ := z
  have q := PySem.IsL.update h1 f
  exact ⟨_, _, rfl, q, fun b u hb hu => (Heap.get?_update_other h (Obj.mapSeq f) (Ne.symm hb)).trans (h2 b u hb hu)⟩
theorem leR_tl : PySem.W.TotalLe leR := PySem.W.sortLe_total (listOrd itemOrd) false fun b => PySem.W.keyToks (rk b)
theorem leV_tot {wd : Value → Str} (a b : Value) : leV wd a b ∨ leV wd b a := leR_tl.total _ _
theorem leV_tr {wd : Value → Str} (a b c : Value) (h1 : leV wd a b) (h2 : leV wd b c) : leV wd a c := leR_tl.trans _ _ _ h1 h2
section
variable {prog : Program} {w : World} {A : Around} {R : Result → Shared → Prop} {a : Addr} {s0 : Shared} {wd : Value → Str} {res : Value}
abbrev sft (a : Addr) (down : Bool) (pos top : Nat) (res : Value) (after : Int) : Args := ⟨[.ref a, .bool false, .bool down, rawInt pos, rawInt top, res, rawInt after], []⟩
abbrev FPo (prog : Program) (w : World) (A : Around) (R : Result → Shared → Prop) : PySem.Fin → Shared → Prop := fun fin s' => match fin with | .done f => R (.ok f) s' | .again c' => c'.quiet = true ∧ codeAny (model prog w) A c' R s'
abbrev runs (prog : Program) (w : World) (A : Around) (R : Result → Shared → Prop) (a : Addr) (down : Bool) (pos top : Nat) (res : Value) (after : Int) (s : Shared) : Prop :=
  wpAny (model prog w) A.in1 (Builtin.«_heapq.heapify.sift» (sft a down pos top res after)) (FPo prog w A R) (fun e s' => R (.error e) s') s
theorem go_on {down : Bool} {pos top : Nat} {after : Int} {s : Shared} (h : runs prog w A R a down pos top res after s) :
    wpAny (model prog w) A.in1 (pure (.again (.builtin "_heapq.heapify.sift" (sft a down pos top res after))) : Sem PySem.Fin) (FPo prog w A R) (fun e s' => R (.error e) s') s :=
  wpAny_pure ⟨plainId_quiet plain_sift _, codeAny_builtin entry_sift (by
    rw [Around.under_plainId plain_sift _]
    exact h)⟩
/-- upward -/
theorem run_up {top : Nat} (hu : A.in1.units + 2 < cLine) (X0 : Array Value) (hk : ∀ v ∈ X0, KeyH a s0 wd v) (hz : X0.size ≤ sizeLine)
    (hd : ∀ X s, StH a s0 X s → X.toList.Perm X0.toList → Hpd (leV wd) X top → (top = 0 → R (.ok (.ret res)) s) ∧ ∀ t, top = t + 1 → runs prog w A R a true t t res ((t : Int) - 1) s) :
    ∀ (pos : Nat) (X : Array Value) (s : Shared), StH a s0 X s → X.toList.Perm X0.toList → Up (leV wd) X top pos → pos < X.size → runs prog w A R a false pos top res ((top : Int) - 1) s := by
  intro pos
  induction pos using Nat.strongRecOn with
  | _ pos ih =>
    intro X s z hp hup hlt
    obtain ⟨h, n, es, hl, hkp⟩ := id z
    have hl' : s.heap.get? a = some (lob X n) := by rw [es]; exact hl
    unfold runs Builtin.«_heapq.heapify.sift»
    dsimp only [sft, rawInt]
    refine wpAny_bind (wpAny_bind (wpAny_seqItems hl' rfl ?_))
    dsimp only
    refine wpAny_pure ?_
    rw [if_neg Bool.false_ne_true, Int.toNat_natCast, Int.toNat_natCast]
    have fin : ∀ (hH : Hpd (leV wd) X top), wpAny (model prog w) A.in1 (if ((top : Int) - 1) < 0 then ret res else (pure (.again (.builtin "_heapq.heapify.sift" (sft a true ((top : Int) - 1).toNat ((top : Int) - 1).toNat res (((top : Int) - 1) - 1))))) : Sem PySem.Fin) (FPo prog w A R) (fun e s' => R (.error e) s') s := fun hH => by
      obtain ⟨d1, d2⟩ := hd X s z hp hH
      cases top with
      | zero =>
        rw [if_pos (by decide)]
        exact wpAny_pure (d1 rfl)
      | succ t =>
        rw [if_neg (by omega)]
        have e : (((t + 1 : Nat) : Int) - 1).toNat = t := by omega
        have e2 : (((t + 1 : Nat) : Int) - 1) = (t : Int) := by omega
        rw [e2, Int.toNat_natCast]
        exact go_on (d2 t rfl)
    by_cases ht : top < pos
    · rw [if_pos ht]
      have ev : X[pos]? = some X[pos] := Array.getElem?_eq_getElem hlt
      have hpar : (pos - 1) / 2 < X.size := by omega
      have ex : X[(pos - 1) / 2]? = some X[(pos - 1) / 2] := Array.getElem?_eq_getElem hpar
      have kv : KeyH a s0 wd X[pos] := hk _ (Array.mem_toList_iff.mp (hp.mem_iff.mp (Array.mem_toList_iff.mpr (Array.getElem_mem hlt))))
      have kx : KeyH a s0 wd X[(pos - 1) / 2] := hk _ (Array.mem_toList_iff.mp (hp.mem_iff.mp (Array.mem_toList_iff.mpr (Array.getElem_mem hpar))))
      generalize X[pos] = v at ev kv
      generalize X[(pos - 1) / 2] = x at ex kx
      refine wpAny_bind (at_get ev (wpAny_bind (at_get ex ?_)))
      rw [if_neg Bool.false_ne_true]
      refine wpAny_bind (wpAny_bind (wpAny_holding (wpAny_bind (PySem.W.lt_data (kv.now z).reads (kx.now z).reads (alike_rk _ _) (by intro e; cases e) ?_ ?_))))
      · have h1 := rk_depth (wd v)
        have h2 := rk_depth (wd x)
        omega
      refine wpAny_truthy_bool ?_
      refine wpAny_bind (wpAny_bind (wpAny_seqItems hl' rfl ?_))
      dsimp only
      refine wpAny_pure ?_
      rw [if_neg (by simp)]
      refine wpAny_pure ?_
      by_cases hq : PySem.W.dataLt (rk (wd v)) (rk (wd x)) = true
      · rw [if_pos hq]
        have hnle : ¬ leV wd x v := fun e => by
          have : (!PySem.W.dataLt (rk (wd v)) (rk (wd x))) = true := e
          rw [hq] at this
          cases this
        refine wpAny_bind (wpAny_bind (wpAny_bind (wpAny_seqItems hl' rfl ?_)))
        dsimp only
        refine wpAny_pure ?_
        refine wpAny_bind (at_get ex (wpAny_bind (at_get ev ?_)))
        have hXs : X.size = X0.size := by
          have := hp.length_eq
          rw [Array.length_toList, Array.length_toList] at this
          exact this
        refine wpAny_updateSeq hl' rfl ?_ (by omega) (by show (swapA X ((pos - 1) / 2) pos x v).size ≤ sizeLine + 1; rw [swapA_size]; omega)
        refine go_on (ih _ (by omega) (swapA X ((pos - 1) / 2) pos x v) _ (z.swap fun xs => swapA xs ((pos - 1) / 2) pos x v) ((swapA_perm ex ev).trans hp) (hup.step leV_tot leV_tr ht ev ex hnle) (by rw [swapA_size]; exact hpar))
      · rw [if_neg hq]
        refine fin (hup.stop (.inr fun v' p' e1 e2 => ?_))
        rw [ev] at e1
        rw [ex] at e2
        cases e1
        cases e2
        show (!PySem.W.dataLt (rk (wd v)) (rk (wd x))) = true
        rw [Bool.eq_false_iff.mpr hq]
        rfl
    · rw [if_neg ht]
      exact fin (hup.stop (.inl (by omega)))
/-- downward -/
theorem run_down {top : Nat} (hu : A.in1.units + 2 < cLine) (X0 : Array Value) (hk : ∀ v ∈ X0, KeyH a s0 wd v) (hz : X0.size ≤ sizeLine)
    (hd : ∀ X s, StH a s0 X s → X.toList.Perm X0.toList → Hpd (leV wd) X top → (top = 0 → R (.ok (.ret res)) s) ∧ ∀ t, top = t + 1 → runs prog w A R a true t t res ((t : Int) - 1) s) :
    ∀ (k pos : Nat) (X : Array Value) (s : Shared), X.size - pos = k → StH a s0 X s → X.toList.Perm X0.toList → Dn (leV wd) X top pos → pos < X.size → runs prog w A R a true pos top res ((top : Int) - 1) s := by
  intro k
  induction k using Nat.strongRecOn with
  | _ k ih =>
    intro pos X s hkp z hp hdn hlt
    obtain ⟨h, n, es, hl, _⟩ := id z
    have hl' : s.heap.get? a = some (lob X n) := by rw [es]; exact hl
    have hXs : X.size = X0.size := by
      have := hp.length_eq
      rw [Array.length_toList, Array.length_toList] at this
      exact this
    have hkx : ∀ (i : Nat) (hi : i < X.size), KeyH a s0 wd X[i] := fun i hi => hk _ (Array.mem_toList_iff.mp (hp.mem_iff.mp (Array.mem_toList_iff.mpr (Array.getElem_mem hi))))
    have ev : X[pos]? = some X[pos] := Array.getElem?_eq_getElem hlt
    unfold runs Builtin.«_heapq.heapify.sift»
    dsimp only [sft, rawInt]
    refine wpAny_bind (wpAny_bind (wpAny_seqItems hl' rfl ?_))
    dsimp only
    refine wpAny_pure ?_
    rw [if_pos rfl, Int.toNat_natCast, Int.toNat_natCast]
    by_cases hh : pos < X.size / 2
    · rw [if_pos hh]
      have hL : 2 * pos + 1 < X.size := by omega
      have eL : X[2 * pos + 1]? = some X[2 * pos + 1] := Array.getElem?_eq_getElem hL
      have kL := hkx _ hL
      generalize X[pos] = v at ev
      generalize X[2 * pos + 1] = l at eL kL
      by_cases hR : 2 * pos + 1 + 1 < X.size
      · rw [if_pos hR]
        have eR : X[2 * pos + 1 + 1]? = some X[2 * pos + 1 + 1] := Array.getElem?_eq_getElem hR
        have kR := hkx _ hR
        generalize X[2 * pos + 1 + 1] = r at eR kR
        refine wpAny_bind (at_get eL (wpAny_bind (at_get eR ?_)))
        rw [if_neg Bool.false_ne_true]
        refine wpAny_bind (wpAny_bind (wpAny_holding (wpAny_bind (PySem.W.lt_data (kL.now z).reads (kR.now z).reads (alike_rk _ _) (by intro e; cases e) ?_ ?_))))
        · have h1 := rk_depth (wd l)
          have h2 := rk_depth (wd r)
          omega
        refine wpAny_truthy_bool ?_
        refine wpAny_bind (wpAny_bind (wpAny_seqItems hl' rfl ?_))
        dsimp only
        refine wpAny_pure ?_
        rw [if_neg (by simp)]
        refine wpAny_pure ?_
        by_cases hq : PySem.W.dataLt (rk (wd l)) (rk (wd r)) = true
        · rw [hq, if_neg (by simp)]
          have hm : ∀ d y, 1 ≤ d → (d - 1) / 2 = pos → d ≠ 2 * pos + 1 → X[d]? = some y → leV wd l y := fun d y d1 d2 d3 e => by
            have : d = 2 * pos + 1 + 1 := by omega
            subst this
            rw [eR] at e
            cases e
            refine (leV_tot l r).resolve_right fun e => ?_
            have : (!PySem.W.dataLt (rk (wd l)) (rk (wd r))) = true := e
            rw [hq] at this
            cases this
          refine wpAny_bind (wpAny_bind (wpAny_bind (wpAny_seqItems hl' rfl ?_)))
          dsimp only
          refine wpAny_pure ?_
          refine wpAny_bind (at_get eL (wpAny_bind (at_get ev ?_)))
          refine wpAny_updateSeq hl' rfl ?_ (by omega) (by show (swapA X (2 * pos + 1) pos l v).size ≤ sizeLine + 1; rw [swapA_size]; omega)
          exact go_on (ih (X.size - (2 * pos + 1)) (by omega) _ (swapA X (2 * pos + 1) pos l v) _ (by rw [swapA_size]) (z.swap fun xs => swapA xs (2 * pos + 1) pos l v) ((swapA_perm eL ev).trans hp) (hdn.step (by omega) (by omega) ev eL hm) (by rw [swapA_size]; omega))
        · rw [Bool.eq_false_iff.mpr hq, if_pos (by simp)]
          have hm : ∀ d y, 1 ≤ d → (d - 1) / 2 = pos → d ≠ 2 * pos + 1 + 1 → X[d]? = some y → leV wd r y := fun d y d1 d2 d3 e => by
            have : d = 2 * pos + 1 := by omega
            subst this
            rw [eL] at e
            cases e
            show (!PySem.W.dataLt (rk (wd l)) (rk (wd r))) = true
            rw [Bool.eq_false_iff.mpr hq]
            rfl
          refine wpAny_bind (wpAny_bind (wpAny_bind (wpAny_seqItems hl' rfl ?_)))
          dsimp only
          refine wpAny_pure ?_
          refine wpAny_bind (at_get eR (wpAny_bind (at_get ev ?_)))
          refine wpAny_updateSeq hl' rfl ?_ (by omega) (by show (swapA X (2 * pos + 1 + 1) pos r v).size ≤ sizeLine + 1; rw [swapA_size]; omega)
          exact go_on (ih (X.size - (2 * pos + 1 + 1)) (by omega) _ (swapA X (2 * pos + 1 + 1) pos r v) _ (by rw [swapA_size]) (z.swap fun xs => swapA xs (2 * pos + 1 + 1) pos r v) ((swapA_perm eR ev).trans hp) (hdn.step (by omega) (by omega) ev eR hm) (by rw [swapA_size]; omega))
      · rw [if_neg hR]
        have hm : ∀ d y, 1 ≤ d → (d - 1) / 2 = pos → d ≠ 2 * pos + 1 → X[d]? = some y → leV wd l y := fun d y d1 d2 d3 e => by
          have := (Array.getElem?_eq_some_iff.mp e).1
          omega
        refine wpAny_bind (wpAny_bind (wpAny_bind (wpAny_seqItems hl' rfl ?_)))
        dsimp only
        refine wpAny_pure ?_
        refine wpAny_bind (at_get eL (wpAny_bind (at_get ev ?_)))
        refine wpAny_updateSeq hl' rfl ?_ (by omega) (by show (swapA X (2 * pos + 1) pos l v).size ≤ sizeLine + 1; rw [swapA_size]; omega)
        exact go_on (ih (X.size - (2 * pos + 1)) (by omega) _ (swapA X (2 * pos + 1) pos l v) _ (by rw [swapA_size]) (z.swap fun xs => swapA xs (2 * pos + 1) pos l v) ((swapA_perm eL ev).trans hp) (hdn.step (by omega) (by omega) ev eL hm) (by rw [swapA_size]; omega))
    · rw [if_neg hh]
      exact go_on (run_up hu X0 hk hz hd pos X s z hp (hdn.leaf (by omega)) hlt)
/-- from a top down to the first -/
theorem run_all (hu : A.in1.units + 2 < cLine) (X0 : Array Value) (hk : ∀ v ∈ X0, KeyH a s0 wd v) (hz : X0.size ≤ sizeLine) (hfin : ∀ X s, StH a s0 X s → X.toList.Perm X0.toList → Hpd (leV wd) X 0 → R (.ok (.ret res)) s) :
    ∀ top : Nat, top ≤ X0.size → ∀ X s, StH a s0 X s → X.toList.Perm X0.toList → Hpd (leV wd) X top → (top = 0 → R (.ok (.ret res)) s) ∧ ∀ t, top = t + 1 → runs prog w A R a true t t res ((t : Int) - 1) s := by
  intro top
  induction top using Nat.strongRecOn with
  | _ top ih =>
    intro htz X s z hp hH
    refine ⟨fun e => hfin X s z hp (e ▸ hH), fun t e => ?_⟩
    subst e
    have hXs : X.size = X0.size := by
      have := hp.length_eq
      rw [Array.length_toList, Array.length_toList] at this
      exact this
    exact run_down hu X0 hk hz (ih t (by omega) (by omega)) _ t X s rfl z hp ⟨fun i h1 h2 h3 h4 => hH i h1 (by omega), fun c h1 h2 h3 => absurd h3 (Nat.lt_irrefl _), .top⟩ (by omega)
end
end Fp

set_option Elab.async false
set_option linter.all false
set_option maxRecDepth 100000
set_option maxHeartbeats 2000000
/-! min(d, key=rank_of) of a dict of texts -/
namespace Fp
open PySem PySem.W PySem.Spec PyProof.Rows
section
variable {prog : Program} {w : World} {A : Around} {E : Value → Shared → Prop} {s : Shared} {K : Frag} {mg : Str → Option Value} {base : Heap} {fR : Addr} {fd : FuncData} {p0 p1 p2 p3 p4 p5 p6 p7 : Pos}
theorem rank_call2 (F : L2.FunD K "rank_of" "rank_of" (rkA p0) (rkB p1 p2 p3 p4 p5 p6 p7) rkS [] [] fR fd) (Mo : L2.Mod K mg base) (kb : ∀ b o, base.get? b = some o → s.heap.get? b = some o) (hlen : mg "len" = none) (hroom : A.depth + 1 < recursionLimit)
    {w0 : Str} {t : Tok} (hw : w0.length ≤ sizeLine) : wpAny (model prog w) A (call (.ref fR) [.str w0 t]) (fun v s' => ∃ h' tk p, v = .ref p ∧ s' = { s with heap := h', toks := tk } ∧ (∀ b o, s.heap.get? b = some o → h'.get? b = some o) ∧ s.heap.get? p = none ∧ RkAt h' v w0) E s := by
  obtain ⟨oc, od, dV, kV, doc, pm, an, cdv, ct, osl, rfl, lk, hcd, hD, _⟩ := F.ex
  obtain rfl : dV = .none := by
    rcases hD with ⟨_, e⟩ | ⟨e, _⟩
    · exact e
    · exact absurd rfl e
  have X : K.In s.heap := Mo.kin.keeps kb
  refine wpAny_call (Att.call_fn (binds := [("word", .str w0 t)]) X (Mo.nolimit.keeps kb) lk hcd (Nat.lt_of_succ_lt hroom) (BindsTo.of_eq (by first | rfl | with_unfolding_all rfl)) (by first | rfl | decide | with_unfolding_all rfl) (fun s₁ IC => ?_) rfl rfl rfl)
  obtain ⟨h₁, tk₁, rfl⟩ := IC.toInCall.same
  have k : ∀ b o, s.heap.get? b = some o → h₁.get? b = some o := IC.toInCall.keep
  have hn := IC.toInCall.ns
  obtain ⟨mb, b1, b2⟩ := Mo.blt
  show wpAny _ _ (execs _ _) _ _ _
  refine wpAny_execs_cons (wpAny_Return_some (wpAny_Tuple_spliced ?_))
  show wpAny _ _ (spliced ((false, eval _ _) :: backTo p6 (starEach [_] _))) _ _ _
  refine Calls.spliced_cons (wpAny_UnaryOp ?_)
  refine wpAny_Call_Name_kw (Calls.Name_function_global rfl rfl (Calls.loadGlobal_builtin (Mo.glob.keeps fun b o e => k b o (kb b o e)) hlen (b1.keeps fun b o e => k b o (kb b o e)) ((b2 "len" (by decide)).trans boot_len) ?_) (by decide))
  refine callWith_builtin1 (spliced_more (ldC (v := .str w0 t) hn (by first | rfl | with_unfolding_all rfl | kernel_rfl) (spliced_none ?_))) rfl rfl
  have hs : sizeLine = 16777216 := sizeLine_eq
  have hl63 := L2.line63
  refine len_str (by omega) (neg_int ?_)
  show wpAny _ _ (spliced ((false, eval _ _) :: backTo p6 (starEach [] _))) _ _ _
  refine Calls.spliced_cons (ldC (v := .str w0 t) hn (by first | rfl | with_unfolding_all rfl | kernel_rfl) (Calls.spliced_nil ?_))
  refine ⟨by show 2 ≤ sizeLine; rw [sizeLine_eq]; decide, ?_⟩
  refine ⟨_, _, _, rfl, rfl, fun b o e => Heap.get?_push_of_some _ (k b o e), ?_, ?_⟩
  · cases q : s.heap.get? h₁.objs.size with
    | none => rfl
    | some u =>
      have := Heap.lt_size (k _ _ q)
      exact absurd this (Nat.lt_irrefl _)
  · exact ⟨_, _, _, _, _, rfl, Heap.get?_push_size _ rfl, rfl, rfl⟩
end
theorem best_le {bt : Nat → Nat → Bool} {le : Nat → Nat → Prop} (rf : ∀ i, le i i) (tr : ∀ i j k, le i j → le j k → le i k) (h1 : ∀ i j, bt i j = true → le i j) (h2 : ∀ i j, bt i j = false → le j i) : ∀ k, argBest bt k ≤ k ∧ ∀ j, j ≤ k → le (argBest bt k) j
  | 0 => ⟨Nat.le_refl _, fun j hj => by
    have : j = 0 := by omega
    subst this
    exact rf 0⟩
  | k + 1 => by
    obtain ⟨a1, a2⟩ := best_le rf tr h1 h2 k
    simp only [argBest]
    cases hb : bt (k + 1) (argBest bt k) with
    | true =>
      rw [if_pos rfl]
      refine ⟨Nat.le_refl _, fun j hj => ?_⟩
      by_cases e : j = k + 1
      · rw [e]
        exact rf _
      · exact tr _ _ _ (h1 _ _ hb) (a2 j (by omega))
    | false =>
      rw [if_neg Bool.false_ne_true]
      refine ⟨by omega, fun j hj => ?_⟩
      by_cases e : j = k + 1
      · rw [e]
        exact h2 _ _ hb
      · exact a2 j (by omega)
end Fp
namespace L2
open PySem PySem.Spec PyProof.Rows
def rMinRk (fR : Addr) : List V → List V → Hp → VK → Prop := fun vs zs H Q => ∃ (a : Addr) (kvs : List (Key × V)) (ws : List Str), vs = [.ref a] ∧ zs = [.ref fR] ∧ H a = some (.dK kvs) ∧ kvs.map (·.1) = ws.map Sum.inr ∧ ws ≠ [] ∧ (∀ w ∈ ws, w.length ≤ sizeLine) ∧
  ∀ m ∈ ws, (∀ y ∈ ws, Fp.leR m y = true) → Q (.str m) H
section
variable {X : Cx} {fR : Addr} {fd : FuncData} {p0 p1 p2 p3 p4 p5 p6 p7 : Pos}
theorem cr_minRk (hcalm : X.calm = true) (F : FunD X.K "rank_of" "rank_of" (Fp.rkA p0) (Fp.rkB p1 p2 p3 p4 p5 p6 p7) Fp.rkS [] [] fR fd) (hlen : X.mg "len" = none) (hr : Room 3 X.A) : CallRK X (.builtin "min") [Str.ofString "key"] (rMinRk fR) := by
  intro pins s σ H vs zs us ws Q I r rz h
  obtain ⟨a, kvs, ks, rfl, rfl, ha, hks, hne, hwl, q⟩ := h
  obtain rfl := Vals.ref1 r
  obtain ⟨w1, rfl, e1⟩ := vals1 rz
  obtain rfl : w1 = Value.ref fR := e1
  obtain ⟨_, hsys, vs, rel, dof⟩ := dk_of I.hok ha
  obtain ⟨ep, dat⟩ := dof.dictAt
  obtain ⟨ob, es, ho, hex, hdat, hko, hpr, hnd⟩ := id dat
  have hlt : a < s.heap.objs.size := Heap.lt_size ho
  have hkeys : vs.map (·.1) = ks.map Sum.inr := (KV.keys rel).symm.trans hks
  have hlv : vs.length = ks.length := by
    have e1 := congrArg List.length hkeys
    rw [List.length_map, List.length_map] at e1
    exact e1
  have hpos : 0 < ks.length := List.length_pos_iff.mpr hne
  have hval : ∀ (i : Nat) (v : Value), (∃ k x, vs[i]? = some (k, x) ∧ (mixKind X.prog X.w).is k v = true) → ∃ x t, ks[i]? = some x ∧ v = Value.str x t := fun i v ⟨k, x, hk, hkey⟩ => by
    have e1 : (vs.map (·.1))[i]? = some k := by rw [List.getElem?_map, hk] <;> rfl
    rw [hkeys, List.getElem?_map] at e1
    obtain ⟨j, hj, e2⟩ := Option.map_eq_some_iff.mp e1
    subst e2
    obtain ⟨t, e3⟩ := Value.isStrOf_shape (x := j) (v := v) hkey
    exact ⟨j, t, hj, e3⟩
  refine call_min_walkK (wpAny_pyIter_dict (knd := mixKind X.prog X.w) hsys dat ?_)
  refine ⟨_, _, _, _, _, _, _, (fun s' => ∃ h' tk, s' = { s with heap := h', toks := tk } ∧ ∀ b o, s.heap.get? b = some o → h'.get? b = some o),
    (fun i v s' => ∃ x, ks[i]? = some x ∧ Fp.RkAt s'.heap v x ∧ v ≠ .ref s.heap.objs.size ∧ v ≠ .ref (s.heap.objs.size + 1)), (fun i j => PySem.W.dataLt (Fp.rk (ks.getD i "")) (Fp.rk (ks.getD j ""))), rfl,
    (Walks.dictKeys (knd := mixKind X.prog X.w) (A := X.A.in1) (I.ok.hd hcalm) s.heap.objs.size a (Nat.ne_of_lt hlt) vs ep).toS,
    ⟨⟨_, Heap.get?_push_size _ rfl, rfl, rfl⟩, dat.keep fun b u e => Heap.get?_push_of_some _ e⟩, fun b hb => ?_, by rw [hlv]; exact hpos, ?_, ⟨_, s.toks, rfl, fun b o e => Heap.get?_push_of_some _ e⟩, fun v s' hP hJ => ?_⟩
  · show b < (s.heap.push _).objs.size
    rw [Heap.size_push]
    rcases List.mem_cons.mp hb with e | hb
    · rw [e]
      exact Nat.lt_succ_self _
    · rw [List.mem_singleton.mp hb]
      exact Nat.lt_succ_of_lt hlt
  · have hS : (s.heap.push { cls := .type "dict_keyiterator", data := .fields #[.ref a, .int 0 0, .int vs.length 0, .int ep 0] }).objs.size = s.heap.objs.size + 1 := Heap.size_push _ _
    have old : ∀ {b : Addr} {o : Obj}, s.heap.get? b = some o → b ∉ (s.heap.push { cls := .type "dict_keyiterator", data := .fields #[.ref a, .int 0 0, .int vs.length 0, .int ep 0] }).objs.size :: [s.heap.objs.size] := fun e hm => by
      have hb := Heap.lt_size e
      rw [hS] at hm
      rcases List.mem_cons.mp hm with h1 | h1
      · rw [h1] at hb
        exact absurd hb (Nat.not_lt.mpr (Nat.le_succ _))
      · rw [List.mem_singleton.mp h1] at hb
        exact Nat.lt_irrefl _ hb
    have rkk : ∀ {h1 h2 : Heap} {v : Value} {x : Str}, Fp.RkAt h1 v x → (∀ p o, v = .ref p → h1.get? p = some o → h2.get? p = some o) → Fp.RkAt h2 v x := fun ⟨p, o, t1, t2, n, e0, e1, e2, e3⟩ hk => ⟨p, o, t1, t2, n, e0, hk p o e0 e1, e2, e3⟩
    have gd : ∀ {i : Nat} {x : Str}, ks[i]? = some x → ks.getD i "" = x := fun e => by
      rw [List.getD_eq_getElem?_getD, e]
      rfl
    refine ⟨fun s1 s2 hJ hm => ?_, fun i k s1 s2 hV hm => ?_, fun i v s1 o Q' E' hi hP hJ hst hSo hq => ?_, fun i j ki kj s1 Q' E' hJ hVi hVj hq => ?_⟩
    · obtain ⟨h1, tk, rfl, hk⟩ := hJ
      obtain ⟨m1, m2, m3, m4, m5⟩ := hm
      obtain ⟨hp2, g2, d2, t2, o2⟩ := s2
      have m2 : g2 = s.gens := m2
      have m3 : d2 = s.drawn := m3
      have m4 : o2 = s.os := m4
      subst m2
      subst m3
      subst m4
      exact ⟨hp2, t2, rfl, fun b o e => m1 b o (old e) (hk b o e)⟩
    · obtain ⟨x, hx, hr', n1, n2⟩ := hV
      refine ⟨x, hx, rkk hr' fun p o e0 e1 => hm.heap p o (fun hmem => ?_) e1, n1, n2⟩
      rw [hS] at hmem
      rcases List.mem_cons.mp hmem with h1 | h1
      · exact n2 (by rw [e0, h1])
      · exact n1 (by rw [e0, List.mem_singleton.mp h1])
    · obtain ⟨x, t, hx, rfl⟩ := hval i v hP
      obtain ⟨h1, tk, rfl, hk⟩ := hJ
      have hdp := hr.dp
      refine wpAny_mono (Fp.rank_call2 (s := { s with heap := h1, toks := tk }) F I.ok.mod (fun b o e => hk b o (I.bk b o e)) hlen (by show X.A.depth + 1 < _; omega) (hwl x (List.mem_of_getElem? hx))) (fun k s' hk' => ?_) fun _ _ e => e
      obtain ⟨h2, tk2, p, rfl, rfl, kp, np, hr'⟩ := hk'
      have hI := hst.1
      refine hq _ _ ⟨h2, tk2, rfl, fun b o e => kp b o (hk b o e)⟩ ((Walks.dictKeys (prog := X.prog) (w := X.w) (knd := mixKind X.prog X.w) (A := X.A.in1) (I.ok.hd hcalm) s.heap.objs.size a (Nat.ne_of_lt hlt) vs ep).frame _ _ _ hst fun b _ o e => kp b o e) (kp _ _ hSo) ⟨x, hx, hr', fun e => ?_, fun e => ?_⟩ fun j k' hV => ?_
      · obtain ⟨oi, hoi, _⟩ := hI
        injection e with e
        rw [e] at np
        rw [np] at hoi
        cases hoi
      · injection e with e
        rw [hS] at hSo
        rw [e] at np
        rw [np] at hSo
        cases hSo
      · obtain ⟨y, hy, hr2, n1, n2⟩ := hV
        exact ⟨y, hy, rkk hr2 fun p o _ e1 => kp p o e1, n1, n2⟩
    · obtain ⟨x, hx, r1, _⟩ := hVi
      obtain ⟨y, hy, r2, _⟩ := hVj
      have hu := hr.in1.in1.in1.units0
      refine PySem.W.lt_data r1.reads r2.reads (Fp.alike_rk _ _) (by intro e; cases e) ?_ ?_
      · have a1 := Fp.rk_depth x
        have a2 := Fp.rk_depth y
        show X.A.in1.units + min (Fp.rk x).depth (Fp.rk y).depth < cLine
        have hu : X.A.in1.units + 2 < cLine := hu
        omega
      · rw [gd hx, gd hy] at hq
        exact hq
  · obtain ⟨h', tk, rfl, hk⟩ := hJ
    obtain ⟨x, t, hx, rfl⟩ := hval _ v hP
    refine ⟨.str x, H, I.kept (t' := tk) hk, ⟨t, rfl⟩, q x (List.mem_of_getElem? hx) fun y hy => ?_⟩
    obtain ⟨b1, b2⟩ := Fp.best_le (bt := fun i j => PySem.W.dataLt (Fp.rk (ks.getD i "")) (Fp.rk (ks.getD j ""))) (le := fun i j => Fp.leR (ks.getD i "") (ks.getD j "") = true) (fun i => (Fp.leR_tl.total _ _).elim id id) (fun i j k => Fp.leR_tl.trans _ _ _)
      (fun i j e => (Fp.leR_tl.total _ _).resolve_right fun e2 => by
        have : (!PySem.W.dataLt (Fp.rk (ks.getD i "")) (Fp.rk (ks.getD j ""))) = true := e2
        rw [e] at this
        cases this) (fun i j e => by
        show (!PySem.W.dataLt (Fp.rk (ks.getD i "")) (Fp.rk (ks.getD j ""))) = true
        rw [e]
        rfl) (vs.length - 1)
    obtain ⟨j, hj, ej⟩ := List.mem_iff_getElem.mp hy
    have := b2 j (by omega)
    rw [List.getD_eq_getElem?_getD, hx, List.getD_eq_getElem?_getD, List.getElem?_eq_getElem hj, ej] at this
    exact this
end
end L2

set_option Elab.async false
set_option linter.all false
set_option maxRecDepth 100000
set_option maxHeartbeats 2000000
/-! heapify, heappush, heappop, run -/
namespace Fp
open PySem PySem.Spec PyProof.Rows
theorem Hpd.sub {α : Type} {le : α → α → Prop} {X Y : Array α} {top : Nat} (h : Hpd le X top) (e : ∀ i, 1 ≤ i → ∀ v, Y[i]? = some v → X[i]? = some v) (e0 : ∀ i p, top ≤ i → Y[i]? = some p → X[i]? = some p) : Hpd le Y top := fun i h1 h2 v p a b =>
  h i h1 h2 v p (e i h1 v a) (e0 _ p h2 b)
section
variable {prog : Program} {w : World} {A : Around} {R : Result → Shared → Prop} {a : Addr} {s : Shared} {wd : Value → Str}
theorem StH.refl {X : Array Value} {n : Nat} (h : s.heap.get? a = some (lob X n)) : StH a s X s := ⟨s.heap, n, rfl, h, fun _ _ _ e => e⟩
theorem StH.get {s0 : Shared} {X : Array Value} (z : StH a s0 X s) : ∃ n, s.heap.get? a = some (lob X n) := by
  obtain ⟨h, n, rfl, e, _⟩ := z
  exact ⟨n, e⟩
theorem isl {X : Array Value} {n : Nat} (h : s.heap.get? a = some (lob X n)) : s.TypeIs (.ref a) "list" := ⟨_, h, rfl⟩
theorem sub_list : isSubtype (.type "list") (.type "list") = pure true := by with_unfolding_all rfl
theorem pop_run (hu : A.in1.units + 2 < cLine) {n : Nat} {f lst : Value} {mid : List Value} (h : s.heap.get? a = some (lob (f :: (mid ++ [lst])).toArray n)) (hz : mid.length + 2 ≤ sizeLine)
    (hk : ∀ v ∈ f :: (mid ++ [lst]), KeyH a s wd v) (hh : Hpd (leV wd) (f :: (mid ++ [lst])).toArray 0)
    (q : ∀ X' s', StH a s X' s' → X'.toList.Perm (lst :: mid) → Hpd (leV wd) X' 0 → R (.ok (.ret f)) s') :
    wpAny (model prog w) A.in1 (Builtin.«_heapq.heappop» ⟨[.ref a], []⟩) (FPo prog w A R) (fun e s' => R (.error e) s') s := by
  unfold Builtin.«_heapq.heappop»
  refine wpAny_bind (wpAny_bind (wpAny_bind (wpAny_pure (wpAny_pure ?_))))
  dsimp only
  refine wpAny_bind (wpAny_bind (wpAny_isInstance (isl h) sub_list ?_))
  rw [if_pos rfl]
  refine wpAny_pure (wpAny_pure ?_)
  dsimp only
  refine wpAny_bind (wpAny_bind (wpAny_seqItems h rfl (wpAny_pure ?_)))
  have hb : ((f :: (mid ++ [lst])).toArray).back? = some lst := by
    rw [List.back?_toArray]
    exact List.getLast?_concat (l := f :: mid)
  have hs : ((f :: (mid ++ [lst])).toArray).size = mid.length + 2 := by simp
  rw [hb]
  dsimp only
  have z0 := (StH.refl h).swap fun x => x.pop
  refine wpAny_bind (wpAny_updateSeq h rfl ?_ (by omega) (by rw [Array.size_pop]; omega))
  rw [if_neg (show ¬ ((((f :: (mid ++ [lst])).toArray).size == 1) = true) from by rw [hs]; simp)]
  refine wpAny_bind (at_get (X := (f :: (mid ++ [lst])).toArray) (i := 0) (v := f) (by rfl) ?_)
  obtain ⟨n1, h1⟩ := z0.get
  have z1 := z0.swap fun x => x.setIfInBounds 0 lst
  refine wpAny_bind (wpAny_updateSeq h1 rfl ?_ (by rw [Array.size_pop]; omega) (by rw [Array.size_setIfInBounds, Array.size_pop]; omega))
  have eY : (((f :: (mid ++ [lst])).toArray).pop).setIfInBounds 0 lst = (lst :: mid).toArray := by
    apply Array.ext'
    simp [List.dropLast_cons_of_ne_nil]
  rw [eY] at z1
  have hY : ∀ i, 1 ≤ i → ∀ v, ((lst :: mid).toArray)[i]? = some v → ((f :: (mid ++ [lst])).toArray)[i]? = some v := fun i hi v e => by
    obtain ⟨j, rfl⟩ : ∃ j, i = j + 1 := ⟨i - 1, by omega⟩
    simp at e ⊢
    rw [List.getElem?_append_left ((List.getElem?_eq_some_iff.mp e).1)]
    exact e
  have hsY : ((lst :: mid).toArray).size = mid.length + 1 := by simp
  refine go_on (top := 0) (after := -1) (run_down (s0 := s) (wd := wd) (top := 0) hu ((lst :: mid).toArray) (fun v hv => hk v ?_) (by omega) (fun X s' z hp hH => ⟨fun _ => q X s' z hp hH, fun t e => by cases e⟩) _ 0 _ _ rfl z1 (List.Perm.refl _) ⟨fun i i1 i2 i3 i4 v p e1 e2 => ?_, fun c c1 c2 c3 => absurd c3 (Nat.lt_irrefl _), .top⟩ (by omega))
  · have : v ∈ lst :: mid := by simpa using hv
    rcases List.mem_cons.mp this with e | e
    · rw [e]
      simp
    · exact List.mem_cons_of_mem _ (List.mem_append_left _ e)
  · exact hh i i1 i2 v p (hY i i1 v e1) (hY _ (by omega) p e2)
theorem pop1_run {n : Nat} {f : Value} (h : s.heap.get? a = some (lob #[f] n)) (q : ∀ s', StH a s #[] s' → R (.ok (.ret f)) s') :
    wpAny (model prog w) A.in1 (Builtin.«_heapq.heappop» ⟨[.ref a], []⟩) (FPo prog w A R) (fun e s' => R (.error e) s') s := by
  unfold Builtin.«_heapq.heappop»
  refine wpAny_bind (wpAny_bind (wpAny_bind (wpAny_pure (wpAny_pure ?_))))
  dsimp only
  refine wpAny_bind (wpAny_bind (wpAny_isInstance (isl h) sub_list ?_))
  rw [if_pos rfl]
  refine wpAny_pure (wpAny_pure ?_)
  dsimp only
  refine wpAny_bind (wpAny_bind (wpAny_seqItems h rfl (wpAny_pure ?_)))
  have hb : (#[f] : Array Value).back? = some f := by simp
  rw [hb]
  dsimp only
  have hs : sizeLine = 16777216 := sizeLine_eq
  have z0 := (StH.refl h).swap fun x => x.pop
  refine wpAny_bind (wpAny_updateSeq h rfl ?_ (by show 1 ≤ sizeLine; omega) (by rw [Array.size_pop]; show 0 ≤ sizeLine + 1; omega))
  rw [if_pos (by simp)]
  refine wpAny_bind (wpAny_pure ?_)
  exact wpAny_pure (q _ z0)
theorem push_run (hu : A.in1.units + 2 < cLine) {n : Nat} {X : Array Value} {v : Value} (h : s.heap.get? a = some (lob X n)) (hz : X.size + 1 ≤ sizeLine)
    (hk : ∀ u ∈ X.push v, KeyH a s wd u) (hh : Hpd (leV wd) X 0) (q : ∀ X' s', StH a s X' s' → X'.toList.Perm (X.push v).toList → Hpd (leV wd) X' 0 → R (.ok (.ret .none)) s') :
    wpAny (model prog w) A.in1 (Builtin.«_heapq.heappush» ⟨[.ref a, v], []⟩) (FPo prog w A R) (fun e s' => R (.error e) s') s := by
  unfold Builtin.«_heapq.heappush»
  refine wpAny_bind (wpAny_bind (wpAny_pure ?_))
  refine wpAny_bind (wpAny_pure ?_)
  dsimp only
  refine wpAny_bind (wpAny_bind (wpAny_isInstance (isl h) sub_list ?_))
  rw [if_pos rfl]
  refine wpAny_pure (wpAny_pure ?_)
  dsimp only
  have z0 := (StH.refl h).swap fun x => x.push v
  refine wpAny_bind (wpAny_updateSeq h rfl ?_ (by omega) (by rw [Array.size_push]; omega))
  obtain ⟨n1, h1⟩ := z0.get
  refine wpAny_bind (wpAny_bind (wpAny_seqItems h1 rfl (wpAny_pure ?_)))
  have hs : (X.push v).size - 1 = X.size := by rw [Array.size_push]; omega
  rw [hs]
  have hY : ∀ (i : Nat) (u : Value), i ≠ X.size → (X.push v)[i]? = some u → X[i]? = some u := fun i u hi e => by
    rw [Array.getElem?_push, if_neg hi] at e
    exact e
  refine go_on (top := 0) (after := -1) (run_up (s0 := s) (wd := wd) (top := 0) hu (X.push v) hk (by rw [Array.size_push]; omega) (fun X s' z hp hH => ⟨fun _ => q X s' z hp hH, fun t e => by cases e⟩) X.size _ _ z0 (List.Perm.refl _) ⟨fun i i1 i2 i3 u p e1 e2 => ?_, fun c c1 c2 c3 u p e1 e2 => ?_, ?_⟩ (by rw [Array.size_push]; omega))
  · have hi := (Array.getElem?_eq_some_iff.mp e1).1
    rw [Array.size_push] at hi
    exact hh i i1 i2 u p (hY i u i3 e1) (hY _ p (by omega) e2)
  · have hi := (Array.getElem?_eq_some_iff.mp e1).1
    rw [Array.size_push] at hi
    omega
  · have : ∀ k, Sub 0 k := fun k => by
      induction k using Nat.strongRecOn with
      | _ k ih =>
        by_cases hk0 : k = 0
        · rw [hk0]
          exact .top
        · exact .down (ih ((k - 1) / 2) (by omega)) (by omega) rfl
    exact this _
theorem ify_run (hu : A.in1.units + 2 < cLine) {n : Nat} {X : Array Value} (h : s.heap.get? a = some (lob X n)) (hz : X.size ≤ 2500)
    (hk : ∀ u ∈ X, KeyH a s wd u) (q : ∀ X' s', StH a s X' s' → X'.toList.Perm X.toList → Hpd (leV wd) X' 0 → R (.ok (.ret .none)) s') :
    wpAny (model prog w) A.in1 (Builtin.«_heapq.heapify» ⟨[.ref a], []⟩) (FPo prog w A R) (fun e s' => R (.error e) s') s := by
  have hs : sizeLine = 16777216 := sizeLine_eq
  unfold Builtin.«_heapq.heapify»
  refine wpAny_bind (wpAny_bind (wpAny_bind (wpAny_pure (wpAny_pure ?_))))
  dsimp only
  refine wpAny_bind (wpAny_bind (wpAny_isInstance (isl h) sub_list ?_))
  rw [if_pos rfl]
  refine wpAny_pure (wpAny_pure ?_)
  dsimp only
  refine wpAny_bind (wpAny_bind (wpAny_seqItems h rfl (wpAny_pure ?_)))
  rw [if_neg (show ¬ (X.size > 2500) by omega)]
  by_cases h2 : X.size < 2
  · rw [if_pos h2]
    refine wpAny_bind (wpAny_pure ?_)
    refine wpAny_pure (q X s (StH.refl h) (List.Perm.refl _) fun i i1 i2 v p e1 e2 => ?_)
    have := (Array.getElem?_eq_some_iff.mp e1).1
    omega
  · rw [if_neg h2]
    have e1 : (((X.size / 2 : Nat) : Int) - 2) = ((X.size / 2 - 1 : Nat) : Int) - 1 := by omega
    rw [e1]
    have hall := run_all (prog := prog) (w := w) (A := A) (s0 := s) (wd := wd) (R := R) (res := .none) hu X hk (by omega) (fun X' s' z hp hH => q X' s' z hp hH) (X.size / 2 - 1 + 1) (by omega) X s (StH.refl h) (List.Perm.refl _) (fun i i1 i2 v p e1 e2 => by
      have := (Array.getElem?_eq_some_iff.mp e1).1
      omega)
    exact go_on (hall.2 (X.size / 2 - 1) rfl)
end
end Fp

set_option Elab.async false
set_option linter.all false
set_option maxRecDepth 100000
set_option maxHeartbeats 2000000
/-! heapify, heappush, heappop of ranks of words: the rules -/
namespace L2
open PySem PySem.Spec PyProof.Rows
abbrev PQ : Type := List (Addr × Str)
/-- a list in heap order -/
def HpL (ws : List Str) : Prop := ∀ i, 1 ≤ i → ∀ a b, ws[i]? = some a → ws[(i - 1) / 2]? = some b → Fp.leR b a = true
def QAt (H : Hp) (ps : PQ) : Prop := ∀ p ∈ ps, H p.1 = some (.tup [.int (-(p.2.length : Int)), .str p.2])
def adr : Value → Addr
  | .ref p => p
  | _ => 0
def wdQ (ps : PQ) (v : Value) : Str := ((ps.find? fun p => decide (p.1 = adr v)).map (·.2)).getD ""
theorem wdQ_of {H : Hp} {ps : PQ} (h : QAt H ps) {p : Addr × Str} (hp : p ∈ ps) : wdQ ps (.ref p.1) = p.2 := by
  unfold wdQ
  cases e : ps.find? fun q => decide (q.1 = adr (.ref p.1)) with
  | none =>
    have := List.find?_eq_none.mp e p hp
    exact absurd (decide_eq_true rfl) this
  | some q =>
    have h1 := List.mem_of_find?_eq_some e
    have h2 := List.find?_some e
    have h2 : q.1 = p.1 := of_decide_eq_true h2
    have h3 := h q h1
    have h4 := h p hp
    rw [h2, h4] at h3
    injection h3 with h3
    injection h3 with h3
    injection h3 with _ h3
    injection h3 with h3 _
    injection h3 with h3
    exact h3.symm
/-- the values of a queue, in another order, are those of a queue in another order -/
theorem wdQ_perm {H : Hp} {ps : PQ} (h : QAt H ps) {vs : List Value} (hp : vs.Perm (ps.map fun p => Value.ref p.1)) : ∃ ps' : PQ, ps'.Perm ps ∧ vs = ps'.map fun p => Value.ref p.1 := by
  refine ⟨vs.map fun v => (adr v, wdQ ps v), ?_, ?_⟩
  · have h1 := hp.map fun v => ((adr v, wdQ ps v) : Addr × Str)
    rw [List.map_map] at h1
    have h2 : ps.map ((fun v => ((adr v, wdQ ps v) : Addr × Str)) ∘ fun p => Value.ref p.1) = ps := by
      conv => rhs; rw [← List.map_id ps]
      apply List.map_congr_left
      intro p hp
      show ((p.1, wdQ ps (.ref p.1)) : Addr × Str) = p
      rw [wdQ_of h hp]
    rw [h2] at h1
    exact h1
  · rw [List.map_map]
    conv => lhs; rw [← List.map_id vs]
    apply List.map_congr_left
    intro v hv
    obtain ⟨p, _, rfl⟩ := List.mem_map.mp (hp.mem_iff.mp hv)
    rfl
theorem QAt.perm {H : Hp} {ps ps' : PQ} (h : QAt H ps) (hp : ps'.Perm ps) : QAt H ps' := fun p hq => h p (hp.mem_iff.mp hq)
theorem hpd_l {H : Hp} {ps ps' : PQ} (h : QAt H ps) (hp : ps'.Perm ps) (x : Fp.Hpd (Fp.leV (wdQ ps)) (ps'.map fun p => Value.ref p.1).toArray 0) : HpL (ps'.map (·.2)) := fun i i1 a b e1 e2 => by
  rw [List.getElem?_map] at e1 e2
  cases q1 : ps'[i]? with
  | none => rw [q1] at e1; cases e1
  | some p1 =>
    cases q2 : ps'[(i - 1) / 2]? with
    | none => rw [q2] at e2; cases e2
    | some p2 =>
      rw [q1] at e1
      rw [q2] at e2
      cases e1
      cases e2
      have := x i i1 (Nat.zero_le _) (.ref p1.1) (.ref p2.1) (by simp [q1]) (by simp [q2])
      have h1 := wdQ_of h (hp.mem_iff.mp (List.mem_of_getElem? q1))
      have h2 := wdQ_of h (hp.mem_iff.mp (List.mem_of_getElem? q2))
      have this : Fp.leR (wdQ ps (.ref p2.1)) (wdQ ps (.ref p1.1)) = true := this
      rw [h1, h2] at this
      exact this
theorem l_hpd {H : Hp} {ps qs : PQ} (h : QAt H ps) (hs : ∀ p ∈ qs, p ∈ ps) (x : HpL (qs.map (·.2))) : Fp.Hpd (Fp.leV (wdQ ps)) (qs.map fun p => Value.ref p.1).toArray 0 := fun i i1 i2 v u e1 e2 => by
  simp only [List.getElem?_toArray, List.getElem?_map] at e1 e2
  cases q1 : qs[i]? with
  | none => rw [q1] at e1; cases e1
  | some p1 =>
    cases q2 : qs[(i - 1) / 2]? with
    | none => rw [q2] at e2; cases e2
    | some p2 =>
      rw [q1] at e1
      rw [q2] at e2
      cases e1
      cases e2
      show Fp.leR (wdQ ps (.ref p2.1)) (wdQ ps (.ref p1.1)) = true
      rw [wdQ_of h (hs _ (List.mem_of_getElem? q1)), wdQ_of h (hs _ (List.mem_of_getElem? q2))]
      exact x i i1 p1.2 p2.2 (by rw [List.getElem?_map, q1]; rfl) (by rw [List.getElem?_map, q2]; rfl)
section
variable {X : Cx}
theorem keyq_of {pins : List (Addr × Obj)} {σ : St} {H : Hp} {s : Shared} (I : Inv X pins σ H s) {q : Addr} {xs : List V} (hq : H q = some (.lst xs)) {ps : PQ} (h : QAt H ps) : ∀ p ∈ ps, Fp.KeyH q s (wdQ ps) (.ref p.1) := fun p hp => by
  have hp' := h p hp
  obtain ⟨its, r, pl, hz⟩ := I.tuple (.inl (.inl hp'))
  obtain ⟨o, ho, hc, n, hd⟩ := (show s.heap.IsTuple p.1 its.toArray from pl)
  refine ⟨?_, fun e => ?_⟩
  · rw [wdQ_of h hp]
    cases r with
    | cons r1 r =>
      cases r with
      | cons r2 r =>
        cases r
        obtain ⟨t1, rfl⟩ := r1
        obtain ⟨t2, rfl⟩ := r2
        exact ⟨p.1, o, t1, t2, n, rfl, ho, hc, hd⟩
  · injection e with e
    rw [e, hq] at hp'
    cases hp'
theorem inv_q {pins : List (Addr × Obj)} {σ : St} {H : Hp} {s s' : Shared} (I : Inv X pins σ H s) {q : Addr} {xs : List V} (hq : H q = some (.lst xs)) {Y : Array Value} (z : Fp.StH q s Y s') {qs : PQ} (e : Y.toList = qs.map fun p => Value.ref p.1) (hz : qs.length ≤ sizeLine) :
    Inv X pins σ (upd H q (.lst (qs.map fun p => V.ref p.1))) s' := by
  obtain ⟨h, n, rfl, h1, h2⟩ := z
  have hY : Y = (qs.map fun p => Value.ref p.1).toArray := by rw [← e]
  rw [hY] at h1
  refine I.write (x := q) (e := q) (by rw [hq]; exact trivial) (.inl rfl) (fun b' u hb hu => h2 b' u hb hu) ⟨_, h1⟩ ?_
  refine ⟨by rw [List.length_map]; exact hz, _, _, ?_, h1⟩
  clear e hY h1 hz
  induction qs with
  | nil => exact .nil
  | cons p r ih => exact .cons rfl ih
theorem refsq_of : ∀ {ps : PQ} {us : List Value}, Vals (ps.map fun p => V.ref p.1) us → us = ps.map fun p => Value.ref p.1
  | [], _, h => by cases h; rfl
  | p :: ps, _, h => by
    cases h with
    | cons r t =>
      cases r
      rw [refsq_of t] <;> rfl
theorem kind_ify : builtinKind "_heapq.heapify" = none := by kernel_rfl
theorem kind_pop : builtinKind "_heapq.heappop" = none := by kernel_rfl
theorem kind_push : builtinKind "_heapq.heappush" = none := by kernel_rfl
theorem plain_ify : plainId "_heapq.heapify" = true := by decide +kernel
theorem plain_pop : plainId "_heapq.heappop" = true := by decide +kernel
theorem plain_push : plainId "_heapq.heappush" = true := by decide +kernel
theorem entry_ify : entryFor table "_heapq.heapify" = some Builtin.«_heapq.heapify» := entryFor_of_tree (by kernel_rfl)
theorem entry_pop : entryFor table "_heapq.heappop" = some Builtin.«_heapq.heappop» := entryFor_of_tree (by kernel_rfl)
theorem entry_push : entryFor table "_heapq.heappush" = some Builtin.«_heapq.heappush» := entryFor_of_tree (by kernel_rfl)
theorem args_ify (v : Value) : argsOk "_heapq.heapify" ⟨[v], []⟩ := by unfold argsOk; kernel_rfl
theorem args_pop (v : Value) : argsOk "_heapq.heappop" ⟨[v], []⟩ := by unfold argsOk; kernel_rfl
theorem args_push (v u : Value) : argsOk "_heapq.heappush" ⟨[v, u], []⟩ := by unfold argsOk; kernel_rfl
def rHIfy : List V → Hp → VK → Prop := fun vs H Q => ∃ (q : Addr) (ps : PQ), vs = [.ref q] ∧ H q = some (.lst (ps.map fun p => V.ref p.1)) ∧ QAt H ps ∧ ps.length ≤ 2500 ∧
  ∀ qs : PQ, qs.Perm ps → HpL (qs.map (·.2)) → Q .non (upd H q (.lst (qs.map fun p => V.ref p.1)))
theorem cr_ify (hr : Room 3 X.A) : CallR X (.builtin "_heapq.heapify") rHIfy := by
  intro pins s σ H vs us Q I r h
  obtain ⟨q, ps, rfl, hq, hk, hz, k⟩ := h
  obtain rfl := Vals.ref1 r
  obtain ⟨z, its, n, r2, hl, e⟩ := I.lstM hq
  have ei := refsq_of r2
  subst ei
  refine call_function_meets (S := fun A R s' => s' = s ∧ A = X.A ∧ R = wants (EP X pins σ Q) X.xe) kind_ify plain_ify entry_ify (args_ify _) (fun prog w A R s' hS => ?_) ⟨rfl, rfl, rfl⟩
  obtain ⟨rfl, rfl, rfl⟩ := hS
  refine Fp.ify_run (wd := wdQ ps) hr.in1.in1.in1.units0 e (by simp; exact hz) (fun u hu => ?_) (fun Y s' zz hp hH => ?_)
  · have : u ∈ ps.map fun p => Value.ref p.1 := by simpa using hu
    obtain ⟨p, hp, rfl⟩ := List.mem_map.mp this
    exact keyq_of I hq hk p hp
  · obtain ⟨qs, h1, h2⟩ := wdQ_perm hk (vs := Y.toList) (by simpa using hp)
    have hs : sizeLine = 16777216 := sizeLine_eq
    have I2 := inv_q I hq zz h2 (by rw [h1.length_eq]; omega)
    refine ⟨.non, _, I2, rfl, k qs h1 (hpd_l hk h1 ?_)⟩
    have : Y = (qs.map fun p => Value.ref p.1).toArray := by rw [← h2]
    rw [← this]
    exact hH
def rHPush : List V → Hp → VK → Prop := fun vs H Q => ∃ (q t : Addr) (x : Str) (ps : PQ), vs = [.ref q, .ref t] ∧ H q = some (.lst (ps.map fun p => V.ref p.1)) ∧ QAt H (ps ++ [(t, x)]) ∧ ps.length + 1 ≤ sizeLine ∧ HpL (ps.map (·.2)) ∧
  ∀ qs : PQ, qs.Perm (ps ++ [(t, x)]) → HpL (qs.map (·.2)) → Q .non (upd H q (.lst (qs.map fun p => V.ref p.1)))
theorem cr_push (hr : Room 3 X.A) : CallR X (.builtin "_heapq.heappush") rHPush := by
  intro pins s σ H vs us Q I r h
  obtain ⟨q, t, x, ps, rfl, hq, hk, hz, hh, k⟩ := h
  obtain ⟨u1, u2, rfl, r1, r2⟩ : ∃ u1 u2, us = [u1, u2] ∧ RelV (V.ref q) u1 ∧ RelV (V.ref t) u2 := by
    cases r with
    | cons a r =>
      cases r with
      | cons b r =>
        cases r
        exact ⟨_, _, rfl, a, b⟩
  cases r1
  cases r2
  obtain ⟨z, its, n, r2, hl, e⟩ := I.lstM hq
  have ei := refsq_of r2
  subst ei
  have epush : ((ps.map fun p => Value.ref p.1).toArray.push (.ref t)).toList = (ps ++ [(t, x)]).map fun p => Value.ref p.1 := by simp
  refine call_function_meets (S := fun A R s' => s' = s ∧ A = X.A ∧ R = wants (EP X pins σ Q) X.xe) kind_push plain_push entry_push (args_push _ _) (fun prog w A R s' hS => ?_) ⟨rfl, rfl, rfl⟩
  obtain ⟨rfl, rfl, rfl⟩ := hS
  refine Fp.push_run (wd := wdQ (ps ++ [(t, x)])) hr.in1.in1.in1.units0 e (by simp; exact hz) (fun u hu => ?_) (l_hpd hk (fun p hp => List.mem_append_left _ hp) hh) (fun Y s' zz hp hH => ?_)
  · have : u ∈ (ps ++ [(t, x)]).map fun p => Value.ref p.1 := by
      rw [← epush]
      exact Array.mem_toList_iff.mpr hu
    obtain ⟨p, hp, rfl⟩ := List.mem_map.mp this
    exact keyq_of I hq hk p hp
  · rw [epush] at hp
    obtain ⟨qs, h1, h2⟩ := wdQ_perm hk hp
    have I2 := inv_q I hq zz h2 (by rw [h1.length_eq, List.length_append]; exact hz)
    refine ⟨.non, _, I2, rfl, k qs h1 (hpd_l hk h1 ?_)⟩
    have : Y = (qs.map fun p => Value.ref p.1).toArray := by rw [← h2]
    rw [← this]
    exact hH
def rHPop : List V → Hp → VK → Prop := fun vs H Q => ∃ (q : Addr) (ps : PQ), vs = [.ref q] ∧ H q = some (.lst (ps.map fun p => V.ref p.1)) ∧ QAt H ps ∧ ps ≠ [] ∧ HpL (ps.map (·.2)) ∧
  ∀ (p : Addr × Str) (qs : PQ), (p :: qs).Perm ps → HpL (qs.map (·.2)) → (∀ r ∈ qs, Fp.leR p.2 r.2 = true) → Q (.ref p.1) (upd H q (.lst (qs.map fun p => V.ref p.1)))
theorem cr_pop (hr : Room 3 X.A) : CallR X (.builtin "_heapq.heappop") rHPop := by
  intro pins s σ H vs us Q I r h
  obtain ⟨q, ps, rfl, hq, hk, hne, hh, k⟩ := h
  obtain rfl := Vals.ref1 r
  obtain ⟨z, its, n, r2, hl, e⟩ := I.lstM hq
  have ei := refsq_of r2
  subst ei
  rw [List.length_map] at z
  refine call_function_meets (S := fun A R s' => s' = s ∧ A = X.A ∧ R = wants (EP X pins σ Q) X.xe) kind_pop plain_pop entry_pop (args_pop _) (fun prog w A R s' hS => ?_) ⟨rfl, rfl, rfl⟩
  obtain ⟨rfl, rfl, rfl⟩ := hS
  cases ps with
  | nil => exact absurd rfl hne
  | cons p rest =>
    rcases List.eq_nil_or_concat rest with rfl | ⟨mid, lst, hrest⟩
    · refine Fp.pop1_run (f := .ref p.1) e (fun s' zz => ?_)
      have I2 := inv_q I hq zz (qs := []) rfl (Nat.zero_le _)
      exact ⟨.ref p.1, _, I2, rfl, k p [] (List.Perm.refl _) (fun i _ a b e => by simp at e) (fun r hr => by cases hr)⟩
    · rw [List.concat_eq_append] at hrest
      subst hrest
      have ev : (p :: (mid ++ [lst])).map (fun p => Value.ref p.1) = .ref p.1 :: ((mid.map fun p => Value.ref p.1) ++ [.ref lst.1]) := by simp
      have e' : s'.heap.get? q = some (Fp.lob (.ref p.1 :: ((mid.map fun p => Value.ref p.1) ++ [.ref lst.1])).toArray n) := by
        rw [← ev]
        exact e
      have hl0 := l_hpd hk (fun p hp => hp) hh
      rw [ev] at hl0
      refine Fp.pop_run (wd := wdQ (p :: (mid ++ [lst]))) hr.in1.in1.in1.units0 e' (by rw [List.length_map]; simp at z; omega) (fun u hu => ?_) hl0 (fun Y s2 zz hp hH => ?_)
      · rw [← ev] at hu
        obtain ⟨r, hr', rfl⟩ := List.mem_map.mp hu
        exact keyq_of I hq hk r hr'
      · have hk2 : QAt H (mid ++ [lst]) := fun r hr' => hk r (List.mem_cons_of_mem _ hr')
        have hp2 : Y.toList.Perm ((mid ++ [lst]).map fun p => Value.ref p.1) := by
          refine hp.trans ?_
          rw [List.map_append]
          exact (List.perm_append_comm (l₁ := [Value.ref lst.1])).trans (List.Perm.refl _)
        obtain ⟨qs, h1, h2⟩ := wdQ_perm hk2 hp2
        have I2 := inv_q I hq zz h2 (by rw [h1.length_eq]; simp at z ⊢; omega)
        have hqs : ∀ r ∈ qs, r ∈ p :: (mid ++ [lst]) := fun r hr' => List.mem_cons_of_mem _ (h1.mem_iff.mp hr')
        have eY : Y = (qs.map fun p => Value.ref p.1).toArray := by rw [← h2]
        rw [eY] at hH
        refine ⟨.ref p.1, _, I2, rfl, k p qs (h1.cons p) (fun i i1 a b e1 e2 => ?_) fun r hr' => ?_⟩
        · rw [List.getElem?_map] at e1 e2
          cases q1 : qs[i]? with
          | none => rw [q1] at e1; cases e1
          | some p1 =>
            cases q2 : qs[(i - 1) / 2]? with
            | none => rw [q2] at e2; cases e2
            | some p2 =>
              rw [q1] at e1
              rw [q2] at e2
              cases e1
              cases e2
              have := hH i i1 (Nat.zero_le _) (.ref p1.1) (.ref p2.1) (by simp [q1]) (by simp [q2])
              have g1 := wdQ_of hk (hqs _ (List.mem_of_getElem? q1))
              have g2 := wdQ_of hk (hqs _ (List.mem_of_getElem? q2))
              have this : Fp.leR (wdQ (p :: (mid ++ [lst])) (.ref p2.1)) (wdQ (p :: (mid ++ [lst])) (.ref p1.1)) = true := this
              rw [g1, g2] at this
              exact this
        · have hr2 : r ∈ p :: (mid ++ [lst]) := hqs r hr'
          have h0 : Fp.Hpd (Fp.leV (wdQ (p :: (mid ++ [lst])))) ((p :: (mid ++ [lst])).map fun p => Value.ref p.1).toArray 0 := l_hpd hk (fun p hp => hp) hh
          obtain ⟨i, hi, ei⟩ := List.mem_iff_getElem.mp hr2
          have := h0.least (fun a => (Fp.leV_tot a a).elim id id) Fp.leV_tr (m := .ref p.1) (by simp) i (.ref r.1) (by
            simp only [List.getElem?_toArray, List.getElem?_map]
            rw [List.getElem?_eq_getElem hi, ei]
            rfl)
          have this : Fp.leR (wdQ (p :: (mid ++ [lst])) (.ref p.1)) (wdQ (p :: (mid ++ [lst])) (.ref r.1)) = true := this
          rw [wdQ_of hk List.mem_cons_self, wdQ_of hk hr2] at this
          exact this
end
end L2

set_option Elab.async false
set_option linter.all false
set_option maxRecDepth 100000
set_option maxHeartbeats 4000000
namespace Fp
open PySem PySem.Spec PyProof.Rows L2
/-- the shortest beginning of z among ws -/
def startOf (ws : List Str) (z : Str) : Option Str := (List.range (z.length + 1)).findSome? fun (k : Nat) => if cutS z none (some (k : Int)) ∈ ws then some (cutS z none (some (k : Int))) else none
theorem startOf_none {ws : List Str} {z : Str} (h : ∀ k : Nat, k < z.length + 1 → cutS z none (some (k : Int)) ∉ ws) : startOf ws z = none := by
  unfold startOf
  rw [List.findSome?_eq_none_iff]
  intro k hk
  rw [if_neg (h k (List.mem_range.mp hk))]
theorem startOf_hit {ws : List Str} {z : Str} {i : Nat} (hi : i < z.length + 1) (hm : cutS z none (some (i : Int)) ∈ ws) (h : ∀ k : Nat, k < i → cutS z none (some (k : Int)) ∉ ws) : startOf ws z = some (cutS z none (some (i : Int))) := by
  unfold startOf
  obtain ⟨m, hm2⟩ : ∃ m, z.length + 1 = i + (1 + m) := ⟨z.length - i, by omega⟩
  rw [hm2, List.range_add, List.findSome?_append, List.findSome?_eq_none_iff.mpr (fun k hk => by rw [if_neg (h k (List.mem_range.mp hk))]), Option.none_or, List.range_add, List.map_append, List.findSome?_append]
  have e1 : List.findSome? (fun (k : Nat) => if cutS z none (some (k : Int)) ∈ ws then some (cutS z none (some (k : Int))) else none) ((List.range 1).map (i + ·)) = some (cutS z none (some (i : Int))) := by
    simp [hm]
  rw [e1]
  rfl
theorem val_some {kvs : List (Key × V)} {ws : List Str} (h : kvs.map (·.1) = ws.map Sum.inr) {s : Str} : (valV kvs (Sum.inr s)).isSome = decide (s ∈ ws) := by
  unfold valV
  rw [Option.isSome_map, Bool.eq_iff_iff, List.find?_isSome, decide_eq_true_iff]
  refine ⟨fun ⟨p, hp, e⟩ => ?_, fun hs => ?_⟩
  · have e := of_decide_eq_true e
    have : p.1 ∈ ws.map Sum.inr := by rw [← h]; exact List.mem_map.mpr ⟨p, hp, rfl⟩
    rw [e] at this
    obtain ⟨y, hy, e2⟩ := List.mem_map.mp this
    cases e2
    exact hy
  · have : (Sum.inr s : Key) ∈ kvs.map (·.1) := by rw [h]; exact List.mem_map.mpr ⟨s, hs, rfl⟩
    obtain ⟨p, hp, e⟩ := List.mem_map.mp this
    exact ⟨p, hp, decide_eq_true e⟩
def optV : Option Str → V
  | some s => .str s
  | none => .non
section
variable {P : Program} {w : World} {K : PySem.W.Frag} {mg : Str → Option Value} {base : Heap}
def spRank : Sp := fun vs H Q _ => ∃ z : Str, vs = [.str z] ∧ z.length ≤ sizeLine ∧ ∀ p, H p = none → Q (.ref p) (upd H p (.tup [.int (-(z.length : Int)), .str z]))
theorem sc_rank : FnScope ["word"] ["word"] (defScope s_rank_of) := ⟨rfl, rfl, rfl, by decide +kernel, rfl, by decide +kernel, by decide +kernel⟩
theorem ok_rank (T : Top K mg) : Ok P w K mg base 1 "rank_of" ["word"] spRank := by
  obtain ⟨fd, F⟩ := fn_rank_of T
  refine ⟨⟨fd, ?_, F.bindsN fun _ _ _ _ _ _ us hl => match us, hl with | [_], _ => rfl⟩, g_rank_of T, F.kp⟩
  refine F.ok sc_rank (fun vs H Q E h => ?_) (fun cdv A outer s H vs Q E hr h => ?_)
  · obtain ⟨z, rfl, _⟩ := h
    rfl
  · obtain ⟨z, rfl, hz, q⟩ := h
    have hs : sizeLine = 16777216 := sizeLine_eq
    refine ⟨_, PSs.nox (pss_one (ps_ret (pe_tup (pa_cons (pe_un un_neg (pe_callB call_len_str (by rfl) (f_len T) PySem.boot_len (pa_cons (pv 0) pa_nil))) (pa_cons (pv 0) pa_nil))))), ?_⟩
    exact ⟨_, rfl, z, rfl, hz, _, rfl, _, rfl, by show 2 ≤ sizeLine; omega, fun p hp => q p hp⟩
def spFirstW : Sp := fun vs H Q _ => ∃ (d : Addr) (kvs : List (Key × V)) (ws : List Str), vs = [.ref d] ∧ H d = some (.dK kvs) ∧ kvs.map (·.1) = ws.map Sum.inr ∧ ws ≠ [] ∧ (∀ x ∈ ws, x.length ≤ sizeLine) ∧ ∀ m ∈ ws, (∀ y ∈ ws, leR m y = true) → Q (.str m) H
theorem sc_firstW : FnScope ["table"] ["table"] (defScope s_first_word) := ⟨rfl, rfl, rfl, by decide +kernel, rfl, by decide +kernel, by decide +kernel⟩
theorem ok_firstW (T : Top K mg) : Ok P w K mg base 4 "first_word" ["table"] spFirstW := by
  obtain ⟨fd, F⟩ := fn_first_word T
  obtain ⟨fdR, FR⟩ := fn_rank_of T
  refine ⟨⟨fd, ?_, F.bindsN fun _ _ _ _ _ _ us hl => match us, hl with | [_], _ => rfl⟩, g_first_word T, F.kp⟩
  refine F.ok sc_firstW (fun vs H Q E h => ?_) (fun cdv A outer s H vs Q E hr h => ?_)
  · obtain ⟨d, kvs, ws, rfl, _⟩ := h
    rfl
  · obtain ⟨d, kvs, ws, rfl, hd, hk, hne, hw, q⟩ := h
    refine ⟨_, PSs.nox (pss_one (ps_ret (pe_callBK (cr_minRk rfl FR (f_len T) hr) (by rfl) (f_min T) (by decide +kernel) (pa_cons (pv 0) pa_nil) (pk_cons (pe_glob (v := .ref (He.ga K "rank_of")) rfl (g_rank_of T) rfl) pk_nil)))), ?_⟩
    exact ⟨_, rfl, d, kvs, ws, rfl, rfl, hd, hk, hne, hw, q⟩
def spStart : Sp := fun vs H Q _ => ∃ (z : Str) (D : Addr) (kvs : List (Key × V)) (ws : List Str), vs = [.str z, .ref D] ∧ z.length ≤ 1000 ∧ H D = some (.dK kvs) ∧ kvs.map (·.1) = ws.map Sum.inr ∧ Q (optV (startOf ws z)) H
theorem sc_start : FnScope ["word", "leads", "size"] ["word", "leads"] (defScope s_start_of) := ⟨rfl, rfl, rfl, by decide +kernel, rfl, by decide +kernel, by decide +kernel⟩
theorem ok_start (T : Top K mg) : Ok P w K mg base 1 "start_of" ["word", "leads"] spStart := by
  obtain ⟨fd, F⟩ := fn_start_of T
  refine ⟨⟨fd, ?_, F.bindsN fun _ _ _ _ _ _ us hl => match us, hl with | [_, _], _ => rfl⟩, g_start_of T, F.kp⟩
  refine F.ok sc_start (fun vs H Q E h => ?_) (fun cdv A outer s H vs Q E hr h => ?_)
  · obtain ⟨z, D, kvs, ws, rfl, _⟩ := h
    rfl
  · obtain ⟨z, D, kvs, ws, rfl, hz, hD, hk, q⟩ := h
    have nd := sc_start.nd
    have hu := hu_of hr
    have hs : sizeLine = 16777216 := sizeLine_eq
    refine ⟨_, PSs.nox (pss_cons (ps_for PassesOwn.never rfl (pi_range1 (by rfl) (f_range T) (pa_cons (pe_op op_add (pe_callB call_len_str (by rfl) (f_len T) PySem.boot_len (pa_cons (pv 0) pa_nil)) pe_int) pa_nil)) (pg_name (i := 2) nd rfl (Or.inl rfl))
        (pss_one (ps_if (pt_cmp (pc_din hu (pe_slice sl_str (pv 0) po_none (po_some (pv 2))) (pv 1)) rfl) (pss_one (ps_ret (pe_slice sl_str (pv 0) po_none (po_some (pv 2))))) pss_nil)))
      (pss_one (ps_ret pe_non))), ?_⟩
    refine ⟨_, rfl, z, rfl, by omega, _, _, rfl, rfl, ?_⟩
    refine ⟨(z.length : Int) + 1, rfl, by omega, by omega, ?_⟩
    have en : ((z.length : Int) + 1).toNat = z.length + 1 := by omega
    rw [en]
    refine for_it walk_range (fun i σ H' => (∃ v2, σ = [some (.str z), some (.ref D), v2]) ∧ H' = H ∧ ∀ k : Nat, k < i → cutS z none (some (k : Int)) ∉ ws) ⟨⟨none, rfl⟩, rfl, fun k h => absurd h (Nat.not_lt_zero k)⟩ (fun _ _ _ _ _ => trivial) ?_ ?_
    · rintro i x σ G G' hi ⟨⟨v2, rfl⟩, rfl, hno⟩ ⟨rfl, rfl⟩
      show gName 2 (V.int (0 + (i : Int))) _ _ _
      rw [Int.zero_add]
      refine ⟨_, rfl, _, rfl, _, rfl, z, rfl, by omega, _, rfl, D, _, rfl, .inl ⟨kvs, Sum.inr (cutS z none (some (i : Int))), .inl hD, rfl, rfl⟩, ?_⟩
      refine ⟨_, rfl, ?_⟩
      rw [val_some hk]
      by_cases hm : cutS z none (some (i : Int)) ∈ ws
      · rw [decide_eq_true hm]
        refine iteT ?_
        refine ⟨_, rfl, _, rfl, _, rfl, z, rfl, by omega, ?_⟩
        rw [startOf_hit hi hm hno] at q
        exact q
      · rw [decide_eq_false hm]
        refine iteF ?_
        refine ⟨⟨_, rfl⟩, rfl, fun k hk2 => ?_⟩
        by_cases e : k < i
        · exact hno k e
        · obtain rfl : k = i := by omega
          exact hm
    · rintro σ G ⟨⟨v2, rfl⟩, rfl, hno⟩
      rw [startOf_none hno] at q
      exact q
end
end Fp

set_option Elab.async false
set_option linter.all false
set_option maxRecDepth 100000
set_option maxHeartbeats 4000000
namespace Fp
open PySem PySem.Spec PyProof.Rows L2
/-- n times u, b behind each word, taken off t -/
def takeT (c n : Int) (b : Str) (u t : Tb) : Tb := u.foldl (fun t p => putT t (p.1 ++ b) ((num t (p.1 ++ b) - n * p.2) % c)) t
theorem takeT_take {c n : Int} {b : Str} {u : Tb} {i : Nat} {p : Str × Int} (e : u[i]? = some p) (t : Tb) : takeT c n b (u.take (i + 1)) t = putT (takeT c n b (u.take i) t) (p.1 ++ b) ((num (takeT c n b (u.take i) t) (p.1 ++ b) - n * p.2) % c) := by
  unfold takeT
  rw [List.take_add_one, e, List.foldl_append]
  rfl
theorem putT_len (l : Tb) (x : Str) (n : Int) : (putT l x n).length ≤ l.length + 1 := by
  unfold putT
  split
  · rw [List.length_map]
    omega
  · rw [List.length_append]
    exact Nat.le_refl _
theorem takeT_len (c n : Int) (b : Str) : ∀ (u t : Tb), (takeT c n b u t).length ≤ t.length + u.length
  | [], t => by show t.length ≤ _; exact Nat.le_add_right _ _
  | p :: u, t => by
    have h := takeT_len c n b u (putT t (p.1 ++ b) ((num t (p.1 ++ b) - n * p.2) % c))
    have h2 := putT_len t (p.1 ++ b) ((num t (p.1 ++ b) - n * p.2) % c)
    have e0 : takeT c n b (p :: u) t = takeT c n b u (putT t (p.1 ++ b) ((num t (p.1 ++ b) - n * p.2) % c)) := rfl
    rw [e0, List.length_cons]
    omega
abbrev At : Type := List (Addr × Tb)
section
variable {P : Program} {w : World} {K : PySem.W.Frag} {mg : Str → Option Value} {base : Heap}
structure TakePre (H : Hp) (L C : Addr) (n : Int) (b : Str) (c : Int) (ts us : At) : Prop where
  hc : 0 < c
  hc7 : c ≤ 7
  hb : b.length ≤ 1000
  hL : H L = some (.lst (ts.map fun p => V.ref p.1))
  hC : H C = some (.lst (us.map fun p => V.ref p.1))
  len : ts.length = us.length
  nd : (ts.map (·.1)).Nodup
  ht : ∀ p ∈ ts, H p.1 = some (.dK (kv p.2)) ∧ p.2.length ≤ 4000000
  hu : ∀ p ∈ us, H p.1 = some (.dK (kv p.2)) ∧ p.1 ∉ ts.map (·.1) ∧ (∀ q ∈ p.2, 1 ≤ q.2 ∧ q.2 < c ∧ q.1.length ≤ 1000) ∧ p.2.length ≤ 1000000
def spTake : Sp := fun vs H Q _ => ∃ (L C : Addr) (n : Int) (b : Str) (c : Int) (ts us : At), vs = [.ref L, .ref C, .int n, .str b, .int c] ∧ TakePre H L C n b c ts us ∧
  ∀ H', (∀ a o, H a = some o → a ∉ ts.map (·.1) → H' a = some o) → (∀ (i : Nat) (p q : Addr × Tb), ts[i]? = some p → us[i]? = some q → H' p.1 = some (.dK (kv (takeT c n b q.2 p.2)))) → Q .non H'
abbrev nTake : List Str := ["left", "column", "number", "back", "clock", "table", "pieces", "piece", "amount"]
theorem sc_take : FnScope nTake ["left", "column", "number", "back", "clock"] (defScope s_take_off) := ⟨rfl, rfl, rfl, by decide +kernel, rfl, by decide +kernel, by decide +kernel⟩
theorem ok_take (T : Top K mg) : Ok P w K mg base 1 "take_off" ["left", "column", "number", "back", "clock"] spTake := by
  obtain ⟨fd, F⟩ := fn_take_off T
  refine ⟨⟨fd, ?_, F.bindsN fun _ _ _ _ _ _ us hl => match us, hl with | [_, _, _, _, _], _ => rfl⟩, g_take_off T, F.kp⟩
  refine F.ok sc_take (fun vs H Q E h => ?_) (fun cdv A outer s H vs Q E hr h => ?_)
  · obtain ⟨L, C, n, b, c, ts, us, rfl, _⟩ := h
    rfl
  · obtain ⟨L, C, n, b, c, ts, us, rfl, pr, q⟩ := h
    obtain ⟨hc, hc7, hb, hL, hC, hlen, hnd, ht, hus⟩ := pr
    have nd := sc_take.nd
    have hu := hu_of hr
    have hs : sizeLine = 16777216 := sizeLine_eq
    refine ⟨_, PSs.nox (pss_one (ps_for PassesOwn.never rfl (pi_zip (by rfl) (f_zip T) (pa_cons (pv 0) (pa_cons (pv 1) pa_nil))) (pg_tup rfl (pgs_cons (pg_name (i := 5) nd rfl (Or.inl rfl)) (pgs_cons (pg_name (i := 6) nd rfl (Or.inl rfl)) pgs_nil)))
      (pss_one (ps_lock (ps_for PassesOwn.never rfl (pi_items (pv 6)) (pg_tup rfl (pgs_cons (pg_name (i := 7) nd rfl (Or.inl rfl)) (pgs_cons (pg_name (i := 8) nd rfl (Or.inl rfl)) pgs_nil)))
        (pss_one (ps_dput hu (pv 5) (pe_op op_add_str (pv 7) (pv 3)) (pe_op op_mod (pe_op op_sub (pe_dget2 hu (pv 5) (pe_op op_add_str (pv 7) (pv 3)) pe_int ⟨rfl, rfl, rfl, rfl⟩) (pe_op op_mul (pv 2) (pv 8))) (pv 4)) rfl))))))), ?_⟩
    have hLn : L ∉ ts.map (·.1) := fun z => by
      obtain ⟨p, hp, rfl⟩ := List.mem_map.mp z
      have := (ht p hp).1
      rw [hL] at this
      cases this
    have hCn : C ∉ ts.map (·.1) := fun z => by
      obtain ⟨p, hp, rfl⟩ := List.mem_map.mp z
      have := (ht p hp).1
      rw [hC] at this
      cases this
    refine ⟨_, rfl, _, rfl, L, C, _, _, rfl, SqL.of hL, SqL.of hC, ?_⟩
    refine for_it (walk_zip (xs := ts.map fun p => V.ref p.1) (ys := us.map fun p => V.ref p.1) (n := ts.length) (by rw [List.length_map, List.length_map]; omega))
      (fun i σ H' => (∃ v5 v6 v7 v8, σ = [some (.ref L), some (.ref C), some (.int n), some (.str b), some (.int c), v5, v6, v7, v8]) ∧ (∀ a o, H a = some o → a ∉ ts.map (·.1) → H' a = some o) ∧
        ∀ (j : Nat) (p q : Addr × Tb), ts[j]? = some p → us[j]? = some q → H' p.1 = some (.dK (kv (if j < i then takeT c n b q.2 p.2 else p.2))))
      ⟨⟨none, none, none, none, rfl⟩, fun a o e _ => e, fun j p q e1 e2 => by rw [if_neg (Nat.not_lt_zero j)]; exact (ht p (List.mem_of_getElem? e1)).1⟩ (fun i σ H' _ hP => ⟨SqL.of (hP.2.1 _ _ hL hLn), SqL.of (hP.2.1 _ _ hC hCn)⟩) ?_ ?_
    · rintro i x σ H1 H2 hi ⟨⟨v5, v6, v7, v8, rfl⟩, p1, p2⟩ ⟨t0, k, v', rfl, ht0, rfl, e1, e2⟩
      change (ts.map fun p => V.ref p.1)[i]? = some k at e1
      change (us.map fun p => V.ref p.1)[i]? = some v' at e2
      rw [List.getElem?_map] at e1 e2
      obtain ⟨p, ep, rfl⟩ := Option.map_eq_some_iff.mp e1
      obtain ⟨u, eu, rfl⟩ := Option.map_eq_some_iff.mp e2
      obtain ⟨hp1, hp2⟩ := ht p (List.mem_of_getElem? ep)
      obtain ⟨hu1, hu2, hu3, hu4⟩ := hus u (List.mem_of_getElem? eu)
      have pm : p.1 ∈ ts.map (·.1) := List.mem_map.mpr ⟨p, List.mem_of_getElem? ep, rfl⟩
      have npu : u.1 ≠ p.1 := fun z => hu2 (z ▸ pm)
      have s1 := same_upd (o := .tup [.ref p.1, .ref u.1]) ht0
      have d0 := s1 _ _ (p2 i p u ep eu)
      rw [if_neg (Nat.lt_irrefl i)] at d0
      refine ⟨t0, _, rfl, .inl (.inl upd_same), rfl, ?_⟩
      refine ⟨_, _, rfl, _, _, rfl, rfl, ?_⟩
      have p1' : ∀ a o, H a = some o → a ∉ ts.map (·.1) → (upd H1 t0 (.tup [.ref p.1, .ref u.1])) a = some o := fun a o e z => s1 _ _ (p1 a o e z)
      have p2' : ∀ (j : Nat) (p' q : Addr × Tb), ts[j]? = some p' → us[j]? = some q → (upd H1 t0 (.tup [.ref p.1, .ref u.1])) p'.1 = some (.dK (kv (if j < i then takeT c n b q.2 p'.2 else p'.2))) := fun j p' q a z => s1 _ _ (p2 j p' q a z)
      generalize upd H1 t0 (.tup [.ref p.1, .ref u.1]) = G at d0 p1' p2' ⊢
      have eG := p1' _ _ hu1 hu2
      refine ⟨u.1, .dK (kv u.2), eG, trivial, fun od => ?_⟩
      refine ⟨_, rfl, u.1, od, kv u.2, rfl, upd_same, ?_⟩
      refine for_it walk_items (fun k σ G' => (∃ v7 v8, σ = [some (.ref L), some (.ref C), some (.int n), some (.str b), some (.int c), some (.ref p.1), some (.ref u.1), v7, v8]) ∧ G' p.1 = some (.dK (kv (takeT c n b (u.2.take k) p.2))) ∧
          (∀ a o, G a = some o → a ≠ p.1 → a ≠ u.1 → G' a = some o) ∧ G' u.1 = some (.frz od (.dK (kv u.2))))
        ⟨⟨_, _, rfl⟩, by rw [upd_ne npu.symm]; exact d0, fun a o z _ n2 => by rw [upd_ne n2]; exact z, upd_same⟩ (fun k σ G' _ hP => hP.2.2.2) ?_ ?_
      · rintro k x σ H3 H4 hk ⟨⟨v7', v8', rfl⟩, r1, r2, r3⟩ ⟨t2, k', v', rfl, ht2, rfl, e3, e4⟩
        obtain ⟨q0, eq0, rfl, rfl⟩ := kv_item e3 e4
        obtain ⟨hq1, hq2, hq3⟩ := hu3 q0 (List.mem_of_getElem? eq0)
        have hkl : k < u.2.length := (List.getElem?_eq_some_iff.mp eq0).1
        have y1 : (upd H3 t2 (.tup [.str q0.1, .int q0.2])) p.1 = some (.dK (kv (takeT c n b (u.2.take k) p.2))) := same_upd ht2 _ _ r1
        have hwl : q0.1.length + b.length ≤ sizeLine := by omega
        refine ⟨t2, _, rfl, .inl (.inl upd_same), rfl, ?_⟩
        refine ⟨_, _, rfl, _, _, rfl, rfl, ?_⟩
        refine ⟨_, rfl, p.1, rfl, .inl ⟨_, .inl y1⟩, _, rfl, _, rfl, _, _, rfl, rfl, hwl, _, DGet.k (k := Sum.inr (q0.1 ++ b)) y1, ?_⟩
        rw [num_eq]
        refine ⟨_, rfl, _, rfl, _, _, rfl, rfl, .inr ⟨by omega, by omega⟩, _, _, rfl, rfl, ?_⟩
        refine ⟨_, rfl, _, _, rfl, rfl, hc, ?_⟩
        refine ⟨_, rfl, _, rfl, _, rfl, _, _, rfl, rfl, hwl, p.1, _, rfl, DPut.k (k := Sum.inr (q0.1 ++ b)) y1 ?_, ?_⟩
        · have b1 := takeT_len c n b (u.2.take k) p.2
          rw [List.length_take] at b1
          rw [kv_len]
          omega
        · refine ⟨⟨_, _, rfl⟩, ?_, ?_, ?_⟩
          · rw [upd_same, putK_kv, takeT_take eq0]
          · intro a o z na nb
            rw [upd_ne na]
            exact same_upd ht2 _ _ (r2 a o z na nb)
          · rw [upd_ne npu]
            exact same_upd ht2 _ _ r3
      · rintro σ H3 ⟨⟨v7', v8', rfl⟩, r1, r2, r3⟩
        rw [kv_len, List.take_length] at r1
        refine ⟨r3, ⟨_, _, _, _, rfl⟩, ?_, ?_⟩
        · intro a o z na
          by_cases nb : a = u.1
          · rw [nb, upd_same, ← hu1, ← nb, z]
          · rw [upd_ne nb]
            exact r2 a o (p1' a o z na) (fun e => na (e ▸ pm)) nb
        · intro j p' q' e5 e6
          have hpu : p'.1 ≠ u.1 := fun z => hu2 (z ▸ List.mem_map.mpr ⟨p', List.mem_of_getElem? e5, rfl⟩)
          rw [upd_ne hpu]
          by_cases hj : j = i
          · subst hj
            rw [ep] at e5
            rw [eu] at e6
            cases e5
            cases e6
            rw [if_pos (Nat.lt_succ_self j)]
            exact r1
          · have hpp : p'.1 ≠ p.1 := fun z => by
              have h1 : (ts.map (·.1))[j]? = some p.1 := by rw [List.getElem?_map, e5, ← z]; rfl
              have h2 : (ts.map (·.1))[i]? = some p.1 := by rw [List.getElem?_map, ep]; rfl
              obtain ⟨l1, g1⟩ := List.getElem?_eq_some_iff.mp h1
              obtain ⟨l2, g2⟩ := List.getElem?_eq_some_iff.mp h2
              exact hj ((List.getElem_inj hnd).mp (g1.trans g2.symm))
            have := r2 _ _ (p2' j p' q' e5 e6) hpp hpu
            rw [this]
            by_cases hji : j < i
            · rw [if_pos hji, if_pos (by omega)]
            · rw [if_neg hji, if_neg (by omega)]
    · rintro σ H' ⟨⟨v5, v6, v7, v8, rfl⟩, p1, p2⟩
      refine q H' p1 fun i p q' e1 e2 => ?_
      have := p2 i p q' e1 e2
      rw [if_pos (List.getElem?_eq_some_iff.mp e1).1] at this
      exact this
end
end Fp

set_option Elab.async false
set_option linter.all false
set_option maxRecDepth 100000
set_option maxHeartbeats 4000000
namespace Fp
open PySem PySem.Spec PyProof.Rows L2
/-! ### taking off, the numbers -/
theorem num_put_self {l : Tb} {x : Str} (n : Int) : num (putT l x n) x = n := by
  unfold putT
  cases h : has l x with
  | true =>
    rw [if_pos rfl]
    induction l with
    | nil => cases h
    | cons p r ih =>
      rw [List.map_cons, num_cons]
      by_cases e : p.1 = x
      · rw [if_pos e]
        show (if p.1 = x then n else num _ x) = n
        rw [if_pos e]
      · rw [if_neg e, if_neg e]
        refine ih ?_
        have h2 : (decide (p.1 = x) || has r x) = true := h
        rw [decide_eq_false e, Bool.false_or] at h2
        exact h2
  | false =>
    rw [if_neg Bool.false_ne_true]
    induction l with
    | nil => rw [List.nil_append, num_cons, if_pos rfl]
    | cons p r ih =>
      have h2 : (decide (p.1 = x) || has r x) = false := h
      obtain ⟨h3, h4⟩ := Bool.or_eq_false_iff.mp h2
      rw [List.cons_append, num_cons, if_neg (of_decide_eq_false h3), ih h4]
theorem num_takeT {c n : Int} {b : Str} : ∀ (u t : Tb) (x : Str), num (takeT c n b u t) x % c = (num t x - tot (bwd (b, n) u) x) % c
  | [], t, x => by
    show num t x % c = (num t x - tot [] x) % c
    rw [tot_nil, Int.sub_zero]
  | p :: u, t, x => by
    have e0 : takeT c n b (p :: u) t = takeT c n b u (putT t (p.1 ++ b) ((num t (p.1 ++ b) - n * p.2) % c)) := rfl
    have e1 : bwd (b, n) (p :: u) = (p.1 ++ b, p.2 * n) :: bwd (b, n) u := rfl
    rw [e0, num_takeT u, e1, tot_cons]
    by_cases e : p.1 ++ b = x
    · subst e
      rw [num_put_self, if_pos rfl, Int.sub_emod, Int.emod_emod_of_dvd _ (Int.dvd_refl c), ← Int.sub_emod, Int.mul_comm n p.2]
      congr 1
      omega
    · rw [num_put_ne _ e, if_neg e, Int.zero_add]
theorem takeT_nd {c n : Int} {b : Str} : ∀ (u t : Tb), Nd t → Nd (takeT c n b u t)
  | [], _, h => h
  | p :: u, t, h => takeT_nd u (putT t (p.1 ++ b) ((num t (p.1 ++ b) - n * p.2) % c)) (nd_put h _ _)
theorem takeT_key {c n : Int} {b : Str} : ∀ (u t : Tb) (x : Str), x ∈ (takeT c n b u t).map (·.1) ↔ x ∈ t.map (·.1) ∨ ∃ p ∈ u, p.1 ++ b = x
  | [], t, x => by
    show x ∈ t.map (·.1) ↔ _
    simp
  | p :: u, t, x => by
    have e0 : takeT c n b (p :: u) t = takeT c n b u (putT t (p.1 ++ b) ((num t (p.1 ++ b) - n * p.2) % c)) := rfl
    rw [e0, takeT_key u, putT_keys]
    cases h : has t (p.1 ++ b) with
    | true =>
      rw [if_pos rfl]
      have hm := has_iff.mp h
      constructor
      · rintro (z | ⟨q, hq, e⟩)
        · exact .inl z
        · exact .inr ⟨q, List.mem_cons_of_mem _ hq, e⟩
      · rintro (z | ⟨q, hq, e⟩)
        · exact .inl z
        · rcases List.mem_cons.mp hq with rfl | hq
          · exact .inl (e ▸ hm)
          · exact .inr ⟨q, hq, e⟩
    | false =>
      rw [if_neg Bool.false_ne_true, List.mem_append, List.mem_singleton]
      constructor
      · rintro ((z | z) | ⟨q, hq, e⟩)
        · exact .inl z
        · exact .inr ⟨p, List.mem_cons_self, z.symm⟩
        · exact .inr ⟨q, List.mem_cons_of_mem _ hq, e⟩
      · rintro (z | ⟨q, hq, e⟩)
        · exact .inl (.inl z)
        · rcases List.mem_cons.mp hq with rfl | hq
          · exact .inl (.inr e.symm)
          · exact .inr ⟨q, hq, e⟩
theorem put_rg {c : Int} {t : Tb} {x : Str} {n : Int} (h : ∀ p ∈ t, 0 ≤ p.2 ∧ p.2 < c) (hn : 0 ≤ n ∧ n < c) : ∀ p ∈ putT t x n, 0 ≤ p.2 ∧ p.2 < c := fun p hp => by
  unfold putT at hp
  split at hp
  · obtain ⟨q, hq, rfl⟩ := List.mem_map.mp hp
    split
    · exact hn
    · exact h q hq
  · rcases List.mem_append.mp hp with hp | hp
    · exact h p hp
    · have : p = (x, n) := by simpa using hp
      subst this
      exact hn
theorem takeT_rg {c n : Int} {b : Str} (hc : 0 < c) : ∀ (u t : Tb), (∀ p ∈ t, 0 ≤ p.2 ∧ p.2 < c) → ∀ p ∈ takeT c n b u t, 0 ≤ p.2 ∧ p.2 < c
  | [], _, h => h
  | p :: u, t, h => takeT_rg hc u _ (put_rg h ⟨Int.emod_nonneg _ (by omega), Int.emod_lt_of_pos _ hc⟩)
theorem num_rg {c : Int} {t : Tb} (hc : 0 < c) (h : ∀ p ∈ t, 0 ≤ p.2 ∧ p.2 < c) (x : Str) : 0 ≤ num t x ∧ num t x < c := by
  unfold num
  cases e : t.find? fun p => decide (p.1 = x) with
  | none => exact ⟨Int.le_refl _, hc⟩
  | some p => exact h p (List.mem_of_find?_eq_some e)
/-- as sums: u with n, b behind, less -/
theorem lk_takeT {c n : Int} {b : Str} {u t : Tb} (h : Nd t) : Lk c (takeT c n b u t) (t ++ scl (-1) (bwd (b, n) u)) := fun x => by
  rw [tot_num (takeT_nd u t h), num_takeT, tot_app, tot_scl, tot_num h]
  congr 1
  omega
/-! ### how many words there are -/
def stp (a : Nat) (w : Str) : Str := ⟨#[a] ++ w.cps⟩
def thr (w : Str) : List Str := [stp 120 w, stp 121 w, stp 122 w]
def allW : Nat → List Str
  | 0 => [""]
  | m + 1 => "" :: (allW m).flatMap thr
theorem flat3 (l : List Str) : (l.flatMap thr).length = 3 * l.length := by
  induction l with
  | nil => rfl
  | cons a r ih =>
    rw [List.flatMap_cons, List.length_append, ih, List.length_cons]
    show 3 + 3 * r.length = 3 * (r.length + 1)
    omega
theorem allW_len : ∀ m, (allW m).length + 1 ≤ 3 ^ (m + 1)
  | 0 => by decide
  | m + 1 => by
    have h := allW_len m
    have e : (allW (m + 1)).length = 3 * (allW m).length + 1 := by
      show ((("" : Str) :: (allW m).flatMap thr : List Str)).length = _
      rw [List.length_cons, flat3]
    have e2 : 3 ^ (m + 1 + 1) = 3 * 3 ^ (m + 1) := by rw [Nat.pow_succ, Nat.mul_comm]
    rw [e, e2]
    omega
theorem allW_mem : ∀ (m : Nat) (w : Str), xyz w → w.length ≤ m → w ∈ allW m
  | m, w, hx, hl => by
    obtain ⟨⟨l⟩⟩ := w
    cases l with
    | nil =>
      cases m with
      | zero => exact List.mem_singleton.mpr rfl
      | succ m => exact List.mem_cons_self
    | cons a r =>
      cases m with
      | zero =>
        have : (a :: r).length ≤ 0 := hl
        simp at this
      | succ m =>
        refine List.mem_cons_of_mem _ (List.mem_flatMap.mpr ⟨⟨⟨r⟩⟩, allW_mem m ⟨⟨r⟩⟩ (fun c hc => hx c (List.mem_cons_of_mem _ hc)) ?_, ?_⟩)
        · have : (a :: r).length ≤ m + 1 := hl
          show r.length ≤ m
          rw [List.length_cons] at this
          omega
        · have e : ∀ k, a = k → (⟨⟨a :: r⟩⟩ : Str) = stp k ⟨⟨r⟩⟩ := fun k hk => by
            subst hk
            unfold stp
            simp
          rcases hx a List.mem_cons_self with z | z | z
          · rw [e _ z]
            exact List.mem_cons_self
          · rw [e _ z]
            exact List.mem_cons_of_mem _ List.mem_cons_self
          · rw [e _ z]
            exact List.mem_cons_of_mem _ (List.mem_cons_of_mem _ List.mem_cons_self)
theorem words_few {l : List Str} {m : Nat} (h : l.Nodup) (hw : ∀ w ∈ l, xyz w ∧ w.length ≤ m) : l.length < 3 ^ (m + 1) := by
  have := List.Nodup.length_le_of_subset h (fun w hm => allW_mem m w (hw w hm).1 (hw w hm).2)
  have := allW_len m
  omega
/-! ### beginnings -/
theorem startOf_some {ws : List Str} {z s : Str} (h : startOf ws z = some s) : s ∈ ws ∧ ∃ k : Nat, k ≤ z.length ∧ s = cutS z none (some (k : Int)) := by
  unfold startOf at h
  obtain ⟨k, hk, e⟩ := List.exists_of_findSome?_eq_some h
  split at e
  · rename_i hm
    cases e
    exact ⟨hm, k, by have := List.mem_range.mp hk; omega, rfl⟩
  · cases e
end Fp

set_option Elab.async false
set_option linter.all false
set_option maxRecDepth 100000
set_option maxHeartbeats 4000000
namespace Fp
open PySem PySem.Spec PyProof.Rows L2
/-! ### the order of words -/
theorem leR_iff {a b : Str} : leR a b = true ↔ b.length < a.length ∨ (a.length = b.length ∧ ¬ b.cps.toList < a.cps.toList) := by
  have e0 : leR a b = !PySem.W.dataLt (rk b) (rk a) := rfl
  rw [e0]
  unfold rk
  rw [PySem.W.dataLt_pair rfl rfl]
  by_cases h : a.length = b.length
  · have hv : PyData.eqv (.int (-(b.length : Int))) (.int (-(a.length : Int))) = true := by
      simp only [PyData.eqv]
      simp [h]
    rw [hv, if_pos rfl, PySem.W.dataLt_str]
    by_cases e : b = a
    · subst e
      have hv2 : PyData.eqv (.str b) (.str b) = true := by simp [PyData.eqv]
      rw [hv2, if_pos rfl]
      exact ⟨fun _ => .inr ⟨rfl, List.lt_irrefl _⟩, fun _ => rfl⟩
    · have hv2 : PyData.eqv (.str b) (.str a) = false := by simp [PyData.eqv, e]
      rw [hv2, if_neg Bool.false_ne_true]
      constructor
      · intro z
        refine .inr ⟨h, fun y => ?_⟩
        rw [decide_eq_true y] at z
        cases z
      · rintro (z | ⟨_, z⟩)
        · omega
        · rw [decide_eq_false z]
          rfl
  · have hv : PyData.eqv (.int (-(b.length : Int))) (.int (-(a.length : Int))) = false := by
      simp only [PyData.eqv]
      have : ¬ (-(b.length : Int) = -(a.length : Int)) := by omega
      simpa using this
    rw [hv, if_neg Bool.false_ne_true, PySem.W.dataLt_int]
    constructor
    · intro z
      by_cases y : b.length < a.length
      · exact .inl y
      · have : -(b.length : Int) < -(a.length : Int) := by omega
        rw [decide_eq_true this] at z
        cases z
    · rintro (z | ⟨z, _⟩)
      · rw [decide_eq_false (by omega)]
        rfl
      · exact absurd z h
theorem lt_suffix : ∀ {s r z : List Nat}, s.length = r.length → (s ++ z < r ++ z ↔ s < r)
  | [], [], z, _ => ⟨fun h => absurd h (List.lt_irrefl _), fun h => absurd h (List.lt_irrefl _)⟩
  | [], _ :: _, _, h => by simp at h
  | _ :: _, [], _, h => by simp at h
  | a :: s, b :: r, z, h => by
    have h' : s.length = r.length := by simpa using h
    rw [List.cons_append, List.cons_append, List.cons_lt_cons_iff, List.cons_lt_cons_iff, lt_suffix h']
theorem lt_prefix : ∀ {z s r : List Nat}, (z ++ s < z ++ r ↔ s < r)
  | [], _, _ => Iff.rfl
  | a :: z, s, r => by
    rw [List.cons_append, List.cons_append, List.cons_lt_cons_iff, lt_prefix]
    constructor
    · rintro (h | ⟨_, h⟩)
      · exact absurd h (Nat.lt_irrefl _)
      · exact h
    · exact fun h => .inr ⟨rfl, h⟩
theorem app_len (u v : Str) : (u ++ v).length = u.length + v.length := by
  show (u.cps ++ v.cps).size = u.cps.size + v.cps.size
  exact Array.size_append
theorem app_list (u v : Str) : (u ++ v).cps.toList = u.cps.toList ++ v.cps.toList := by
  show (u.cps ++ v.cps).toList = _
  exact Array.toList_append
theorem len_list (u : Str) : u.cps.toList.length = u.length := by
  show u.cps.toList.length = u.cps.size
  exact Array.length_toList
theorem leR_app_r {s r z : Str} (h : leR s r = true) : leR (s ++ z) (r ++ z) = true := by
  rw [leR_iff] at h ⊢
  rw [app_len, app_len, app_list, app_list]
  rcases h with h | ⟨h, g⟩
  · exact .inl (by omega)
  · exact .inr ⟨by omega, fun y => g ((lt_suffix (by rw [len_list, len_list, h])).mp y)⟩
theorem leR_app_l {s r z : Str} (h : leR s r = true) : leR (z ++ s) (z ++ r) = true := by
  rw [leR_iff] at h ⊢
  rw [app_len, app_len, app_list, app_list]
  rcases h with h | ⟨h, g⟩
  · exact .inl (by omega)
  · exact .inr ⟨by omega, fun y => g (lt_prefix.mp y)⟩
theorem leR_len' {a b : Str} (h : leR a b = true) : b.length ≤ a.length := by
  rcases leR_iff.mp h with h | ⟨h, _⟩ <;> omega
theorem leR_trans {a b c : Str} (h : leR a b = true) (g : leR b c = true) : leR a c = true := leR_total.trans _ _ _ h g
/-! ### beginnings and ends of a word -/
theorem cut_front_list {z : Str} {k : Nat} (h : k ≤ z.length) : (cutS z none (some (k : Int))).cps.toList = z.cps.toList.take k := by
  unfold cutS
  rw [show HT.sIx z.length z.length (some (k : Int)) = min k z.length from HT.sIx_nat _ _ k, HT.sIx_none, List.drop_zero, Nat.sub_zero, Nat.min_eq_left h]
theorem cut_back_list {z : Str} {k : Nat} (h : k ≤ z.length) : (cutS z (some (k : Int)) none).cps.toList = z.cps.toList.drop k := by
  unfold cutS
  rw [show HT.sIx z.length 0 (some (k : Int)) = min k z.length from HT.sIx_nat _ _ k, HT.sIx_none, Nat.min_eq_left h]
  show ((z.cps.toList.drop k).take (z.length - k)) = _
  refine List.take_of_length_le ?_
  rw [List.length_drop, len_list]
  exact Nat.le_refl _
theorem cut_len {z : Str} {k : Nat} (h : k ≤ z.length) : (cutS z none (some (k : Int))).length = k := by
  rw [← len_list, cut_front_list h, List.length_take, len_list, Nat.min_eq_left h]
theorem cut_both {z : Str} {k : Nat} (h : k ≤ z.length) : cutS z none (some (k : Int)) ++ cutS z (some (k : Int)) none = z := by
  refine PySem.W.str_of_cps ?_
  rw [app_list, cut_front_list h, cut_back_list h, List.take_append_drop]
end Fp

set_option Elab.async false
set_option linter.all false
set_option maxRecDepth 100000
set_option maxHeartbeats 4000000
namespace Fp
open PySem PySem.Spec PyProof.Rows L2
/-- a lead's table: s leads with the number 1 -/
structure Led (c : Int) (s : Str) (u : Tb) : Prop where
  nd : Nd u
  one : num u s = 1
  behind : ∀ r ∈ u, leR s r.1 = true
theorem take_lead {c n : Int} {s b : Str} {u t : Tb} (hc : 0 < c) (hu : Led c s u) (ht : ∀ p ∈ t, 0 ≤ p.2 ∧ p.2 < c) (hn : n = num t (s ++ b)) : num (takeT c n b u t) (s ++ b) = 0 := by
  have h1 := num_takeT (c := c) (n := n) (b := b) u t (s ++ b)
  have h2 : tot (bwd (b, n) u) (s ++ b) = 1 * n := by
    rcases tot_bwd (b, n) u (s ++ b) with ⟨v, e, h⟩ | ⟨h, _⟩
    · have : v = s := str_cancel_r (u := b) e
      subst this
      rw [h, tot_num hu.nd, hu.one]
    · exact absurd rfl (h s)
  rw [h2, Int.one_mul, ← hn, Int.sub_self, Int.zero_emod] at h1
  obtain ⟨r1, r2⟩ := num_rg hc (takeT_rg (n := n) (b := b) hc u t ht) (s ++ b)
  rw [Int.emod_eq_of_lt r1 r2] at h1
  exact h1
theorem take_ahead {c n : Int} {s b x : Str} {u t : Tb} (hc : 0 < c) (hu : Led c s u) (ht : ∀ p ∈ t, 0 ≤ p.2 ∧ p.2 < c) (hx : leR x (s ++ b) = true) (hne : x ≠ s ++ b) : num (takeT c n b u t) x = num t x := by
  have h1 := num_takeT (c := c) (n := n) (b := b) u t x
  have h2 : tot (bwd (b, n) u) x = 0 := by
    rcases tot_bwd (b, n) u x with ⟨v, e, h⟩ | ⟨_, h⟩
    · rw [h]
      by_cases hv : v ∈ u.map (·.1)
      · exfalso
        obtain ⟨r, hr, rfl⟩ := List.mem_map.mp hv
        have h3 := leR_app_r (z := b) (hu.behind r hr)
        have e' : r.1 ++ b = x := e
        rw [e'] at h3
        exact hne (leR_anti hx h3)
      · rw [tot_not hv, Int.zero_mul]
    · exact h
  rw [h2, Int.sub_zero] at h1
  obtain ⟨r1, r2⟩ := num_rg hc (takeT_rg (n := n) (b := b) hc u t ht) x
  obtain ⟨q1, q2⟩ := num_rg hc ht x
  rw [Int.emod_eq_of_lt r1 r2, Int.emod_eq_of_lt q1 q2] at h1
  exact h1
/-- words of a lot of words -/
def Wd (U : List Str) (t : Tb) : Prop := ∀ x ∈ t.map (·.1), x ∈ U
theorem take_wd {c n : Int} {U : List Str} {b : Str} {u t : Tb} (ht : Wd U t) (hu : ∀ r ∈ u, r.1 ++ b ∈ U) : Wd U (takeT c n b u t) := fun x hx => by
  rcases (takeT_key u t x).mp hx with hx | ⟨r, hr, rfl⟩
  · exact ht x hx
  · exact hu r hr
theorem tb_few {U : List Str} {t : Tb} (h : Nd t) (hw : Wd U t) : t.length < U.length + 1 := by
  have h' : (t.map (·.1)).Nodup := h
  have := List.Nodup.length_le_of_subset h' (fun x hx => hw x hx)
  rw [List.length_map] at this
  omega
end Fp

set_option Elab.async false
set_option linter.all false
set_option maxRecDepth 100000
set_option maxHeartbeats 4000000
namespace Fp
open PySem PySem.Spec PyProof.Rows L2
abbrev Lead : Type := Str × Addr × At
/-- a lot of words that is kept by taking off -/
structure Cl (lds : List Lead) (M : Nat) (U : List Str) : Prop where
  len : U.length ≤ 1000000
  m : M ≤ 1000
  wl : ∀ x ∈ U, xyz x ∧ x.length ≤ M
  cl : ∀ q ∈ lds, ∀ p ∈ q.2.2, ∀ r ∈ p.2, ∀ b, q.1 ++ b ∈ U → r.1 ++ b ∈ U
structure RA (H : Hp) (L D : Addr) (i : Nat) (c : Int) (M : Nat) (U : List Str) (ts : At) (lds : List Lead) : Prop where
  hc : 0 < c
  hc7 : c ≤ 7
  cl : Cl lds M U
  hL : H L = some (.lst (ts.map fun p => V.ref p.1))
  hD : H D = some (.dK (lds.map fun q => ((Sum.inr q.1 : Key), V.ref q.2.1)))
  hDn : D ∉ ts.map (·.1)
  hi : i < ts.length
  nd : (ts.map (·.1)).Nodup
  ht : ∀ p ∈ ts, H p.1 = some (.dK (kv p.2))
  tg : ∀ p ∈ ts, Nd p.2 ∧ (∀ q ∈ p.2, 0 ≤ q.2 ∧ q.2 < c) ∧ Wd U p.2
  few : ∀ p, ts[i]? = some p → p.2.length ≤ 2500
  col : ∀ q ∈ lds, H q.2.1 = some (.lst (q.2.2.map fun p => V.ref p.1)) ∧ q.2.2.length = ts.length ∧ q.1.length ≤ 1000
  pc : ∀ q ∈ lds, ∀ p ∈ q.2.2, H p.1 = some (.dK (kv p.2)) ∧ p.1 ∉ ts.map (·.1) ∧ (∀ r ∈ p.2, 1 ≤ r.2 ∧ r.2 < c) ∧ p.2.length ≤ 1000000 ∧ ∀ r ∈ p.2, xyz r.1 ∧ r.1.length ≤ q.1.length
  led : ∀ q ∈ lds, ∀ p, q.2.2[i]? = some p → Led c q.1 p.2
/-- what has been taken off: a lead, what stands behind it, how many times -/
structure Tk where
  q : Lead
  b : Str
  n : Int
def opT (c : Int) (j : Nat) (t : Tb) (o : Tk) : Tb := match o.q.2.2[j]? with
  | some p => takeT c o.n o.b p.2 t
  | none => t
def runT (c : Int) (j : Nat) (ops : List Tk) (t : Tb) : Tb := ops.foldl (opT c j) t
theorem runT_snoc (c : Int) (j : Nat) (ops : List Tk) (o : Tk) (t : Tb) : runT c j (ops ++ [o]) t = opT c j (runT c j ops t) o := by
  unfold runT
  rw [List.foldl_append]
  rfl
theorem lead_get : ∀ {lds : List Lead} {s : Str}, s ∈ lds.map (·.1) → ∃ q ∈ lds, q.1 = s ∧ valV (lds.map fun q => ((Sum.inr q.1 : Key), V.ref q.2.1)) (Sum.inr s) = some (.ref q.2.1)
  | [], s, h => by cases h
  | q :: r, s, h => by
    by_cases e : q.1 = s
    · refine ⟨q, List.mem_cons_self, e, ?_⟩
      unfold valV
      rw [List.map_cons, List.find?_cons_of_pos (by simp [e])]
      rfl
    · rcases List.mem_cons.mp h with h | h
      · exact absurd h.symm e
      · obtain ⟨q', h1, h2, h3⟩ := lead_get (lds := r) h
        refine ⟨q', List.mem_cons_of_mem _ h1, h2, ?_⟩
        unfold valV at h3 ⊢
        rw [List.map_cons, List.find?_cons_of_neg (by simp [e])]
        exact h3
theorem xyz_tail {a b : Str} (h : xyz (a ++ b)) : xyz b := fun c hc => h c (by rw [app_list]; exact List.mem_append_right _ hc)
theorem has_iff' {l : Tb} {x : Str} : has l x = false ↔ x ∉ l.map (·.1) := by
  rw [← has_iff]
  cases has l x <;> simp
/-- the words that come new -/
def newW (b : Str) (u t : Tb) : List Str := (u.map fun r => r.1 ++ b).filter fun x => !has t x
theorem newW_mem {b : Str} {u t : Tb} {x : Str} : x ∈ newW b u t ↔ (∃ r ∈ u, r.1 ++ b = x) ∧ x ∉ t.map (·.1) := by
  unfold newW
  rw [List.mem_filter, List.mem_map]
  refine and_congr Iff.rfl ?_
  rw [← has_iff']
  cases has t x <;> simp
theorem newW_nd {b : Str} {u t : Tb} (h : Nd u) : (newW b u t).Nodup := by
  refine List.Nodup.sublist List.filter_sublist ?_
  have e : (u.map fun r => r.1 ++ b) = (u.map (·.1)).map fun x => x ++ b := by rw [List.map_map]; rfl
  rw [e]
  have h' : (u.map (·.1)).Nodup := h
  exact List.Pairwise.map _ (fun a b' hne z => hne (str_cancel_r z)) h'
theorem newW_len {c n : Int} {b : Str} {u t : Tb} (hu : Nd u) (ht : Nd t) : t.length + (newW b u t).length ≤ (takeT c n b u t).length := by
  have h1 : (t.map (·.1) ++ newW b u t).Nodup := by
    refine List.nodup_append.mpr ⟨ht, newW_nd hu, fun a ha b' hb e => ?_⟩
    subst e
    exact (newW_mem.mp hb).2 ha
  have h2 := List.Nodup.length_le_of_subset (l₂ := (takeT c n b u t).map (·.1)) h1 (fun x hx => by
    rw [takeT_key]
    rcases List.mem_append.mp hx with hx | hx
    · exact .inl hx
    · exact .inr (newW_mem.mp hx).1)
  rw [List.length_append, List.length_map, List.length_map] at h2
  exact h2
/-- the tables as they stand -/
def cur (c : Int) (ops : List Tk) (ts : At) : At := ts.mapIdx fun j p => (p.1, runT c j ops p.2)
theorem cur_at {c : Int} {ops : List Tk} {ts : At} {j : Nat} : (cur c ops ts)[j]? = (ts[j]?).map fun p => (p.1, runT c j ops p.2) := List.getElem?_mapIdx
theorem cur_map {α : Type} {c : Int} {ops : List Tk} {ts : At} (f : Addr → α) : (cur c ops ts).map (fun p => f p.1) = ts.map fun p => f p.1 := by
  refine List.ext_getElem? fun j => ?_
  rw [List.getElem?_map, List.getElem?_map, cur_at, Option.map_map]
  rfl
theorem cur_mem {c : Int} {ops : List Tk} {ts : At} {p : Addr × Tb} (h : p ∈ cur c ops ts) : ∃ (j : Nat) (p' : Addr × Tb), ts[j]? = some p' ∧ p = (p'.1, runT c j ops p'.2) := by
  obtain ⟨j, e⟩ := List.getElem?_of_mem h
  rw [cur_at] at e
  obtain ⟨p', e1, e2⟩ := Option.map_eq_some_iff.mp e
  exact ⟨j, p', e1, e2.symm⟩
/-- what stands ahead of each turn of the while -/
structure JA (H : Hp) (i : Nat) (c : Int) (U : List Str) (ts : At) (lds : List Lead) (t : Tb) (Qa : Addr) (ops : List Tk) (ps : PQ) (H' : Hp) : Prop where
  tk : ∀ o ∈ ops, o.q ∈ lds
  fr : ∀ a o, H a = some o → a ∉ ts.map (·.1) → H' a = some o
  tb : ∀ (j : Nat) p, ts[j]? = some p → H' p.1 = some (.dK (kv (runT c j ops p.2))) ∧ Nd (runT c j ops p.2) ∧ (∀ q ∈ runT c j ops p.2, 0 ≤ q.2 ∧ q.2 < c) ∧ Wd U (runT c j ops p.2)
  q1 : H' Qa = some (.lst (ps.map fun p => V.ref p.1))
  q2 : QAt H' ps
  q3 : HpL (ps.map (·.2))
  q4 : (ps.map (·.2)).Nodup
  q5 : ∀ p ∈ ps, p.2 ∈ (runT c i ops t).map (·.1) ∧ (startOf (lds.map (·.1)) p.2).isSome = true
  q6 : ∀ x ∈ (runT c i ops t).map (·.1), (startOf (lds.map (·.1)) x).isSome = true → x ∈ ps.map (·.2) ∨ (num (runT c i ops t) x = 0 ∧ ∀ p ∈ ps, leR x p.2 = true)
section
variable {P : Program} {w : World} {K : PySem.W.Frag} {mg : Str → Option Value} {base : Heap}
def spRA : Sp := fun vs H Q _ => ∃ (L D : Addr) (i : Nat) (c : Int) (M : Nat) (U : List Str) (ts : At) (lds : List Lead), vs = [.ref L, .int i, .ref D, .int c] ∧ RA H L D i c M U ts lds ∧
  ∀ (H' : Hp) (ops : List Tk), (∀ o ∈ ops, o.q ∈ lds) → (∀ a o, H a = some o → a ∉ ts.map (·.1) → H' a = some o) →
    (∀ (j : Nat) p, ts[j]? = some p → H' p.1 = some (.dK (kv (runT c j ops p.2))) ∧ Nd (runT c j ops p.2) ∧ (∀ q ∈ runT c j ops p.2, 0 ≤ q.2 ∧ q.2 < c) ∧ Wd U (runT c j ops p.2)) →
    (∀ p, ts[i]? = some p → ∀ x ∈ (runT c i ops p.2).map (·.1), (startOf (lds.map (·.1)) x).isSome = true → num (runT c i ops p.2) x = 0) → Q .non H'
abbrev nRA : List Str := ["left", "place", "leads", "clock", "table", "queue", "_", "word", "start", "back", "fresh", "found", "piece"]
theorem sc_RA : FnScope nRA ["left", "place", "leads", "clock"] (defScope s_reduce_at) := ⟨rfl, rfl, rfl, by decide +kernel, rfl, by decide +kernel, by decide +kernel⟩
theorem ok_RA (T : Top K mg) : Ok P w K mg base 4 "reduce_at" ["left", "place", "leads", "clock"] spRA := by
  obtain ⟨fd, F⟩ := fn_reduce_at T
  refine ⟨⟨fd, ?_, F.bindsN fun _ _ _ _ _ _ us hl => match us, hl with | [_, _, _, _], _ => rfl⟩, g_reduce_at T, F.kp⟩
  refine F.ok sc_RA (fun vs H Q E h => ?_) (fun cdv A outer s H vs Q E hr h => ?_)
  · obtain ⟨L, D, i, c, M, U, ts, lds, rfl, _⟩ := h
    rfl
  · obtain ⟨L, D, i, c, M, U, ts, lds, rfl, ra, q⟩ := h
    have nd := sc_RA.nd
    have hu := hu_of hr
    have hr1 : Room 1 _ := hr.mono (by decide)
    have hs : sizeLine = 16777216 := sizeLine_eq
    refine ⟨_, PSs.nox (pss_cons (ps_set (i := 4) nd rfl (Or.inr rfl) (pe_ix ix_list (pv 0) (pv 1) (fun _ _ => rfl)))
      (pss_cons (ps_lock (ps_setLc (i := 5) (te := tCall spRank [] E0 (tCons (tVar 7) tNil)) (tt := tB (tNotN (tCall spStart [] E0 (tCons (tVar 7) (tCons (tVar 2) tNil))))) (own := [("word", 7)]) (g := gName 7) (by rfl) nd rfl rfl (sw_true rfl rfl rfl (by decide +kernel)) (pi_keys (pv 4)) (blkOk_by (N := nRA) (sc := defScope s_reduce_at) (by decide +kernel))
        (fun _ _ _ _ _ => pg_name (i := 7) nd rfl (Or.inl rfl)) (fun _ _ _ _ _ => by exact pts_one (pt_cmp (pc_notN (pc (ok_start T) hr1 (pa_cons (pv 7) (pa_cons (pv 2) pa_nil)))) rfl)) (fun _ _ _ _ _ => by exact (pc (ok_rank T) hr1 (pa_cons (pv 7) pa_nil)))))
      (pss_cons (ps_expr (pe_callBfun (cr_ify hr) (by rfl) (hq_heapify T) (pa_cons (pv 5) pa_nil)))
      (pss_one (ps_while PassesOwn.never (pt_truth (pv 5) (fun _ => rfl))
        (pss_cons (ps_asg (pe_callBfun (cr_pop hr) (by rfl) (hq_heappop T) (pa_cons (pv 5) pa_nil)) (pg_tup rfl (pgs_cons (pg_name (i := 6) nd rfl (Or.inl rfl)) (pgs_cons (pg_name (i := 7) nd rfl (Or.inl rfl)) pgs_nil))))
        (pss_one (ps_if (pt_truth (pe_dget hu (pv 4) (pv 7) (fun _ _ => rfl)) (fun _ => rfl))
          (pss_cons (ps_set (i := 8) nd rfl (Or.inl rfl) (pc (ok_start T) hr1 (pa_cons (pv 7) (pa_cons (pv 2) pa_nil))))
          (pss_cons (ps_set (i := 9) nd rfl (Or.inr rfl) (pe_slice sl_str (pv 7) (po_some (pe_callB call_len_str (by rfl) (f_len T) PySem.boot_len (pa_cons (pv 8) pa_nil))) po_none))
          (pss_cons (ps_lock (ps_setLc (i := 10) (te := tOp (fun x y H Q => ∃ i j, x = .str i ∧ y = .str j ∧ i.length + j.length ≤ sizeLine ∧ Q (.str (i ++ j)) H) (tVar 12) (tVar 9)) (tt := tB (tDNotIn (tOp (fun x y H Q => ∃ i j, x = .str i ∧ y = .str j ∧ i.length + j.length ≤ sizeLine ∧ Q (.str (i ++ j)) H) (tVar 12) (tVar 9)) (tVar 4))) (own := [("piece", 12)]) (g := gName 12) (by rfl) nd rfl rfl (sw_true rfl rfl rfl (by decide +kernel)) (pi_keys (pe_ix ix_list (pe_dget hu (pv 2) (pv 8) (fun _ _ => rfl)) (pv 1) (fun _ _ => rfl))) (blkOk_by (N := nRA) (sc := defScope s_reduce_at) (by decide +kernel))
            (fun _ _ _ _ _ => pg_name (i := 12) nd rfl (Or.inl rfl)) (fun _ _ _ _ _ => by exact pts_one (pt_cmp (pc_dnotin hu (pe_op op_add_str (pv 12) (pv 9)) (pv 4)) rfl)) (fun _ _ _ _ _ => by exact (pe_op op_add_str (pv 12) (pv 9)))))
          (pss_cons (ps_expr (pc (ok_take T) hr1 (pa_cons (pv 0) (pa_cons (pe_dget hu (pv 2) (pv 8) (fun _ _ => rfl)) (pa_cons (pe_dget hu (pv 4) (pv 7) (fun _ _ => rfl)) (pa_cons (pv 9) (pa_cons (pv 3) pa_nil)))))))
          (pss_one (ps_for PassesOwn.never rfl (pi_list (pv 10)) (pg_name (i := 11) nd rfl (Or.inl rfl))
            (pss_one (ps_if (pt_cmp (pc_notN (pc (ok_start T) hr1 (pa_cons (pv 11) (pa_cons (pv 2) pa_nil)))) rfl) (pss_one (ps_expr (pe_callBfun (cr_push hr) (by rfl) (hq_heappush T) (pa_cons (pv 5) (pa_cons (pc (ok_rank T) hr1 (pa_cons (pv 11) pa_nil)) pa_nil))))) pss_nil)))))))) pss_nil)))))))), ?_⟩
    obtain ⟨⟨d, t⟩, ep⟩ : ∃ p, ts[i]? = some p := ⟨ts[i]'ra.hi, List.getElem?_eq_getElem ra.hi⟩
    have hp : (d, t) ∈ ts := List.mem_of_getElem? ep
    have hd : H d = some (.dK (kv t)) := ra.ht _ hp
    obtain ⟨tnd, trg, twd⟩ := ra.tg _ hp
    have tlen : t.length ≤ 2500 := ra.few _ ep
    have hkeys : (lds.map fun q => ((Sum.inr q.1 : Key), V.ref q.2.1)).map (·.1) = (lds.map (·.1)).map Sum.inr := by
      rw [List.map_map, List.map_map]
      rfl
    refine ⟨_, rfl, _, rfl, L, _, i, .ref d, rfl, rfl, SqL.of ra.hL, atI_nat (by rw [List.getElem?_map, ep]; rfl), ?_⟩
    refine ⟨d, .dK (kv t), hd, trivial, fun od => ?_⟩
    refine ⟨_, rfl, d, od, rfl, .inl ⟨kv t, upd_same, fun Qa hQ => ?_⟩⟩
    have nQd : Qa ≠ d := fun e => by
      rw [e, upd_same] at hQ
      cases hQ
    have hQ0 : H Qa = none := by
      rw [upd_ne nQd] at hQ
      exact hQ
    have nDd : D ≠ d := fun z => ra.hDn (z ▸ List.mem_map.mpr ⟨(d, t), hp, rfl⟩)
    refine lc_it walk_keys (fun k H' => (∃ ps : PQ, H' Qa = some (.lst (ps.map fun p => V.ref p.1)) ∧ ps.map (·.2) = ((t.take k).map (·.1)).filter (fun x => (startOf (lds.map (·.1)) x).isSome) ∧ QAt H' ps) ∧ But d H H' ∧ H' d = some (.frz od (.dK (kv t))))
      ⟨⟨[], upd_same, rfl, fun p hp => (by cases hp)⟩, ?_, ?_⟩ (fun i H' _ hP => hP.2.2) ?_ ?_
    · intro b o e n
      rw [upd_ne (ne_of_none e hQ0), upd_ne n]
      exact e
    · rw [upd_ne nQd.symm]
      exact upd_same
    · rintro k x H1 H2 hi ⟨⟨ps, p1, p2, p3⟩, p5, p6⟩ ⟨rfl, kk, v, e, rfl⟩
      obtain ⟨p, ep0, rfl, rfl⟩ := kv_at e
      rw [kv_len] at hi
      have hx := twd p.1 (List.mem_map.mpr ⟨p, List.mem_of_getElem? ep0, rfl⟩)
      have hD1 := p5 _ _ ra.hD nDd
      refine ⟨rfl, ?_⟩
      refine ⟨_, rfl, _, rfl, p.1, D, _, _, rfl, by have := (ra.cl.wl _ hx).2; have := ra.cl.m; omega, hD1, hkeys, ?_⟩
      have etake : ((t.take (k + 1)).map (·.1)).filter (fun x => (startOf (lds.map (·.1)) x).isSome) = ((t.take k).map (·.1)).filter (fun x => (startOf (lds.map (·.1)) x).isSome) ++ [p.1].filter (fun x => (startOf (lds.map (·.1)) x).isSome) := by
        rw [List.take_add_one, ep0, List.map_append, List.filter_append]
        rfl
      cases es : startOf (lds.map (·.1)) p.1 with
      | none =>
        refine ⟨_, rfl, iteF ⟨⟨ps, p1, ?_, p3⟩, p5, p6⟩⟩
        rw [p2, etake]
        simp [es]
      | some sx =>
        refine ⟨_, rfl, iteT ?_⟩
        refine ⟨_, rfl, p.1, rfl, by have := (ra.cl.wl _ hx).2; have := ra.cl.m; omega, fun tp htp => ?_⟩
        have ntQ : Qa ≠ tp := ne_of_none p1 htp
        have ntd : d ≠ tp := ne_of_none p6 htp
        have psl : ps.length ≤ k := by
          have h1 := congrArg List.length p2
          rw [List.length_map] at h1
          have h2 := List.length_filter_le (fun x => (startOf (lds.map (·.1)) x).isSome) ((t.take k).map (·.1))
          rw [List.length_map, List.length_take] at h2
          omega
        refine ⟨_, by rw [upd_ne ntQ]; exact p1, by rw [List.length_map]; omega, ⟨ps ++ [(tp, p.1)], ?_, ?_, ?_⟩, ?_, ?_⟩
        · rw [upd_same, List.map_append]
          rfl
        · rw [List.map_append, p2, etake]
          simp [es]
        · intro r hr
          rcases List.mem_append.mp hr with hr | hr
          · have := p3 r hr
            rw [upd_ne (ne_of this p1 (by intro z; cases z)), upd_ne (ne_of_none this htp)]
            exact this
          · have : r = (tp, p.1) := by simpa using hr
            subst this
            rw [upd_ne ntQ.symm]
            exact upd_same
        · intro b o z n
          rw [upd_ne (ne_of_none z hQ0), upd_ne (ne_of_none (p5 b o z n) htp)]
          exact p5 b o z n
        · rw [upd_ne nQd.symm, upd_ne ntd]
          exact p6
    · rintro H' ⟨⟨ps, p1, p2, p3⟩, p5, p6⟩
      rw [kv_len, List.take_length] at p2
      refine ⟨p6, ?_⟩
      have qa1 : (upd H' d (.dK (kv t))) Qa = some (.lst (ps.map fun p => V.ref p.1)) := by
        rw [upd_ne nQd]
        exact p1
      have base' : Same H (upd H' d (.dK (kv t))) := fun b o e => by
        by_cases n : b = d
        · rw [n, upd_same, ← hd, ← n, e]
        · rw [upd_ne n]
          exact p5 b o e n
      have qs1 : QAt (upd H' d (.dK (kv t))) ps := fun r hr => by
        have := p3 r hr
        rw [upd_ne (ne_of this p6 (by intro z; cases z))]
        exact this
      generalize upd H' d (.dK (kv t)) = H1 at qa1 base' qs1 ⊢
      have psl : ps.length ≤ 2500 := by
        have h1 := congrArg List.length p2
        rw [List.length_map] at h1
        have h2 := List.length_filter_le (fun x => (startOf (lds.map (·.1)) x).isSome) (t.map (·.1))
        rw [List.length_map] at h2
        omega
      refine ⟨_, rfl, Qa, ps, rfl, qa1, qs1, psl, fun qs hperm hheap => ?_⟩
      have nQt : Qa ∉ ts.map (·.1) := fun z => by
        obtain ⟨p, hp', e⟩ := List.mem_map.mp z
        have := ra.ht p hp'
        rw [e, hQ0] at this
        cases this
      have hin : ∀ x, x ∈ qs.map (·.2) ↔ x ∈ t.map (·.1) ∧ (startOf (lds.map (·.1)) x).isSome = true := fun x => by
        rw [(hperm.map (·.2)).mem_iff, p2, List.mem_filter]
      have J0 : JA H i c U ts lds t Qa [] qs (upd H1 Qa (.lst (qs.map fun p => V.ref p.1))) := {
        tk := fun o ho => by cases ho
        fr := fun a o e na => by
          rw [upd_ne (ne_of_none e hQ0)]
          exact base' _ _ e
        tb := fun j p e => by
          have hpm := List.mem_of_getElem? e
          refine ⟨?_, ra.tg p hpm⟩
          rw [upd_ne (ne_of_none (ra.ht p hpm) hQ0)]
          exact base' _ _ (ra.ht p hpm)
        q1 := upd_same
        q2 := fun r hr => by
          have := qs1 r (hperm.mem_iff.mp hr)
          rw [upd_ne (ne_of this qa1 (by intro z; cases z))]
          exact this
        q3 := hheap
        q4 := by
          rw [(hperm.map (·.2)).nodup_iff, p2]
          exact List.Nodup.sublist List.filter_sublist tnd
        q5 := fun r hr => (hin r.2).mp (List.mem_map.mpr ⟨r, hr, rfl⟩)
        q6 := fun x hx hst => .inl ((hin x).mpr ⟨hx, hst⟩) }
      generalize upd H1 Qa (.lst (qs.map fun p => V.ref p.1)) = H2 at J0 ⊢
      clear hin p1 p2 p3 p5 p6 qs1 qa1 base' psl hperm hheap
      refine ⟨fun k σ H' => ∃ (ops : List Tk) (ps : PQ) (v6 v7 v8 v9 v10 v11 v12 : Option V), σ = [some (.ref L), some (.int i), some (.ref D), some (.int c), some (.ref d), some (.ref Qa), v6, v7, v8, v9, v10, v11, v12] ∧ JA H i c U ts lds t Qa ops ps H' ∧ k = (U.length + 1) + ps.length - (runT c i ops t).length,
        ⟨_, [], qs, none, none, none, none, none, none, none, rfl, J0, rfl⟩, ?_⟩
      clear J0
      rintro k σ H3 ⟨ops, ps', v6, v7, v8, v9, v10, v11, v12, rfl, jj, rfl⟩
      refine ⟨_, rfl, _, .inl ⟨_, SqL.of jj.q1, rfl⟩, ?_⟩
      cases ps' with
      | nil =>
        refine iteF ?_
        refine q H3 ops jj.tk jj.fr jj.tb fun p e x hx hst => ?_
        rw [ep] at e
        cases e
        rcases jj.q6 x hx hst with z | ⟨z, _⟩
        · cases z
        · exact z
      | cons p0 pr =>
        refine iteT ?_
        obtain ⟨tt1, tt2, tt3, tt4⟩ := jj.tb i (d, t) ep
        have tfew : (runT c i ops t).length < U.length + 1 := tb_few tt2 tt4
        refine ⟨fun σ' H' => ∃ (ops' : List Tk) (ps' : PQ) (v6 v7 v8 v9 v10 v11 v12 : Option V), σ' = [some (.ref L), some (.int i), some (.ref D), some (.int c), some (.ref d), some (.ref Qa), v6, v7, v8, v9, v10, v11, v12] ∧ JA H i c U ts lds t Qa ops' ps' H' ∧ ps'.length + (runT c i ops t).length < (p0 :: pr).length + (runT c i ops' t).length, ?_, ?_⟩
        · rintro σ' H' ⟨ops', ps', v6, v7, v8, v9, v10, v11, v12, rfl, j2, hlt⟩
          refine ⟨_, ?_, ops', ps', v6, v7, v8, v9, v10, v11, v12, rfl, j2, rfl⟩
          have : (runT c i ops' t).length < U.length + 1 := tb_few (j2.tb i (d, t) ep).2.1 (j2.tb i (d, t) ep).2.2.2
          omega
        · refine ⟨_, rfl, Qa, p0 :: pr, rfl, jj.q1, jj.q2, by simp, jj.q3, fun pw qs' hperm hheap hmin => ?_⟩
          have pwm : pw ∈ p0 :: pr := hperm.mem_iff.mp List.mem_cons_self
          have qn := jj.q4
          rw [← (hperm.map (·.2)).nodup_iff] at qn
          obtain ⟨qn1, qn2⟩ := List.nodup_cons.mp qn
          have qlen : qs'.length + 1 = (p0 :: pr).length := hperm.length_eq
          have et := jj.q2 pw pwm
          have netQ : pw.1 ≠ Qa := ne_of et jj.q1 (by intro z; cases z)
          have et' : (upd H3 Qa (.lst (qs'.map fun p => V.ref p.1))) pw.1 = some (.tup [.int (-(pw.2.length : Int)), .str pw.2]) := by
            rw [upd_ne netQ]
            exact et
          refine ⟨pw.1, _, rfl, .inl (.inl et'), rfl, ?_⟩
          refine ⟨_, _, rfl, _, _, rfl, rfl, ?_⟩
          obtain ⟨pk, pst⟩ := jj.q5 pw pwm
          have tx := tt4 pw.2 pk
          have ndQ : d ≠ Qa := fun z => nQt (z ▸ (List.mem_map.mpr ⟨(d, t), hp, rfl⟩ : d ∈ ts.map (·.1)))
          have td : (upd H3 Qa (.lst (qs'.map fun p => V.ref p.1))) d = some (.dK (kv (runT c i ops t))) := by
            rw [upd_ne ndQ]
            exact tt1
          refine ⟨_, rfl, _, rfl, d, .int (num (runT c i ops t) pw.2), rfl, .inl ⟨_, Sum.inr pw.2, .inl td, rfl, by rw [valV_yes (has_iff.mpr pk)]⟩, _, rfl, ?_⟩
          have fr4 : ∀ a o, H a = some o → a ∉ ts.map (·.1) → (upd H3 Qa (.lst (qs'.map fun p => V.ref p.1))) a = some o := fun a o e na => by
            rw [upd_ne (ne_of_none e hQ0)]
            exact jj.fr a o e na
          have tb4 : ∀ (j : Nat) p, ts[j]? = some p → (upd H3 Qa (.lst (qs'.map fun p => V.ref p.1))) p.1 = some (.dK (kv (runT c j ops p.2))) ∧ Nd (runT c j ops p.2) ∧ (∀ q ∈ runT c j ops p.2, 0 ≤ q.2 ∧ q.2 < c) ∧ Wd U (runT c j ops p.2) := fun j p e => by
            obtain ⟨z1, z2⟩ := jj.tb j p e
            refine ⟨?_, z2⟩
            rw [upd_ne (ne_of_none (ra.ht p (List.mem_of_getElem? e)) hQ0)]
            exact z1
          have qq1 : (upd H3 Qa (.lst (qs'.map fun p => V.ref p.1))) Qa = some (.lst (qs'.map fun p => V.ref p.1)) := upd_same
          have qm : ∀ r ∈ qs', r ∈ p0 :: pr := fun r hr => hperm.mem_iff.mp (List.mem_cons_of_mem _ hr)
          have qq2 : QAt (upd H3 Qa (.lst (qs'.map fun p => V.ref p.1))) qs' := fun r hr => by
            have := jj.q2 r (qm r hr)
            rw [upd_ne (ne_of this jj.q1 (by intro z; cases z))]
            exact this
          generalize upd H3 Qa (.lst (qs'.map fun p => V.ref p.1)) = H4 at et' td fr4 tb4 qq1 qq2 ⊢
          have old : ∀ x ∈ (runT c i ops t).map (·.1), (startOf (lds.map (·.1)) x).isSome = true → x = pw.2 ∨ x ∈ qs'.map (·.2) ∨ (num (runT c i ops t) x = 0 ∧ leR x pw.2 = true ∧ ∀ p ∈ qs', leR x p.2 = true) := fun x hx hst => by
            rcases jj.q6 x hx hst with z | ⟨z1, z2⟩
            · have z' : x ∈ (pw :: qs').map (·.2) := (hperm.map (·.2)).mem_iff.mpr z
              rcases List.mem_cons.mp z' with z | z
              · exact .inl z
              · exact .inr (.inl z)
            · exact .inr (.inr ⟨z1, z2 pw pwm, fun p hp => z2 p (qm p hp)⟩)
          by_cases hn0 : num (runT c i ops t) pw.2 = 0
          · rw [hn0]
            refine iteF ⟨ops, qs', _, _, _, _, _, _, _, rfl, ⟨jj.tk, fr4, tb4, qq1, qq2, hheap, qn2, fun r hr => jj.q5 r (qm r hr), fun x hx hst => ?_⟩, by omega⟩
            rcases old x hx hst with z | z | ⟨z1, _, z3⟩
            · subst z
              exact .inr ⟨hn0, hmin⟩
            · exact .inl z
            · exact .inr ⟨z1, z3⟩
          · rw [show (num (runT c i ops t) pw.2 != 0) = true by simpa using hn0]
            refine iteT ?_
            obtain ⟨sx, es⟩ := Option.isSome_iff_exists.mp pst
            obtain ⟨hsw, k, hk1, hk2⟩ := startOf_some es
            have hlx : pw.2.length ≤ 1000 := Nat.le_trans (ra.cl.wl _ tx).2 ra.cl.m
            have hD4 := fr4 _ _ ra.hD ra.hDn
            refine ⟨_, rfl, _, rfl, pw.2, D, _, _, rfl, by omega, hD4, hkeys, ?_⟩
            rw [es]
            have hsl : sx.length = k := by rw [hk2, cut_len hk1]
            refine ⟨_, rfl, _, rfl, sx, rfl, by omega, _, rfl, pw.2, rfl, by omega, ?_⟩
            rw [hsl]
            have hb : sx ++ cutS pw.2 (some (k : Int)) none = pw.2 := by rw [hk2, cut_both hk1]
            generalize cutS pw.2 (some (k : Int)) none = b at hb ⊢
            obtain ⟨q, hq, hqs, hqv⟩ := lead_get hsw
            obtain ⟨hC, hCl, hql⟩ := ra.col q hq
            have hCn : q.2.1 ∉ ts.map (·.1) := fun z => by
              obtain ⟨p, hp', e⟩ := List.mem_map.mp z
              have := ra.ht p hp'
              rw [e, hC] at this
              cases this
            have hLn : L ∉ ts.map (·.1) := fun z => by
              obtain ⟨p, hp', e⟩ := List.mem_map.mp z
              have := ra.ht p hp'
              rw [e, ra.hL] at this
              cases this
            have hC4 := fr4 _ _ hC hCn
            have hiu : i < q.2.2.length := by rw [hCl]; exact ra.hi
            obtain ⟨u, eu⟩ : ∃ u, q.2.2[i]? = some u := ⟨q.2.2[i]'hiu, List.getElem?_eq_getElem hiu⟩
            have hum := List.mem_of_getElem? eu
            obtain ⟨hu1, hu2, hu3, hu4, hu5⟩ := ra.pc q hq u hum
            have hled : Led c sx u.2 := hqs ▸ ra.led q hq u eu
            have hu4' := fr4 _ _ hu1 hu2
            have ndu : d ≠ u.1 := fun z => hu2 (z ▸ (List.mem_map.mpr ⟨(d, t), hp, rfl⟩ : d ∈ ts.map (·.1)))
            have nDu : D ≠ u.1 := fun z => by
              have h1 := ra.hD
              rw [z, hu1] at h1
              injection h1 with h1
              injection h1 with h1
              have h2 : ((Sum.inr q.1 : Key), V.ref q.2.1) ∈ kv u.2 := by
                rw [h1]
                exact List.mem_map.mpr ⟨q, hq, rfl⟩
              obtain ⟨r, _, e⟩ := List.mem_map.mp h2
              have e2 := (Prod.mk.inj e).2
              cases e2
            have nCu : q.2.1 ≠ u.1 := ne_of hC hu1 (by intro z; cases z)
            have hbx : xyz b := xyz_tail (hb ▸ (ra.cl.wl _ tx).1)
            have hbl : b.length ≤ 1000 := by
              have := app_len sx b
              rw [hb] at this
              omega
            refine ⟨u.1, .dK (kv u.2), hu4', trivial, fun od2 => ?_⟩
            refine ⟨_, rfl, _, rfl, D, .ref q.2.1, rfl, .inl ⟨_, Sum.inr sx, .inl (by rw [upd_ne nDu]; exact hD4), rfl, hqv.symm⟩, _, rfl, q.2.1, _, i, .ref u.1, rfl, rfl, SqL.of (by rw [upd_ne nCu]; exact hC4), atI_nat (by rw [List.getElem?_map, eu]; rfl), u.1, od2, rfl, .inl ⟨kv u.2, upd_same, fun Fa hFa => ?_⟩⟩
            have nFu : Fa ≠ u.1 := fun e => by
              rw [e, upd_same] at hFa
              cases hFa
            have hFa0 : H4 Fa = none := by
              rw [upd_ne nFu] at hFa
              exact hFa
            have nFd : d ≠ Fa := ne_of_none td hFa0
            refine lc_it walk_keys (fun k H' => H' Fa = some (.lst (((newW b (u.2.take k) (runT c i ops t))).map V.str)) ∧ But u.1 H4 H' ∧ H' u.1 = some (.frz od2 (.dK (kv u.2))))
              ⟨upd_same, ?_, ?_⟩ (fun i H' _ hP => hP.2.2) ?_ ?_
            · intro a o e n
              rw [upd_ne (ne_of_none e hFa0), upd_ne n]
              exact e
            · rw [upd_ne nFu.symm]
              exact upd_same
            · rintro k x H5 H6 hi ⟨p1, p5, p6⟩ ⟨rfl, kk, v, e, rfl⟩
              obtain ⟨r, er, rfl, rfl⟩ := kv_at e
              rw [kv_len] at hi
              have hr1' := hu5 r (List.mem_of_getElem? er)
              have hwl : r.1.length + b.length ≤ sizeLine := by omega
              have td5 := p5 _ _ td ndu
              have enew : newW b (u.2.take (k + 1)) (runT c i ops t) = newW b (u.2.take k) (runT c i ops t) ++ [r.1 ++ b].filter fun x => !has (runT c i ops t) x := by
                unfold newW
                rw [List.take_add_one, er, List.map_append, List.filter_append]
                rfl
              refine ⟨rfl, ?_⟩
              refine ⟨_, rfl, _, rfl, _, _, rfl, rfl, hwl, _, rfl, d, _, rfl, .inl ⟨_, Sum.inr (r.1 ++ b), .inl td5, rfl, rfl⟩, ?_⟩
              cases hh : has (runT c i ops t) (r.1 ++ b) with
              | true =>
                rw [valV_yes hh]
                refine ⟨_, rfl, iteF ⟨?_, p5, p6⟩⟩
                rw [p1, enew]
                simp [hh]
              | false =>
                rw [show valV (kv (runT c i ops t)) (Sum.inr (r.1 ++ b)) = none from (valV_no hh).1]
                refine ⟨_, rfl, iteT ?_⟩
                refine ⟨_, rfl, _, rfl, _, _, rfl, rfl, hwl, ?_⟩
                have fl : (newW b (u.2.take k) (runT c i ops t)).length ≤ k := by
                  unfold newW
                  refine Nat.le_trans (List.length_filter_le _ _) ?_
                  rw [List.length_map, List.length_take]
                  omega
                refine ⟨_, p1, by rw [List.length_map]; omega, ?_, ?_, ?_⟩
                · rw [upd_same, enew]
                  simp [hh]
                · intro a o e n
                  rw [upd_ne (ne_of_none e hFa0)]
                  exact p5 a o e n
                · rw [upd_ne nFu.symm]
                  exact p6
            · rintro H5 ⟨p1, p5, p6⟩
              rw [kv_len, List.take_length] at p1
              refine ⟨p6, ?_⟩
              have f6 : (upd H5 u.1 (.dK (kv u.2))) Fa = some (.lst ((newW b u.2 (runT c i ops t)).map V.str)) := by
                rw [upd_ne nFu]
                exact p1
              have s6 : Same H4 (upd H5 u.1 (.dK (kv u.2))) := fun a o e => by
                by_cases n : a = u.1
                · rw [n, upd_same, ← hu4', ← n, e]
                · rw [upd_ne n]
                  exact p5 a o e n
              generalize upd H5 u.1 (.dK (kv u.2)) = H6 at f6 s6 ⊢
              clear p1 p5 p6
              have fr6 : ∀ a o, H a = some o → a ∉ ts.map (·.1) → H6 a = some o := fun a o e na => s6 _ _ (fr4 a o e na)
              have tb6 := fun (j : Nat) p (e : ts[j]? = some p) => (⟨s6 _ _ (tb4 j p e).1, (tb4 j p e).2⟩ : H6 p.1 = some (.dK (kv (runT c j ops p.2))) ∧ Nd (runT c j ops p.2) ∧ (∀ q ∈ runT c j ops p.2, 0 ≤ q.2 ∧ q.2 < c) ∧ Wd U (runT c j ops p.2))
              have td6 := s6 _ _ td
              have pow : U.length + 1 ≤ 1594323 := by have := ra.cl.len; omega
              refine ⟨_, rfl, _, rfl, _, rfl, D, .ref q.2.1, rfl, .inl ⟨_, Sum.inr sx, .inl (fr6 _ _ ra.hD ra.hDn), rfl, hqv.symm⟩, _, rfl, _, rfl, d, .int (num (runT c i ops t) pw.2), rfl, .inl ⟨_, Sum.inr pw.2, .inl td6, rfl, by rw [valV_yes (has_iff.mpr pk)]⟩, _, rfl, _, rfl, ?_⟩
              refine ⟨L, q.2.1, num (runT c i ops t) pw.2, b, c, cur c ops ts, q.2.2, rfl, ?_, fun H7 fr7 tb7 => ?_⟩
              · have cm : (cur c ops ts).map (·.1) = ts.map (·.1) := cur_map (f := fun a => a)
                exact {
                  hc := ra.hc
                  hc7 := ra.hc7
                  hb := by omega
                  hL := by rw [cur_map (f := V.ref)]; exact fr6 _ _ ra.hL hLn
                  hC := fr6 _ _ hC hCn
                  len := by
                    unfold cur
                    rw [List.length_mapIdx, hCl]
                  nd := by rw [cm]; exact ra.nd
                  ht := fun p hp => by
                    obtain ⟨j, p', e1, rfl⟩ := cur_mem hp
                    obtain ⟨z1, z2, z3, z4⟩ := tb6 j p' e1
                    have : (runT c j ops p'.2).length < U.length + 1 := tb_few z2 z4
                    exact ⟨z1, by show (runT c j ops p'.2).length ≤ _; omega⟩
                  hu := fun p hp => by
                    obtain ⟨z1, z2, z3, z4, z5⟩ := ra.pc q hq p hp
                    exact ⟨fr6 _ _ z1 z2, by rw [cm]; exact z2, fun r hr => ⟨(z3 r hr).1, (z3 r hr).2, Nat.le_trans (z5 r hr).2 hql⟩, z4⟩ }
              · have cm : (cur c ops ts).map (·.1) = ts.map (·.1) := cur_map (f := fun a => a)
                rw [cm] at fr7
                have fr7' : ∀ a o, H a = some o → a ∉ ts.map (·.1) → H7 a = some o := fun a o e na => fr7 _ _ (fr6 a o e na) na
                have hn1 : 0 ≤ num (runT c i ops t) pw.2 ∧ num (runT c i ops t) pw.2 < c := num_rg ra.hc tt3 _
                generalize hnn : num (runT c i ops t) pw.2 = n at hn1 tb7 hn0
                have run2 : ∀ (j : Nat) (t' : Tb) (p : Addr × Tb), q.2.2[j]? = some p → runT c j (ops ++ [⟨q, b, n⟩]) t' = takeT c n b p.2 (runT c j ops t') := fun j t' p e => by
                  rw [runT_snoc]
                  unfold opT
                  show (match q.2.2[j]? with | some p => takeT c n b p.2 (runT c j ops t') | none => runT c j ops t') = _
                  rw [e]
                have hsbm : sx ++ b ∈ U := by rw [hb]; exact tx
                have tbN : ∀ (j : Nat) p, ts[j]? = some p → H7 p.1 = some (.dK (kv (runT c j (ops ++ [⟨q, b, n⟩]) p.2))) ∧ Nd (runT c j (ops ++ [⟨q, b, n⟩]) p.2) ∧ (∀ q_1 ∈ runT c j (ops ++ [⟨q, b, n⟩]) p.2, 0 ≤ q_1.2 ∧ q_1.2 < c) ∧ Wd U (runT c j (ops ++ [⟨q, b, n⟩]) p.2) := fun j p e => by
                  have hjl : j < q.2.2.length := by rw [hCl]; exact (List.getElem?_eq_some_iff.mp e).1
                  obtain ⟨pj, ej⟩ : ∃ p, q.2.2[j]? = some p := ⟨q.2.2[j]'hjl, List.getElem?_eq_getElem hjl⟩
                  obtain ⟨z1, z2, z3, z4⟩ := tb6 j p e
                  rw [run2 j p.2 pj ej]
                  refine ⟨tb7 j (p.1, runT c j ops p.2) pj (by rw [cur_at, e]; rfl) ej, takeT_nd _ _ z2, takeT_rg ra.hc _ _ z3, take_wd z4 fun r hr => ra.cl.cl q hq pj (List.mem_of_getElem? ej) r hr b (by rw [hqs]; exact hsbm)⟩
                have enew := run2 i t u eu
                obtain ⟨k1, k2, k3, k4⟩ := tbN i (d, t) ep
                have k4' : Wd U (runT c i (ops ++ [⟨q, b, n⟩]) t) := k4
                rw [enew] at k4'
                have nFt : Fa ∉ ts.map (·.1) := fun z => by
                  obtain ⟨p, hp', e⟩ := List.mem_map.mp z
                  obtain ⟨j, ej⟩ := List.getElem?_of_mem hp'
                  have := (tb4 j p ej).1
                  rw [e, hFa0] at this
                  cases this
                have nFQ : Fa ≠ Qa := fun z => by
                  rw [z, qq1] at hFa0
                  cases hFa0
                have f7 := fr7 _ _ f6 nFt
                have tupN : ∀ {a : Addr} {xs : List V}, H4 a = some (.tup xs) → a ∉ ts.map (·.1) := fun {a xs} e z => by
                  obtain ⟨p, hp', e2⟩ := List.mem_map.mp z
                  obtain ⟨j, ej⟩ := List.getElem?_of_mem hp'
                  have := (tb4 j p ej).1
                  rw [e2, e] at this
                  cases this
                generalize hfs : newW b u.2 (runT c i ops t) = fs at f7
                have fsm : ∀ x, x ∈ fs ↔ (∃ r ∈ u.2, r.1 ++ b = x) ∧ x ∉ (runT c i ops t).map (·.1) := fun x => by rw [← hfs, newW_mem]
                have fsn : fs.Nodup := hfs ▸ newW_nd hled.nd
                have fsl : (runT c i ops t).length + fs.length ≤ (takeT c n b u.2 (runT c i ops t)).length := hfs ▸ newW_len hled.nd tt2
                have knew : ∀ x, x ∈ (takeT c n b u.2 (runT c i ops t)).map (·.1) ↔ x ∈ (runT c i ops t).map (·.1) ∨ x ∈ fs := fun x => by
                  rw [takeT_key, fsm]
                  by_cases z : x ∈ (runT c i ops t).map (·.1) <;> simp [z]
                have fsx : ∀ x ∈ fs, x.length ≤ 1000 := fun x hx => Nat.le_trans (ra.cl.wl _ (k4' x ((knew x).mpr (.inr hx)))).2 ra.cl.m
                have tfew2 : (takeT c n b u.2 (runT c i ops t)).length < U.length + 1 := by
                  have := tb_few k2 k4
                  rw [show runT c i (ops ++ [⟨q, b, n⟩]) (d, t).2 = _ from enew] at this
                  exact this
                have qk : ∀ r ∈ qs', r.2 ∈ (runT c i ops t).map (·.1) := fun r hr => (jj.q5 r (qm r hr)).1
                have qsl : qs'.length ≤ (runT c i ops t).length := by
                  have := List.Nodup.length_le_of_subset (l₂ := (runT c i ops t).map (·.1)) qn2 (fun x hx => by
                    obtain ⟨r, hr, rfl⟩ := List.mem_map.mp hx
                    exact qk r hr)
                  rw [List.length_map, List.length_map] at this
                  exact this
                refine ⟨_, rfl, Fa, rfl, ⟨_, SqL.of f7⟩, ?_⟩
                refine for_it (walk_list (xs := fs.map V.str)) (fun j σ H' => (∃ v6 v7 v8 v9 v10 v11 v12 : Option V, σ = [some (.ref L), some (.int i), some (.ref D), some (.int c), some (.ref d), some (.ref Qa), v6, v7, v8, v9, v10, v11, v12]) ∧
                    ∃ psj : PQ, H' Qa = some (.lst (psj.map fun p => V.ref p.1)) ∧ QAt H' psj ∧ HpL (psj.map (·.2)) ∧ (psj.map (·.2)).Nodup ∧ (∀ x, x ∈ psj.map (·.2) ↔ x ∈ qs'.map (·.2) ∨ (x ∈ fs.take j ∧ (startOf (lds.map (·.1)) x).isSome = true)) ∧ psj.length ≤ qs'.length + j ∧ ∀ a o, H7 a = some o → a ≠ Qa → H' a = some o)
                  ⟨⟨_, _, _, _, _, _, _, rfl⟩, qs', fr7 _ _ (s6 _ _ qq1) nQt, fun r hr => fr7 _ _ (s6 _ _ (qq2 r hr)) (tupN (qq2 r hr)), hheap, qn2, fun x => by simp, by omega, fun a o e _ => e⟩
                  (fun j σ H' _ hP => by
                    obtain ⟨_, psj, _, _, _, _, _, _, z⟩ := hP
                    exact SqL.of (z _ _ f7 nFQ)) ?_ ?_
                · rintro j x σ H8 H9 hj ⟨⟨v6, v7, v8, v9, v10, v11, v12, rfl⟩, psj, g1, g2, g3, g4, g5, g6, g7⟩ ⟨rfl, ex⟩
                  rw [List.getElem?_map] at ex
                  obtain ⟨wj, ewj, rfl⟩ := Option.map_eq_some_iff.mp ex
                  rw [List.length_map] at hj
                  have hwm := List.mem_of_getElem? ewj
                  have hwl := fsx wj hwm
                  have etk : fs.take (j + 1) = fs.take j ++ [wj] := by
                    rw [List.take_add_one, ewj]
                    rfl
                  have nDQ : D ≠ Qa := fun z => by
                    have h1 := ra.hD
                    rw [z, hQ0] at h1
                    cases h1
                  refine ⟨_, rfl, _, rfl, wj, D, _, _, rfl, by omega, g7 _ _ (fr7' _ _ ra.hD ra.hDn) nDQ, hkeys, ?_⟩
                  cases es2 : startOf (lds.map (·.1)) wj with
                  | none =>
                    refine ⟨_, rfl, iteF ⟨⟨_, _, _, _, _, _, _, rfl⟩, psj, g1, g2, g3, g4, fun x => ?_, by omega, g7⟩⟩
                    rw [g5, etk, List.mem_append, List.mem_singleton]
                    constructor
                    · rintro (z | ⟨z1, z2⟩)
                      · exact .inl z
                      · exact .inr ⟨.inl z1, z2⟩
                    · rintro (z | ⟨z1 | z1, z2⟩)
                      · exact .inl z
                      · exact .inr ⟨z1, z2⟩
                      · rw [z1, es2] at z2
                        cases z2
                  | some s2 =>
                    refine ⟨_, rfl, iteT ?_⟩
                    refine ⟨_, rfl, _, rfl, wj, rfl, by omega, fun tp htp => ?_⟩
                    have ntQ : Qa ≠ tp := ne_of_none g1 htp
                    have gq : QAt (upd H9 tp (.tup [.int (-(wj.length : Int)), .str wj])) (psj ++ [(tp, wj)]) := fun r hr => by
                      rcases List.mem_append.mp hr with hr | hr
                      · have := g2 r hr
                        rw [upd_ne (ne_of_none this htp)]
                        exact this
                      · have : r = (tp, wj) := by simpa using hr
                        subst this
                        exact upd_same
                    have g1' : (upd H9 tp (.tup [.int (-(wj.length : Int)), .str wj])) Qa = some (.lst (psj.map fun p => V.ref p.1)) := by
                      rw [upd_ne ntQ]
                      exact g1
                    refine ⟨Qa, tp, wj, psj, rfl, g1', gq, by omega, g3, fun q2 hperm2 hheap2 => ?_⟩
                    have hmem : ∀ x, x ∈ q2.map (·.2) ↔ x ∈ psj.map (·.2) ∨ x = wj := fun x => by
                      rw [(hperm2.map (·.2)).mem_iff, List.map_append, List.mem_append]
                      simp
                    refine ⟨⟨_, _, _, _, _, _, _, rfl⟩, q2, upd_same, fun r hr => ?_, hheap2, ?_, fun x => ?_, ?_, fun a o e na => ?_⟩
                    · have := gq r (hperm2.mem_iff.mp hr)
                      rw [upd_ne (ne_of this g1' (by intro z; cases z))]
                      exact this
                    · rw [(hperm2.map (·.2)).nodup_iff, List.map_append]
                      refine List.nodup_append.mpr ⟨g4, by simp, fun a ha b' hb' e => ?_⟩
                      have hb2 : b' = wj := by simpa using hb'
                      subst e
                      subst hb2
                      rcases (g5 _).mp ha with z | ⟨z, _⟩
                      · obtain ⟨r, hr, e⟩ := List.mem_map.mp z
                        exact ((fsm _).mp hwm).2 (e ▸ qk r hr)
                      · have hnd : (fs.take (j + 1)).Nodup := List.Nodup.sublist (List.take_sublist _ _) fsn
                        rw [etk] at hnd
                        exact (List.nodup_append.mp hnd).2.2 _ z _ (by simp) rfl
                    · rw [hmem, g5, etk, List.mem_append, List.mem_singleton]
                      constructor
                      · rintro ((z | ⟨z1, z2⟩) | z)
                        · exact .inl z
                        · exact .inr ⟨.inl z1, z2⟩
                        · subst z
                          exact .inr ⟨.inr rfl, by rw [es2]; rfl⟩
                      · rintro (z | ⟨z1 | z1, z2⟩)
                        · exact .inl (.inl z)
                        · exact .inl (.inr ⟨z1, z2⟩)
                        · exact .inr z1
                    · have := hperm2.length_eq
                      rw [List.length_append] at this
                      have h1 : ([(tp, wj)] : PQ).length = 1 := rfl
                      omega
                    · rw [upd_ne na, upd_ne (ne_of_none (g7 a o e na) htp)]
                      exact g7 a o e na
                · rintro σ H8 ⟨⟨v6, v7, v8, v9, v10, v11, v12, rfl⟩, psj, g1, g2, g3, g4, g5, g6, g7⟩
                  rw [List.length_map, List.take_length] at g5
                  rw [List.length_map] at g6
                  have dsQ : ∀ p ∈ ts, p.1 ≠ Qa := fun p hp' z => nQt (z ▸ List.mem_map.mpr ⟨p, hp', rfl⟩)
                  refine ⟨ops ++ [⟨q, b, n⟩], psj, _, _, _, _, _, _, _, rfl, ?_, by rw [enew]; omega⟩
                  exact {
                    tk := fun o ho => by
                      rcases List.mem_append.mp ho with ho | ho
                      · exact jj.tk o ho
                      · have : o = ⟨q, b, n⟩ := by simpa using ho
                        subst this
                        exact hq
                    fr := fun a o e na => g7 _ _ (fr7' a o e na) (fun z => by rw [z, hQ0] at e; cases e)
                    tb := fun j p e => ⟨g7 _ _ (tbN j p e).1 (dsQ p (List.mem_of_getElem? e)), (tbN j p e).2⟩
                    q1 := g1
                    q2 := g2
                    q3 := g3
                    q4 := g4
                    q5 := fun r hr => by
                      rw [enew]
                      rcases (g5 r.2).mp (List.mem_map.mpr ⟨r, hr, rfl⟩) with z | ⟨z1, z2⟩
                      · obtain ⟨r', hr', e⟩ := List.mem_map.mp z
                        exact ⟨(knew _).mpr (.inl (e ▸ qk r' hr')), e ▸ (jj.q5 r' (qm r' hr')).2⟩
                      · exact ⟨(knew _).mpr (.inr z1), z2⟩
                    q6 := fun x hx hst => by
                      rw [enew] at hx ⊢
                      have ahead : ∀ y ∈ fs, leR pw.2 y = true := fun y hy => by
                        obtain ⟨⟨r, hr, e⟩, _⟩ := (fsm y).mp hy
                        have := leR_app_r (z := b) (hled.behind r hr)
                        rw [hb, e] at this
                        exact this
                      have all : ∀ y, leR y pw.2 = true → (∀ p ∈ qs', leR y p.2 = true) → ∀ p ∈ psj, leR y p.2 = true := fun y h1 h2 p hp => by
                        rcases (g5 p.2).mp (List.mem_map.mpr ⟨p, hp, rfl⟩) with z | ⟨z1, z2⟩
                        · obtain ⟨r', hr', e⟩ := List.mem_map.mp z
                          rw [← e]
                          exact h2 r' hr'
                        · exact leR_trans h1 (ahead _ z1)
                      have refl' : leR pw.2 pw.2 = true := by
                        rcases leR_total.total pw.2 pw.2 with z | z <;> exact z
                      have zero : num (takeT c n b u.2 (runT c i ops t)) pw.2 = 0 := by
                        have := take_lead (n := n) (b := b) ra.hc hled tt3 (by rw [hb]; exact hnn.symm)
                        rw [hb] at this
                        exact this
                      rcases (knew x).mp hx with z | z
                      · rcases old x z hst with y | y | ⟨y1, y2, y3⟩
                        · subst y
                          exact .inr ⟨zero, all _ refl' hmin⟩
                        · exact .inl ((g5 x).mpr (.inl y))
                        · by_cases hxw : x = pw.2
                          · subst hxw
                            exact .inr ⟨zero, all _ refl' hmin⟩
                          · refine .inr ⟨?_, all _ y2 y3⟩
                            rw [take_ahead (n := n) (b := b) ra.hc hled tt3 (by rw [hb]; exact y2) (by rw [hb]; exact hxw)]
                            exact y1
                      · exact .inl ((g5 x).mpr (.inr ⟨z, hst⟩)) }
end
end Fp

set_option Elab.async false
set_option linter.all false
set_option maxRecDepth 100000
set_option maxHeartbeats 4000000
namespace Fp
open PySem PySem.Spec PyProof.Rows L2
/-- what is asked of a column, of leads at its first place, and of their columns -/
structure RC (H : Hp) (Co B D : Addr) (es : List Addr) (c : Int) (M : Nat) (U : List Str) (ts : At) (lds : List Lead) : Prop where
  hc : 0 < c
  hc7 : c ≤ 7
  cl : Cl lds M U
  hCo : H Co = some (.lst (ts.map fun p => V.ref p.1))
  hB : H B = some (.lst (V.ref D :: es.map V.ref))
  len : ts.length = es.length + 1
  few' : ts.length ≤ 1000
  hes : ∀ e ∈ es, H e = some (.dK [])
  ne : lds ≠ []
  hD : H D = some (.dK (lds.map fun q => ((Sum.inr q.1 : Key), V.ref q.2.1)))
  ht : ∀ p ∈ ts, H p.1 = some (.dK (kv p.2)) ∧ p.2.length ≤ 2500
  tg : ∀ p ∈ ts, Nd p.2 ∧ (∀ q ∈ p.2, 0 ≤ q.2 ∧ q.2 < c) ∧ Wd U p.2
  col : ∀ q ∈ lds, H q.2.1 = some (.lst (q.2.2.map fun p => V.ref p.1)) ∧ q.2.2.length = ts.length ∧ q.1.length ≤ 1000
  pc : ∀ q ∈ lds, ∀ p ∈ q.2.2, H p.1 = some (.dK (kv p.2)) ∧ (∀ r ∈ p.2, 1 ≤ r.2 ∧ r.2 < c) ∧ p.2.length ≤ 1000000 ∧ ∀ r ∈ p.2, xyz r.1 ∧ r.1.length ≤ q.1.length
  led : ∀ q ∈ lds, ∀ p, q.2.2[0]? = some p → Led c q.1 p.2
theorem allW_half : ∀ m, 2 * (allW m).length + 1 = 3 ^ (m + 1)
  | 0 => by decide
  | m + 1 => by
    have h := allW_half m
    have e : (allW (m + 1)).length = 3 * (allW m).length + 1 := by
      show ((("" : Str) :: (allW m).flatMap thr : List Str)).length = _
      rw [List.length_cons, flat3]
    have e2 : 3 ^ (m + 1 + 1) = 3 * 3 ^ (m + 1) := by rw [Nat.pow_succ, Nat.mul_comm]
    rw [e, e2]
    omega
theorem tb_half {U : List Str} {t : Tb} (h : Nd t) (hw : Wd U t) : t.length ≤ U.length := Nat.le_of_lt_succ (tb_few h hw)
theorem back_none8 {H H1 : Hp} {p : Addr} (k : Same H H1) (h : H1 p = none) : H p = none := by
  cases e : H p with
  | none => rfl
  | some o =>
    rw [k _ _ e] at h
    cases h
section
variable {P : Program} {w : World} {K : PySem.W.Frag} {mg : Str → Option Value} {base : Heap}
def spRed : Sp := fun vs H Q _ => ∃ (Co B D : Addr) (es : List Addr) (c : Int) (M : Nat) (U : List Str) (ts : At) (lds : List Lead), vs = [.ref Co, .ref B, .int c] ∧ RC H Co B D es c M U ts lds ∧
  ∀ (H' : Hp) (r : Addr) (rs : List Addr) (ops : List Tk), Same H H' → H r = none → H' r = some (.lst (rs.map V.ref)) → rs.length = ts.length → rs.Nodup → (∀ a ∈ rs, H a = none) →
    (∀ (j : Nat) p a, ts[j]? = some p → rs[j]? = some a → H' a = some (.dK (kv (tidyM c (runT c j ops p.2)))) ∧ Nd (runT c j ops p.2) ∧ (∀ q ∈ runT c j ops p.2, 0 ≤ q.2 ∧ q.2 < c) ∧ Wd U (runT c j ops p.2)) →
    (∀ o ∈ ops, o.q ∈ lds) → (∀ p, ts[0]? = some p → ∀ x ∈ (runT c 0 ops p.2).map (·.1), (startOf (lds.map (·.1)) x).isSome = true → num (runT c 0 ops p.2) x = 0) → Q (.ref r) H'
abbrev nRed : List Str := ["column", "basis", "clock", "left", "place", "table"]
theorem sc_Red : FnScope nRed ["column", "basis", "clock"] (defScope s_reduced) := ⟨rfl, rfl, rfl, by decide +kernel, rfl, by decide +kernel, by decide +kernel⟩
theorem ok_Red (T : Top K mg) : Ok P w K mg base 5 "reduced" ["column", "basis", "clock"] spRed := by
  obtain ⟨fd, F⟩ := fn_reduced T
  refine ⟨⟨fd, ?_, F.bindsN fun _ _ _ _ _ _ us hl => match us, hl with | [_, _, _], _ => rfl⟩, g_reduced T, F.kp⟩
  refine F.ok sc_Red (fun vs H Q E h => ?_) (fun cdv A outer s H vs Q E hr h => ?_)
  · obtain ⟨Co, B, D, es, c, M, U, ts, lds, rfl, _⟩ := h
    rfl
  · obtain ⟨Co, B, D, es, c, M, U, ts, lds, rfl, rc, q⟩ := h
    have nd := sc_Red.nd
    have hr1 : Room 1 _ := hr.mono (by decide)
    have hs : sizeLine = 16777216 := sizeLine_eq
    refine ⟨_, PSs.nox (pss_cons (ps_setLc (i := 3) (own := [("table", 5)]) (g := gName 5) (tt := tYes) (by rfl) nd rfl rfl (sw_true rfl rfl rfl (by decide +kernel)) (pi_list (pv 0)) (blkOk_by (N := nRed) (sc := defScope s_reduced) (by decide +kernel))
        (fun _ _ _ _ _ => pg_name (i := 5) nd rfl (Or.inl rfl)) (fun _ _ _ _ _ => pts_nil) (fun _ _ _ _ _ => pe_callTy call_dictD (by rfl) (f_dict T) (by decide +kernel) (pa_cons (pv 5) pa_nil)))
      (pss_cons (ps_for PassesOwn.never rfl (pi_range1 (by rfl) (f_range T) (pa_cons (pe_callB call_len (by rfl) (f_len T) PySem.boot_len (pa_cons (pv 3) pa_nil)) pa_nil)) (pg_name (i := 4) nd rfl (Or.inl rfl))
        (pss_one (ps_if (pt_truth (pe_ix ix_list (pv 1) (pv 4) (fun _ _ => rfl)) (fun _ => rfl)) (pss_one (ps_expr (pc (ok_RA T) hr (pa_cons (pv 3) (pa_cons (pv 4) (pa_cons (pe_ix ix_list (pv 1) (pv 4) (fun _ _ => rfl)) (pa_cons (pv 2) pa_nil))))))) pss_nil)))
      (pss_one (ps_ret (pe_lc (te := tCall spTidied [] E0 (tCons (tVar 5) (tCons (tVar 2) tNil))) (own := [("table", 5)]) (g := gName 5) (tt := tYes) rfl nd (pi_list (pv 3)) (blkOk_by (N := nRed) (sc := defScope s_reduced) (by decide +kernel))
        (fun _ _ _ _ _ => pg_name (i := 5) nd rfl (Or.inl rfl)) (fun _ _ _ _ _ => pts_nil) (fun _ _ _ _ _ => pc (ok_tidied T) hr1 (pa_cons (pv 5) (pa_cons (pv 2) pa_nil)))))))), ?_⟩
    refine ⟨_, rfl, Co, rfl, ⟨_, SqL.of rc.hCo⟩, fun Fa hFa => ?_⟩
    refine lc_it (walk_list (xs := ts.map fun p => V.ref p.1)) (fun k H' => (∃ cp : At, H' Fa = some (.lst (cp.map fun p => V.ref p.1)) ∧ cp.map (·.2) = (ts.take k).map (·.2) ∧ (cp.map (·.1)).Nodup ∧ (∀ p ∈ cp, H p.1 = none ∧ H' p.1 = some (.dK (kv p.2)))) ∧ Same H H')
      ⟨⟨[], upd_same, by simp, by simp, fun p hp => (by cases hp)⟩, same_upd hFa⟩ (fun k H' _ hP => SqL.of (hP.2 _ _ rc.hCo)) ?_ ?_
    · rintro k x H1 H2 hk ⟨⟨cp, p1, p2, p3, p4⟩, p5⟩ ⟨rfl, ex⟩
      rw [List.getElem?_map] at ex
      obtain ⟨p, ep, rfl⟩ := Option.map_eq_some_iff.mp ex
      rw [List.length_map] at hk
      have hpm := List.mem_of_getElem? ep
      have cl : cp.length = k := by
        have := congrArg List.length p2
        rw [List.length_map, List.length_map, List.length_take] at this
        omega
      refine ⟨rfl, ?_⟩
      refine ⟨_, rfl, p.1, kv p.2, rfl, .inl (p5 _ _ (rc.ht p hpm).1), fun Na hN => ?_⟩
      have nNF : Fa ≠ Na := ne_of_none p1 hN
      refine ⟨_, by rw [upd_ne nNF]; exact p1, by rw [List.length_map]; have := rc.few'; omega, ⟨cp ++ [(Na, p.2)], ?_, ?_, ?_, ?_⟩, ?_⟩
      · rw [upd_same, List.map_append]
        rfl
      · rw [List.map_append, p2, List.take_add_one, ep, List.map_append]
        rfl
      · rw [List.map_append]
        refine List.nodup_append.mpr ⟨p3, by simp, fun a ha b hb e => ?_⟩
        have hb2 : b = Na := by simpa using hb
        subst e
        subst hb2
        obtain ⟨r, hr', e⟩ := List.mem_map.mp ha
        have := (p4 r hr').2
        rw [e, hN] at this
        cases this
      · intro r hr'
        rcases List.mem_append.mp hr' with hr' | hr'
        · refine ⟨(p4 r hr').1, ?_⟩
          rw [upd_ne (ne_of (p4 r hr').2 p1 (by intro z; cases z)), upd_ne (ne_of_none (p4 r hr').2 hN)]
          exact (p4 r hr').2
        · have : r = (Na, p.2) := by simpa using hr'
          subst this
          refine ⟨back_none8 p5 hN, ?_⟩
          rw [upd_ne nNF.symm]
          exact upd_same
      · intro a o e
        rw [upd_ne (ne_of_none e hFa), upd_ne (ne_of_none (p5 a o e) hN)]
        exact p5 a o e
    · rintro H1 ⟨⟨cp, p1, p2, p3, p4⟩, p5⟩
      rw [List.length_map, List.take_length] at p2
      have cl : cp.length = ts.length := by
        have := congrArg List.length p2
        rw [List.length_map, List.length_map] at this
        exact this
      have snd : ∀ (j : Nat) (p : Addr × Tb), cp[j]? = some p → ∃ p', ts[j]? = some p' ∧ p'.2 = p.2 := fun j p e => by
        have h1 : (cp.map (·.2))[j]? = some p.2 := by rw [List.getElem?_map, e]; rfl
        rw [p2, List.getElem?_map] at h1
        obtain ⟨p', e1, e2⟩ := Option.map_eq_some_iff.mp h1
        exact ⟨p', e1, e2⟩
      have fresh : ∀ {a : Addr} {o : HO}, H a = some o → a ∉ cp.map (·.1) := fun {a o} e z => by
        obtain ⟨p, hp, e2⟩ := List.mem_map.mp z
        have := (p4 p hp).1
        rw [e2, e] at this
        cases this
      have hFn : Fa ∉ cp.map (·.1) := fun z => by
        obtain ⟨p, hp, e2⟩ := List.mem_map.mp z
        have := (p4 p hp).2
        rw [e2, p1] at this
        cases this
      have ra : RA H1 Fa D 0 c M U cp lds := {
        hc := rc.hc
        hc7 := rc.hc7
        cl := rc.cl
        hL := p1
        hD := p5 _ _ rc.hD
        hDn := fresh rc.hD
        hi := by rw [cl, rc.len]; omega
        nd := p3
        ht := fun p hp => (p4 p hp).2
        tg := fun p hp => by
          obtain ⟨j, e⟩ := List.getElem?_of_mem hp
          obtain ⟨p', e1, e2⟩ := snd j p e
          rw [← e2]
          exact rc.tg p' (List.mem_of_getElem? e1)
        few := fun p e => by
          obtain ⟨p', e1, e2⟩ := snd 0 p e
          rw [← e2]
          exact (rc.ht p' (List.mem_of_getElem? e1)).2
        col := fun q hq => ⟨p5 _ _ (rc.col q hq).1, (rc.col q hq).2.1.trans cl.symm, (rc.col q hq).2.2⟩
        pc := fun q hq p hp => by
          obtain ⟨z1, z2⟩ := rc.pc q hq p hp
          exact ⟨p5 _ _ z1, fresh z1, z2⟩
        led := rc.led }
      refine ⟨_, rfl, .ref Fa, cp.length, rfl, .inl ⟨_, .inl (.inl p1), by rw [List.length_map]⟩, _, rfl, by omega, by have := rc.few'; omega, ?_⟩
      rw [Int.toNat_natCast]
      refine for_it walk_range (fun j σ H' => (∃ v4 v5, σ = [some (.ref Co), some (.ref B), some (.int c), some (.ref Fa), v4, v5]) ∧ ((j = 0 ∧ H' = H1) ∨ (1 ≤ j ∧ ∃ ops : List Tk, (∀ o ∈ ops, o.q ∈ lds) ∧ (∀ a o, H1 a = some o → a ∉ cp.map (·.1) → H' a = some o) ∧
          (∀ (j : Nat) p, cp[j]? = some p → H' p.1 = some (.dK (kv (runT c j ops p.2))) ∧ Nd (runT c j ops p.2) ∧ (∀ q ∈ runT c j ops p.2, 0 ≤ q.2 ∧ q.2 < c) ∧ Wd U (runT c j ops p.2)) ∧
          (∀ p, cp[0]? = some p → ∀ x ∈ (runT c 0 ops p.2).map (·.1), (startOf (lds.map (·.1)) x).isSome = true → num (runT c 0 ops p.2) x = 0))))
        ⟨⟨_, _, rfl⟩, .inl ⟨rfl, rfl⟩⟩ (fun _ _ _ _ _ => trivial) ?_ ?_
      · rintro j x σ H2 H3 hj ⟨⟨v4, v5, rfl⟩, hP⟩ ⟨rfl, rfl⟩
        show gName 4 (V.int (0 + (j : Int))) _ _ _
        rw [Int.zero_add]
        rcases hP with ⟨rfl, rfl⟩ | ⟨hj1, ops, o1, o2, o3, o4⟩
        · refine ⟨_, rfl, _, rfl, B, _, ((0 : Nat) : Int), .ref D, rfl, rfl, SqL.of (p5 _ _ rc.hB), atI_nat (by rfl), _, .inr (.inr ⟨_, p5 _ _ rc.hD, rfl⟩), ?_⟩
          rw [show (!(lds.map fun q => ((Sum.inr q.1 : Key), V.ref q.2.1)).isEmpty) = true by
            cases hl : lds with
            | nil => exact absurd hl rc.ne
            | cons a r => rfl]
          refine iteT ?_
          refine ⟨_, rfl, _, rfl, _, rfl, _, rfl, B, _, ((0 : Nat) : Int), .ref D, rfl, rfl, SqL.of (p5 _ _ rc.hB), atI_nat (by rfl), _, rfl, Fa, D, 0, c, M, U, cp, lds, rfl, ra, fun H' ops o1 o2 o3 o4 => ?_⟩
          exact ⟨⟨_, _, rfl⟩, .inr ⟨Nat.le_refl _, ops, o1, o2, o3, o4⟩⟩
        · obtain ⟨j', rfl⟩ : ∃ j', j = j' + 1 := ⟨j - 1, by omega⟩
          have hjl : j' < es.length := by rw [cl, rc.len] at hj; omega
          obtain ⟨e, ee⟩ : ∃ e, es[j']? = some e := ⟨es[j']'hjl, List.getElem?_eq_getElem hjl⟩
          have hem := List.mem_of_getElem? ee
          have he0 := rc.hes e hem
          have hB2 := o2 _ _ (p5 _ _ rc.hB) (fresh rc.hB)
          refine ⟨_, rfl, _, rfl, B, _, _, .ref e, rfl, rfl, SqL.of hB2, atI_nat (by rw [List.getElem?_cons_succ, List.getElem?_map, ee]; rfl), _, .inr (.inr ⟨[], o2 _ _ (p5 _ _ he0) (fresh he0), rfl⟩), iteF ?_⟩
          exact ⟨⟨_, _, rfl⟩, .inr ⟨by omega, ops, o1, o2, o3, o4⟩⟩
      · rintro σ H2 ⟨⟨v4, v5, rfl⟩, hP⟩
        rcases hP with ⟨h0, _⟩ | ⟨_, ops, o1, o2, o3, o4⟩
        · rw [cl, rc.len] at h0
          omega
        · have s2 : Same H H2 := fun a o e => o2 _ _ (p5 _ _ e) (fresh e)
          have f2 := o2 _ _ p1 hFn
          have pow : U.length ≤ 1000000 := rc.cl.len
          refine ⟨_, rfl, Fa, rfl, ⟨_, SqL.of f2⟩, fun Ra hR => ?_⟩
          refine lc_it (walk_list (xs := cp.map fun p => V.ref p.1)) (fun k H' => (∃ rs : List Addr, H' Ra = some (.lst (rs.map V.ref)) ∧ rs.length = k ∧ rs.Nodup ∧ (∀ a ∈ rs, H2 a = none) ∧ (∀ (j : Nat) p a, cp[j]? = some p → rs[j]? = some a → H' a = some (.dK (kv (tidyM c (runT c j ops p.2)))))) ∧ Same H2 H')
            ⟨⟨[], upd_same, rfl, List.nodup_nil, fun a ha => (by cases ha), fun j p a _ e => (by simp at e)⟩, same_upd hR⟩ (fun k H' _ hP => SqL.of (hP.2 _ _ f2)) ?_ ?_
          · rintro k x H3 H4 hk ⟨⟨rs, r1, r2, r3, r4, r5⟩, r6⟩ ⟨rfl, ex⟩
            rw [List.getElem?_map] at ex
            obtain ⟨p, ep, rfl⟩ := Option.map_eq_some_iff.mp ex
            rw [List.length_map] at hk
            obtain ⟨z1, z2, z3, z4⟩ := o3 k p ep
            have zl : (runT c k ops p.2).length ≤ U.length := tb_half z2 z4
            refine ⟨rfl, ?_⟩
            refine ⟨_, rfl, _, rfl, p.1, c, _, rfl, rc.hc, r6 _ _ z1, z2, by omega, fun H5 Na s5 nN eN => ?_⟩
            have r1' := s5 _ _ r1
            have nNR : Ra ≠ Na := fun z => by
              rw [← z, r1] at nN
              cases nN
            refine ⟨_, r1', by rw [List.length_map]; have := rc.few'; omega, ⟨rs ++ [Na], ?_, ?_, ?_, ?_, ?_⟩, ?_⟩
            · rw [upd_same, List.map_append]
              rfl
            · rw [List.length_append, r2]
              rfl
            · refine List.nodup_append.mpr ⟨r3, by simp, fun a ha b hb e => ?_⟩
              have hb2 : b = Na := by simpa using hb
              subst e
              subst hb2
              obtain ⟨j, ej⟩ := List.getElem?_of_mem ha
              have hjk : j < cp.length := by
                have := (List.getElem?_eq_some_iff.mp ej).1
                omega
              have := r5 j _ _ (List.getElem?_eq_getElem hjk) ej
              rw [nN] at this
              cases this
            · intro a ha
              rcases List.mem_append.mp ha with ha | ha
              · exact r4 a ha
              · have : a = Na := by simpa using ha
                subst this
                exact back_none8 r6 nN
            · intro j p' a e1 e2
              by_cases hjl : j < rs.length
              · rw [List.getElem?_append_left hjl] at e2
                have := s5 _ _ (r5 j p' a e1 e2)
                rw [upd_ne (ne_of this r1' (by intro z; cases z))]
                exact this
              · have hjr : j = rs.length := by
                  have := (List.getElem?_eq_some_iff.mp e2).1
                  rw [List.length_append] at this
                  have h1 : ([Na] : List Addr).length = 1 := rfl
                  omega
                subst hjr
                rw [List.getElem?_append_right (Nat.le_refl _), Nat.sub_self] at e2
                have : Na = a := Option.some.inj e2
                subst this
                rw [r2] at e1 ⊢
                rw [ep] at e1
                cases e1
                rw [upd_ne nNR.symm]
                exact eN
            · intro a o e
              rw [upd_ne (ne_of_none e hR)]
              exact s5 _ _ (r6 a o e)
          · rintro H3 ⟨⟨rs, r1, r2, r3, r4, r5⟩, r6⟩
            rw [List.length_map] at r2
            refine q H3 Ra rs ops (fun a o e => r6 _ _ (s2 _ _ e)) (back_none8 s2 hR) r1 (r2.trans cl) r3 (fun a ha => back_none8 s2 (r4 a ha)) (fun j p a e1 e2 => ?_) o1 (fun p e x hx hst => ?_)
            · have hjl : j < cp.length := by rw [cl]; exact (List.getElem?_eq_some_iff.mp e1).1
              obtain ⟨p', ep'⟩ : ∃ p, cp[j]? = some p := ⟨cp[j]'hjl, List.getElem?_eq_getElem hjl⟩
              obtain ⟨p'', e3, e4⟩ := snd j p' ep'
              rw [e1] at e3
              cases e3
              rw [e4]
              exact ⟨r5 j p' a ep' e2, (o3 j p' ep').2⟩
            · have hjl : 0 < cp.length := by rw [cl, rc.len]; omega
              obtain ⟨p', ep'⟩ : ∃ p, cp[0]? = some p := ⟨cp[0]'hjl, List.getElem?_eq_getElem hjl⟩
              obtain ⟨p'', e3, e4⟩ := snd 0 p' ep'
              rw [e] at e3
              cases e3
              rw [e4] at hx ⊢
              exact o4 p' ep' x hx hst
end
end Fp

set_option Elab.async false
set_option linter.all false
set_option maxRecDepth 100000
set_option maxHeartbeats 4000000
namespace Fp
open PySem PySem.Spec PyProof.Rows L2
/-- a lot of words that dividing by g keeps -/
structure UW (g l : Tb) (M : Nat) (U : List Str) : Prop where
  len : U.length ≤ 1000000
  m : M ≤ 1000
  wl : ∀ x ∈ U, xyz x ∧ x.length ≤ M
  sub : ∀ x ∈ l.map (·.1), x ∈ U
  cl : ∀ h ∈ g.map (·.1), (∀ y ∈ g.map (·.1), leR h y = true) → ∀ b, h ++ b ∈ U → b ∈ U ∧ ∀ y ∈ g.map (·.1), y ++ b ∈ U
/-- the one lead of a dividing -/
def dLead (h : Str) (C a1 a2 : Addr) (c turn : Int) (g : Tb) : Lead := (h, C, [(a1, tidyM c (scl turn g)), (a2, [(("" : Str), c - turn)])])
section
variable {P : Program} {w : World} {K : PySem.W.Frag} {mg : Str → Option Value} {base : Heap}
def spDiv : Sp := fun vs H Q _ => ∃ (d f : Addr) (c : Int) (l g : Tb) (m k mg kg M : Nat) (U : List Str), vs = [.ref d, .ref f, .int c] ∧ isCk c ∧ H d = some (.dK (kv l)) ∧ H f = some (.dK (kv g)) ∧ VT c m k l ∧ VT c mg kg g ∧ k ≤ 2500 ∧ kg ≤ 100000 ∧ mg ≤ 1000 ∧ g ≠ [] ∧ UW g l M U ∧
  ∀ (H' : Hp) (p qo le C a1 a2 : Addr) (ops : List Tk) (h : Str) (turn : Int), Same H H' → H p = none → qo ≠ le → H le = none → H' p = some (.tup [.ref qo, .ref le]) → H' le = some (.dK (kv (tidyM c (runT c 0 ops l)))) → H' qo = some (.dK (kv (tidyM c (runT c 1 ops [])))) →
    h ∈ g.map (·.1) → (∀ y ∈ g.map (·.1), leR h y = true) → (num g h * turn) % c = 1 → 1 ≤ turn → turn < c → (∀ o ∈ ops, o.q = dLead h C a1 a2 c turn g) →
    Nd (runT c 0 ops l) → Wd U (runT c 0 ops l) → Nd (runT c 1 ops []) → Wd U (runT c 1 ops []) →
    (∀ x ∈ (runT c 0 ops l).map (·.1), (startOf [h] x).isSome = true → num (runT c 0 ops l) x = 0) → Q (.ref p) H'
abbrev nDiv : List Str := ["table", "front", "clock", "head", "turn", "column", "left", "quotient"]
theorem sc_Div : FnScope nDiv ["table", "front", "clock"] (defScope s_divided) := ⟨rfl, rfl, rfl, by decide +kernel, rfl, by decide +kernel, by decide +kernel⟩
theorem ok_Div (T : Top K mg) : Ok P w K mg base 6 "divided" ["table", "front", "clock"] spDiv := by
  obtain ⟨fd, F⟩ := fn_divided T
  refine ⟨⟨fd, ?_, F.bindsN fun _ _ _ _ _ _ us hl => match us, hl with | [_, _, _], _ => rfl⟩, g_divided T, F.kp⟩
  refine F.ok sc_Div (fun vs H Q E h => ?_) (fun cdv A outer s H vs Q E hr h => ?_)
  · obtain ⟨d, f, c, l, g, m, k, mg, kg, M, U, rfl, _⟩ := h
    rfl
  · obtain ⟨d, f, c, l, g, m, k, mg, kg, M, U, rfl, hck, hd, hf, vl, vg, hk, hkg, hmg, hne, uw, q⟩ := h
    have nd := sc_Div.nd
    have hu := hu_of hr
    have hr1 : Room 1 _ := hr.mono (by decide)
    have hr2 : Room 2 _ := hr.mono (by decide)
    have hr4 : Room 4 _ := hr.mono (by decide)
    have hs : sizeLine = 16777216 := sizeLine_eq
    obtain ⟨hc2, hc7⟩ := ck_range hck
    refine ⟨_, PSs.nox (pss_cons (ps_set (i := 3) nd rfl (Or.inl rfl) (pc (ok_firstW T) hr4 (pa_cons (pv 1) pa_nil)))
      (pss_cons (ps_set (i := 4) nd rfl (Or.inl rfl) (pc (ok_inverse T) hr1 (pa_cons (pe_dget hu (pv 1) (pv 3) (fun _ _ => rfl)) (pa_cons (pv 2) pa_nil))))
      (pss_cons (ps_set (i := 5) nd rfl (Or.inl rfl) (pe_lst (pa_cons (pc (ok_scaled T) hr2 (pa_cons (pv 1) (pa_cons (pv 4) (pa_cons (pv 2) pa_nil)))) (pa_cons (pe_disp (pps_cons pe_str (pe_op op_sub (pv 2) (pv 4)) pps_nil) (by rfl) (by rfl) (fun z => by cases z) (by decide)) pa_nil))))
      (pss_cons (ps_asg (pc (ok_Red T) hr (pa_cons (pe_lst (pa_cons (pv 0) (pa_cons pe_dnewK pa_nil))) (pa_cons (pe_lst (pa_cons (pe_disp (pps_cons (pv 3) (pv 5) pps_nil) (by rfl) (by rfl) (fun z => by cases z) (by decide)) (pa_cons pe_dnewK pa_nil))) (pa_cons (pv 2) pa_nil)))) (pg_lst rfl (pgs_cons (pg_name (i := 6) nd rfl (Or.inl rfl)) (pgs_cons (pg_name (i := 7) nd rfl (Or.inl rfl)) pgs_nil))))
      (pss_one (ps_ret (pe_tup (pa_cons (pv 7) (pa_cons (pv 6) pa_nil))))))))), ?_⟩
    have gk : (kv g).map (·.1) = (g.map (·.1)).map Sum.inr := by
      unfold kv
      rw [List.map_map, List.map_map]
      rfl
    refine ⟨_, rfl, f, kv g, g.map (·.1), rfl, hf, gk, by simpa using hne, fun x hx => ?_, fun h hh hmin => ?_⟩
    · obtain ⟨p, hp, rfl⟩ := List.mem_map.mp hx
      have := (vg.wd p hp).2
      omega
    refine ⟨_, rfl, _, rfl, f, .int (num g h), rfl, .inl ⟨_, Sum.inr h, .inl hf, rfl, by rw [valV_yes (has_iff.mpr hh)]⟩, _, rfl, num g h, c, rfl, hck, fun turn ht0 htc ht => ?_⟩
    have hgn : 1 ≤ num g h ∧ num g h < c := by
      obtain ⟨p, hp, e⟩ := List.mem_map.mp hh
      obtain ⟨j, ej⟩ := List.getElem?_of_mem hp
      rw [← e, num_of vg.nd ej]
      exact vg.nu p hp
    obtain ⟨ht1, ht2⟩ := ht (by rw [Int.emod_eq_of_lt (by omega) hgn.2]; omega)
    refine ⟨_, rfl, _, rfl, _, rfl, f, turn, c, g, rfl, by omega, by omega, hf, vg.nd, vg.nu, by have := vg.ln; omega, fun H1 a1 s1 n1 e1 => ?_⟩
    refine fun a2 n2 => ⟨_, rfl, _, rfl, _, _, rfl, rfl, upd_same, kv [(("" : Str), c - turn)], rfl, Nat.le_of_ble_eq_true rfl, ?_⟩
    rw [upd_upd, show mergeK [] (kv [(("" : Str), c - turn)]) = kv [(("" : Str), c - turn)] from rfl]
    have s2 := s1.trans (same_upd (o := .dK (kv [(("" : Str), c - turn)])) n2)
    replace e1 := same_upd (o := .dK (kv [(("" : Str), c - turn)])) n2 _ _ e1
    have e2 : (upd H1 a2 (.dK (kv [(("" : Str), c - turn)]))) a2 = some (.dK (kv [(("" : Str), c - turn)])) := upd_same
    generalize upd H1 a2 (.dK (kv [(("" : Str), c - turn)])) = H2 at s2 e1 e2 ⊢
    refine ⟨by show 2 ≤ sizeLine; omega, fun C nC => ?_⟩
    have s3 := s2.trans (same_upd (o := .lst [.ref a1, .ref a2]) nC)
    replace e1 := same_upd (o := .lst [.ref a1, .ref a2]) nC _ _ e1
    replace e2 := same_upd (o := .lst [.ref a1, .ref a2]) nC _ _ e2
    have eC : (upd H2 C (.lst [.ref a1, .ref a2])) C = some (.lst [.ref a1, .ref a2]) := upd_same
    generalize upd H2 C (.lst [.ref a1, .ref a2]) = H3 at s3 e1 e2 eC ⊢
    refine ⟨_, rfl, fun q0 nq => ⟨by show 2 ≤ sizeLine; omega, fun Co nCo => ?_⟩⟩
    have s4 := s3.trans (same_upd (o := .dK []) nq)
    have t4 := same_upd (o := .dK []) nq
    have e4 : (upd H3 q0 (.dK [])) q0 = some (.dK []) := upd_same
    generalize upd H3 q0 (.dK []) = H4 at s4 t4 e4 nCo ⊢
    have t5 := same_upd (o := .lst [.ref d, .ref q0]) nCo
    have e5 : (upd H4 Co (.lst [.ref d, .ref q0])) Co = some (.lst [.ref d, .ref q0]) := upd_same
    generalize upd H4 Co (.lst [.ref d, .ref q0]) = H5 at t5 e5 ⊢
    refine fun D nD => ⟨_, rfl, _, rfl, upd_same, [((Sum.inr h : Key), V.ref C)], rfl, Nat.le_of_ble_eq_true rfl, ?_⟩
    rw [upd_upd, show mergeK [] [((Sum.inr h : Key), V.ref C)] = [((Sum.inr h : Key), V.ref C)] from rfl]
    have t6 := same_upd (o := .dK [((Sum.inr h : Key), V.ref C)]) nD
    have e6 : (upd H5 D (.dK [((Sum.inr h : Key), V.ref C)])) D = some (.dK [((Sum.inr h : Key), V.ref C)]) := upd_same
    generalize upd H5 D (.dK [((Sum.inr h : Key), V.ref C)]) = H6 at t6 e6 ⊢
    refine fun e0 ne0 => ⟨by show 2 ≤ sizeLine; omega, fun B nB => ?_⟩
    have t7 := same_upd (o := .dK []) ne0
    have e7 : (upd H6 e0 (.dK [])) e0 = some (.dK []) := upd_same
    generalize upd H6 e0 (.dK []) = H7 at t7 e7 nB ⊢
    have t8 := same_upd (o := .lst [.ref D, .ref e0]) nB
    have e8 : (upd H7 B (.lst [.ref D, .ref e0])) B = some (.lst [.ref D, .ref e0]) := upd_same
    generalize upd H7 B (.lst [.ref D, .ref e0]) = H8 at t8 e8 ⊢
    have t38 : Same H3 H8 := (((t4.trans t5).trans t6).trans t7).trans t8
    have s8 : Same H H8 := s3.trans t38
    have sn : Nd (scl turn g) := scl_nd vg.nd
    have nscl : ∀ x, num (scl turn g) x = turn * num g x := fun x => by rw [← tot_num sn, tot_scl, tot_num vg.nd]
    have tk : ∀ r ∈ tidyM c (scl turn g), r.1 ∈ g.map (·.1) := fun r hr => by
      obtain ⟨p, hp, e, _⟩ := tidy_keys hr
      unfold scl at hp
      obtain ⟨p', hp', rfl⟩ := List.mem_map.mp hp
      rw [e]
      exact List.mem_map.mpr ⟨p', hp', rfl⟩
    have wdk : ∀ x ∈ g.map (·.1), xyz x ∧ x.length ≤ mg := fun x hx => by
      obtain ⟨p, hp, rfl⟩ := List.mem_map.mp hx
      exact vg.wd p hp
    have hlh := (wdk h hh).2
    refine ⟨_, rfl, Co, B, D, [e0], c, M, U, [(d, l), (q0, [])], [dLead h C a1 a2 c turn g], rfl, ?_, fun H' r rs ops s9 nr er rl rnd rfr rt rop rz => ?_⟩
    · exact {
        hc := by omega
        hc7 := hc7
        cl := ⟨uw.len, uw.m, uw.wl, fun q hq p hp r hr b hb => by
          have : q = dLead h C a1 a2 c turn g := by simpa using hq
          subst this
          obtain ⟨u1, u2⟩ := uw.cl h hh hmin b hb
          have : p = (a1, tidyM c (scl turn g)) ∨ p = (a2, [(("" : Str), c - turn)]) := by simpa [dLead] using hp
          rcases this with rfl | rfl
          · exact u2 _ (tk r hr)
          · have : r = (("" : Str), c - turn) := by simpa using hr
            subst this
            rw [str_nil_l]
            exact u1⟩
        hCo := t8 _ _ (t7 _ _ (t6 _ _ e5))
        hB := e8
        len := rfl
        few' := by show 2 ≤ 1000; decide
        hes := fun e he => by
          have : e = e0 := by simpa using he
          subst this
          exact t8 _ _ e7
        ne := by simp
        hD := t8 _ _ (t7 _ _ e6)
        ht := fun p hp => by
          have : p = (d, l) ∨ p = (q0, []) := by simpa using hp
          rcases this with rfl | rfl
          · exact ⟨s8 _ _ hd, by have := vl.ln; show l.length ≤ 2500; omega⟩
          · exact ⟨t8 _ _ (t7 _ _ (t6 _ _ (t5 _ _ e4))), by show 0 ≤ 2500; decide⟩
        tg := fun p hp => by
          have : p = (d, l) ∨ p = (q0, []) := by simpa using hp
          rcases this with rfl | rfl
          · exact ⟨vl.nd, fun q hq => ⟨by have := (vl.nu q hq).1; omega, (vl.nu q hq).2⟩, fun x hx => uw.sub x hx⟩
          · exact ⟨List.nodup_nil, fun q hq => (by cases hq), fun x hx => (by cases hx)⟩
        col := fun q hq => by
          have : q = dLead h C a1 a2 c turn g := by simpa using hq
          subst this
          exact ⟨t38 _ _ eC, rfl, by show h.length ≤ 1000; omega⟩
        pc := fun q hq p hp => by
          have : q = dLead h C a1 a2 c turn g := by simpa using hq
          subst this
          have : p = (a1, tidyM c (scl turn g)) ∨ p = (a2, [(("" : Str), c - turn)]) := by simpa [dLead] using hp
          rcases this with rfl | rfl
          · refine ⟨t38 _ _ e1, fun r hr => tidy_rg (by omega) r hr, ?_, fun r hr => ⟨(wdk _ (tk r hr)).1, leR_len' (hmin _ (tk r hr))⟩⟩
            have := tidy_len (c := c) (l := scl turn g)
            rw [scl_len] at this
            have := vg.ln
            show (tidyM c (scl turn g)).length ≤ 1000000
            omega
          · refine ⟨t38 _ _ e2, fun r hr => ?_, by show 1 ≤ 1000000; decide, fun r hr => ?_⟩
            · have : r = (("" : Str), c - turn) := by simpa using hr
              subst this
              exact ⟨by show 1 ≤ c - turn; omega, by show c - turn < c; omega⟩
            · have : r = (("" : Str), c - turn) := by simpa using hr
              subst this
              exact ⟨fun c' hc' => (by cases hc'), Nat.zero_le _⟩
        led := fun q hq p e => by
          have : q = dLead h C a1 a2 c turn g := by simpa using hq
          subst this
          have : (a1, tidyM c (scl turn g)) = p := Option.some.inj e
          subst this
          refine ⟨tidy_nd sn, ?_, fun r hr => hmin _ (tk r hr)⟩
          show num (tidyM c (scl turn g)) h = 1
          rw [num_tidy sn, nscl, Int.mul_comm]
          exact ht1 }
    · obtain ⟨x0, x1, rfl⟩ : ∃ x0 x1, rs = [x0, x1] := by
        match rs, rl with
        | [x0, x1], _ => exact ⟨x0, x1, rfl⟩
      refine ⟨r, _, rfl, SqL.of er, rfl, ?_⟩
      refine ⟨_, _, rfl, _, _, rfl, rfl, ?_⟩
      obtain ⟨z1, z2, z3, z4⟩ := rt 0 (d, l) x0 rfl rfl
      obtain ⟨y1, y2, y3, y4⟩ := rt 1 (q0, []) x1 rfl rfl
      refine ⟨_, rfl, _, rfl, by show 2 ≤ sizeLine; omega, fun p np => ?_⟩
      have s10 := same_upd (o := .tup [.ref x1, .ref x0]) np
      refine q _ p x1 x0 C a1 a2 ops h turn ((s8.trans s9).trans s10) (back_none8 (s8.trans s9) np) (fun z => by rw [z] at rnd; simp at rnd) (back_none8 s8 (rfr x0 List.mem_cons_self)) upd_same (s10 _ _ z1) (s10 _ _ y1) hh hmin ht1 ht2 htc (fun o ho => by simpa using rop o ho) z2 z4 y2 y4 (rz (d, l) rfl)
end
end Fp

set_option Elab.async false
set_option linter.all false
set_option maxRecDepth 100000
set_option maxHeartbeats 4000000
namespace Fp
open PySem PySem.Spec PyProof.Rows L2
/-! ### what dividing tells, as sums -/
theorem tot_bwd_lin (b : Str) (k : Int) (l : Tb) (x : Str) : tot (bwd (b, k) l) x = k * tot (bwd (b, 1) l) x := by
  induction l with
  | nil => show tot [] x = k * tot [] x; rw [tot_nil, Int.mul_zero]
  | cons p r ih =>
    have e1 : bwd (b, k) (p :: r) = (p.1 ++ b, p.2 * k) :: bwd (b, k) r := rfl
    have e2 : bwd (b, 1) (p :: r) = (p.1 ++ b, p.2 * 1) :: bwd (b, 1) r := rfl
    rw [e1, e2, tot_cons, tot_cons, ih, Int.mul_add]
    by_cases e : p.1 ++ b = x
    · rw [if_pos e, if_pos e, Int.mul_one, Int.mul_comm k p.2]
    · rw [if_neg e, if_neg e, Int.mul_zero]
theorem tot_bwd_scl (b : Str) (k f : Int) (l : Tb) (x : Str) : tot (bwd (b, k) (scl f l)) x = (k * f) * tot (bwd (b, 1) l) x := by
  induction l with
  | nil => show tot [] x = (k * f) * tot [] x; rw [tot_nil, Int.mul_zero]
  | cons p r ih =>
    have e1 : bwd (b, k) (scl f (p :: r)) = (p.1 ++ b, (f * p.2) * k) :: bwd (b, k) (scl f r) := rfl
    have e2 : bwd (b, 1) (p :: r) = (p.1 ++ b, p.2 * 1) :: bwd (b, 1) r := rfl
    rw [e1, e2, tot_cons, tot_cons, ih, Int.mul_add]
    by_cases e : p.1 ++ b = x
    · rw [if_pos e, if_pos e]
      show (f * p.2 * k) + k * f * _ = k * f * (p.2 * 1) + k * f * _
      rw [Int.mul_one, Int.mul_comm (f * p.2) k, ← Int.mul_assoc]
    · rw [if_neg e, if_neg e, Int.mul_zero]
theorem prs_one (g : Tb) (b : Str) (k : Int) : prs g [(b, k)] = bwd (b, k) g := by
  induction g with
  | nil => rfl
  | cons p r ih =>
    rw [prs_cons, ih]
    rfl
theorem run_lk {c turn : Int} {h : Str} {C a1 a2 : Addr} {g : Tb} (hg : Nd g) : ∀ (ops : List Tk), (∀ o ∈ ops, o.q = dLead h C a1 a2 c turn g) → ∀ (t0 t1 : Tb), Nd t0 → Nd t1 → Lk c (runT c 0 ops t0 ++ prs g (runT c 1 ops t1)) (t0 ++ prs g t1)
  | [], _, t0, t1, _, _ => Lk.refl _ _
  | o :: ops, ho, t0, t1, h0, h1 => by
    have e := ho o List.mem_cons_self
    have o0 : opT c 0 t0 o = takeT c o.n o.b (tidyM c (scl turn g)) t0 := by
      unfold opT
      rw [e]
      rfl
    have o1 : opT c 1 t1 o = takeT c o.n o.b [(("" : Str), c - turn)] t1 := by
      unfold opT
      rw [e]
      rfl
    have r0 : runT c 0 (o :: ops) t0 = runT c 0 ops (opT c 0 t0 o) := rfl
    have r1 : runT c 1 (o :: ops) t1 = runT c 1 ops (opT c 1 t1 o) := rfl
    rw [r0, r1, o0, o1]
    refine (run_lk hg ops (fun o' h' => ho o' (List.mem_cons_of_mem _ h')) _ _ (takeT_nd _ _ h0) (takeT_nd _ _ h1)).trans ?_
    refine (Lk.app (lk_takeT h0) (Lk.prs_r g (lk_takeT h1))).trans fun x => ?_
    have s2 : scl (-1) (bwd (o.b, o.n) [(("" : Str), c - turn)]) = [(o.b, (-1) * ((c - turn) * o.n))] := by
      show [(("" : Str) ++ o.b, (-1) * ((c - turn) * o.n))] = _
      rw [str_nil_l]
    have k1 : tot (bwd (o.b, o.n) (tidyM c (scl turn g))) x % c = tot (bwd (o.b, o.n) (scl turn g)) x % c := by
      have := Lk.prs_l [(o.b, o.n)] (lk_tidy (c := c) (scl_nd (f := turn) hg)) x
      rw [prs_one, prs_one] at this
      exact this
    rw [s2, tot_app, tot_app, tot_scl, prs_app_r, tot_app, prs_one, tot_bwd_lin o.b (-1 * ((c - turn) * o.n)) g x, tot_app]
    rw [tot_bwd_scl] at k1
    generalize tot (bwd (o.b, 1) g) x = E at k1 ⊢
    generalize tot (bwd (o.b, o.n) (tidyM c (scl turn g))) x = W at k1 ⊢
    generalize tot t0 x = A
    generalize tot (prs g t1) x = B
    have k2 : (c : Int) ∣ (W - o.n * turn * E) := Int.dvd_of_emod_eq_zero (Int.emod_eq_emod_iff_emod_sub_eq_zero.mp k1)
    obtain ⟨z, hz⟩ := k2
    have k3 : A + -1 * W + (B + -1 * ((c - turn) * o.n) * E) = A + B + c * (-z - o.n * E) := by
      have : W = o.n * turn * E + c * z := by omega
      rw [this]
      rw [Int.sub_mul, Int.mul_sub, Int.mul_sub, Int.sub_mul, Int.mul_comm o.n turn]
      have a1 : -1 * (c * o.n) * E = -(c * (o.n * E)) := by rw [Int.mul_assoc, Int.neg_mul, Int.one_mul, Int.mul_assoc]
      have a2 : -1 * (turn * o.n) * E = -(turn * o.n * E) := by rw [Int.mul_assoc, Int.neg_mul, Int.one_mul]
      rw [a1, a2, Int.mul_neg]
      omega
    rw [k3, Int.add_mul_emod_self_left]
end Fp

set_option Elab.async false
set_option linter.all false
set_option maxRecDepth 100000
set_option maxHeartbeats 4000000
namespace Fp
open PySem PySem.Spec PyProof.Rows L2
/-! ### the first word of a product -/
/-- h leads g, its number has an inverse by the clock -/
structure Hd (c turn : Int) (h : Str) (g : Tb) : Prop where
  nd : Nd g
  mem : h ∈ g.map (·.1)
  min : ∀ y ∈ g.map (·.1), leR h y = true
  inv : (num g h * turn) % c = 1
/-- a table by the clock: each word once, no number nothing -/
structure Tt (c : Int) (r : Tb) : Prop where
  nd : Nd r
  rg : ∀ p ∈ r, 1 ≤ p.2 ∧ p.2 < c
theorem tot_first {h v : Str} {r : Tb} (hv : ∀ y ∈ r.map (·.1), leR v y = true) : ∀ {l : Tb}, Nd l → (∀ y ∈ l.map (·.1), leR h y = true) → tot (prs l r) (h ++ v) = num l h * tot r v
  | [], _, _ => by
    show tot [] (h ++ v) = 0 * _
    rw [tot_nil, Int.zero_mul]
  | p :: l, hn, hm => by
    have hn' : (p.1 :: l.map (·.1)).Nodup := hn
    obtain ⟨n1, n2⟩ := List.nodup_cons.mp hn'
    have ih := tot_first hv (l := l) n2 (fun y hy => hm y (List.mem_cons_of_mem _ hy))
    rw [tot_prs_cons, ih, num_cons]
    by_cases e : p.1 = h
    · rw [if_pos e]
      have z : num l h = 0 := by rw [← tot_num n2, tot_not (e ▸ n1)]
      rw [z, Int.zero_mul, Int.add_zero]
      rcases tot_fwd p r (h ++ v) with ⟨y, e1, e2⟩ | ⟨e1, _⟩
      · rw [e] at e1
        have : y = v := str_cancel e1
        rw [e2, this]
      · exact absurd (by rw [e]) (e1 v)
    · rw [if_neg e]
      have z : tot (fwd p r) (h ++ v) = 0 := by
        rcases tot_fwd p r (h ++ v) with ⟨y, e1, e2⟩ | ⟨_, e2⟩
        · rw [e2]
          by_cases hy : y ∈ r.map (·.1)
          · exfalso
            have l1 := leR_app_r (z := v) (hm p.1 List.mem_cons_self)
            have l2 := leR_app_l (z := p.1) (hv y hy)
            rw [e1] at l2
            have := leR_anti l1 l2
            exact e (str_cancel_r this).symm
          · rw [tot_not hy, Int.mul_zero]
        · exact e2
      rw [z, Int.zero_add]
theorem prs_key {l r : Tb} {x : Str} (h : tot (prs l r) x ≠ 0) : ∃ p ∈ l, ∃ q ∈ r, x = p.1 ++ q.1 := by
  by_cases hx : x ∈ (prs l r).map (·.1)
  · obtain ⟨e, he, rfl⟩ := List.mem_map.mp hx
    unfold prs at he
    obtain ⟨p, hp, he⟩ := List.mem_flatMap.mp he
    obtain ⟨q, hq, rfl⟩ := List.mem_map.mp he
    exact ⟨p, hp, q, hq, rfl⟩
  · exact absurd (tot_not hx) h
/-- the first of a row of words -/
theorem first_of : ∀ {l : List Str}, l ≠ [] → ∃ v ∈ l, ∀ y ∈ l, leR v y = true
  | [], h => absurd rfl h
  | [a], _ => ⟨a, List.mem_cons_self, fun y hy => by
    have : y = a := by simpa using hy
    subst this
    rcases leR_total.total y y with z | z <;> exact z⟩
  | a :: b :: l, _ => by
    obtain ⟨v, h1, h2⟩ := first_of (l := b :: l) (by simp)
    rcases leR_total.total a v with z | z
    · refine ⟨a, List.mem_cons_self, fun y hy => ?_⟩
      rcases List.mem_cons.mp hy with rfl | hy
      · rcases leR_total.total y y with z | z <;> exact z
      · exact leR_trans z (h2 y hy)
    · refine ⟨v, List.mem_cons_of_mem _ h1, fun y hy => ?_⟩
      rcases List.mem_cons.mp hy with rfl | hy
      · exact z
      · exact h2 y hy
/-- the first word of a product that is not nothing is the lead with a word behind; all its words are behind that one -/
theorem prs_first {c turn : Int} {h : Str} {g r : Tb} (hc : 2 ≤ c) (hg : Hd c turn h g) (hr : Tt c r) (hne : r ≠ []) : ∃ v, tot (prs g r) (h ++ v) % c ≠ 0 ∧ ∀ x, tot (prs g r) x ≠ 0 → leR (h ++ v) x = true := by
  obtain ⟨v, hv, hmin⟩ := first_of (l := r.map (·.1)) (by simpa using hne)
  refine ⟨v, fun z => ?_, fun x hx => ?_⟩
  · rw [tot_first hmin hg.nd hg.min, tot_num hr.nd] at z
    obtain ⟨p, hp, e⟩ := List.mem_map.mp hv
    obtain ⟨j, ej⟩ := List.getElem?_of_mem hp
    have hn := num_of hr.nd ej
    rw [e] at hn
    have h1 := hr.rg p hp
    have h2 : (num r v * (num g h * turn)) % c = num r v % c := by
      rw [Int.mul_emod, hg.inv, Int.mul_one, Int.emod_emod_of_dvd _ (Int.dvd_refl c)]
    have h3 : (num r v * (num g h * turn)) % c = 0 := by
      rw [show num r v * (num g h * turn) = (num g h * num r v) * turn by rw [← Int.mul_assoc, Int.mul_comm (num r v)], Int.mul_emod, z, Int.zero_mul, Int.zero_emod]
    rw [h3, hn, Int.emod_eq_of_lt (by omega) h1.2] at h2
    omega
  · obtain ⟨p, hp, q, hq, rfl⟩ := prs_key hx
    exact leR_trans (leR_app_r (z := v) (hg.min p.1 (List.mem_map.mpr ⟨p, hp, rfl⟩))) (leR_app_l (z := p.1) (hmin q.1 (List.mem_map.mpr ⟨q, hq, rfl⟩)))
end Fp
namespace Fp
open PySem PySem.Spec PyProof.Rows L2
theorem lk_add {c : Int} (l : Tb) : Lk c (tidyM c (addT l [])) l := fun x => by
  rw [tot_num (tidy_nd (nd_addT l [] (show Nd [] from List.nodup_nil))), num_tidy (nd_addT l [] (show Nd [] from List.nodup_nil)), num_addT, Int.emod_emod_of_dvd _ (Int.dvd_refl c)]
  show (num [] x + tot l x) % c = _
  rw [show num [] x = 0 from rfl, Int.zero_add]
theorem tt_add {c : Int} (hc : 0 < c) (l : Tb) : Tt c (tidyM c (addT l [])) := ⟨tidy_nd (nd_addT l [] (show Nd [] from List.nodup_nil)), tidy_rg hc⟩
theorem tt_nil {c : Int} {l : Tb} (h : Tt c l) (e : Lk c l []) : l = [] := by
  cases l with
  | nil => rfl
  | cons p r =>
    exfalso
    have h1 := e p.1
    have hn := num_of h.nd (i := 0) (p := p) rfl
    rw [tot_num h.nd, hn, tot_nil, Int.zero_emod] at h1
    have h2 := h.rg p List.mem_cons_self
    rw [Int.emod_eq_of_lt (by omega) h2.2] at h1
    omega
/-- a difference as a table -/
theorem diff_tt {c : Int} (hc : 0 < c) (q t : Tb) : ∃ r, Tt c r ∧ (∀ x, tot r x % c = (tot q x - tot t x) % c) := by
  refine ⟨_, tt_add hc (q ++ scl (-1) t), fun x => ?_⟩
  rw [lk_add (c := c) (q ++ scl (-1) t) x, tot_app, tot_scl]
  congr 1
  omega
/-- what is left begins nowhere with the lead: then there is but one quotient, and one rest -/
theorem div_one {c turn : Int} {h : Str} {g l T0 T1 q : Tb} (hc : 2 ≤ c) (hg : Hd c turn h g) (e : Lk c l (prs g T1 ++ T0)) (h0 : Tt c T0) (hb : ∀ x ∈ T0.map (·.1), ∀ v, x ≠ h ++ v) (f : Lk c l (prs g q)) : T0 = [] ∧ Lk c T1 q := by
  obtain ⟨r, hr, hd⟩ := diff_tt (c := c) (by omega) q T1
  have hlk : Lk c (r ++ T1) q := fun x => by
    rw [tot_app, Int.add_emod, hd x, ← Int.add_emod]
    congr 1
    omega
  have hp : Lk c (prs g r) T0 := fun x => by
    have a1 := Lk.prs_r g hlk x
    rw [prs_app_r, tot_app] at a1
    have a2 := (f.symm.trans e) x
    rw [tot_app] at a2
    have a3 : (tot (prs g r) x + tot (prs g T1) x) % c = (tot (prs g T1) x + tot T0 x) % c := a1.trans a2
    have a4 : (tot (prs g r) x + tot (prs g T1) x - tot (prs g T1) x) % c = (tot (prs g T1) x + tot T0 x - tot (prs g T1) x) % c := by rw [Int.sub_emod, a3, ← Int.sub_emod]
    rw [show tot (prs g r) x + tot (prs g T1) x - tot (prs g T1) x = tot (prs g r) x by omega, show tot (prs g T1) x + tot T0 x - tot (prs g T1) x = tot T0 x by omega] at a4
    exact a4
  by_cases hne : r = []
  · subst hne
    refine ⟨tt_nil h0 (fun x => ?_), hlk⟩
    rw [← hp x, prs_nil_r]
  · exfalso
    obtain ⟨v, hv, _⟩ := prs_first hc hg hr hne
    rw [hp (h ++ v)] at hv
    by_cases hk : (h ++ v) ∈ T0.map (·.1)
    · exact hb _ hk v rfl
    · rw [tot_not hk, Int.zero_emod] at hv
      exact hv rfl
/-- what is left leads with a word that does not begin with the lead: then nothing is a quotient -/
theorem div_none {c turn : Int} {h x : Str} {g l L q f : Tb} (hc : 2 ≤ c) (hg : Hd c turn h g) (e : Lk c l (prs g f ++ L)) (hL : Tt c L) (hx : x ∈ L.map (·.1)) (hmin : ∀ y ∈ L.map (·.1), leR x y = true) (hb : ∀ v, x ≠ h ++ v) : ¬ Lk c l (prs g q) := fun z => by
  obtain ⟨r, hr, hd⟩ := diff_tt (c := c) (by omega) q f
  have hlk : Lk c (r ++ f) q := fun x => by
    rw [tot_app, Int.add_emod, hd x, ← Int.add_emod]
    congr 1
    omega
  have hp : Lk c (prs g r) L := fun x => by
    have a1 := Lk.prs_r g hlk x
    rw [prs_app_r, tot_app] at a1
    have a2 := (z.symm.trans e) x
    rw [tot_app] at a2
    have a3 : (tot (prs g r) x + tot (prs g f) x) % c = (tot (prs g f) x + tot L x) % c := a1.trans a2
    have a4 : (tot (prs g r) x + tot (prs g f) x - tot (prs g f) x) % c = (tot (prs g f) x + tot L x - tot (prs g f) x) % c := by rw [Int.sub_emod, a3, ← Int.sub_emod]
    rw [show tot (prs g r) x + tot (prs g f) x - tot (prs g f) x = tot (prs g r) x by omega, show tot (prs g f) x + tot L x - tot (prs g f) x = tot L x by omega] at a4
    exact a4
  have hxn : tot L x % c ≠ 0 := by
    obtain ⟨p, hp', e'⟩ := List.mem_map.mp hx
    obtain ⟨j, ej⟩ := List.getElem?_of_mem hp'
    have hn := num_of hL.nd ej
    rw [e'] at hn
    have h2 := hL.rg p hp'
    rw [tot_num hL.nd, hn, Int.emod_eq_of_lt (by omega) h2.2]
    omega
  have hne : r ≠ [] := fun y => by
    subst y
    have := hp x
    rw [prs_nil_r, tot_nil, Int.zero_emod] at this
    exact hxn this.symm
  obtain ⟨v, hv, hall⟩ := prs_first hc hg hr hne
  have h1 : leR (h ++ v) x = true := hall x (fun y => hxn (by rw [← hp x, y, Int.zero_emod]))
  have h2 : leR x (h ++ v) = true := by
    rw [hp (h ++ v)] at hv
    by_cases hk : (h ++ v) ∈ L.map (·.1)
    · exact hmin _ hk
    · rw [tot_not hk, Int.zero_emod] at hv
      exact absurd rfl hv
  exact hb v (leR_anti h2 h1)
end Fp

set_option Elab.async false
set_option linter.all false
set_option maxRecDepth 100000
set_option maxHeartbeats 4000000
namespace Fp
open PySem PySem.Spec PyProof.Rows L2
theorem vt_again {c : Int} {m k : Nat} {l : Tb} (hc : 0 < c) (h : VT c m k l) : VT c m k (tidyM c l) ∧ Lk c (tidyM c l) l :=
  ⟨(vt_tidy hc h.nd h.wd).mono (Nat.le_refl _) h.ln, lk_tidy h.nd⟩
theorem canon_nil_iff {l : Tb} (h : Nd l) (hr : ∀ p ∈ l, 1 ≤ p.2) (hn : Nd (canon l)) (hr' : ∀ p ∈ canon l, 1 ≤ p.2) : canon l = [] ↔ l = [] := by
  have key : ∀ {a b : Tb}, Nd b → (∀ p ∈ b, 1 ≤ p.2) → (∀ x, num a x = num b x) → a = [] → b = [] := fun {a b} hb hp e z => by
    cases b with
    | nil => rfl
    | cons p r =>
      exfalso
      have h1 := num_of hb (i := 0) (p := p) rfl
      have h2 := e p.1
      rw [z, h1] at h2
      have h3 := hp p List.mem_cons_self
      have h4 : num [] p.1 = 0 := rfl
      omega
  exact ⟨key h hr (fun x => canon_num h x), key hn hr' (fun x => (canon_num h x).symm)⟩
theorem start_has {ws : List Str} {h v : Str} (hm : h ∈ ws) : (startOf ws (h ++ v)).isSome = true := by
  cases e : startOf ws (h ++ v) with
  | some s => rfl
  | none =>
    exfalso
    unfold startOf at e
    rw [List.findSome?_eq_none_iff] at e
    have hl : h.length ≤ (h ++ v).length := by rw [app_len]; omega
    have h1 := e h.length (List.mem_range.mpr (by omega))
    have h2 : cutS (h ++ v) none (some (h.length : Int)) = h := by
      refine PySem.W.str_of_cps ?_
      rw [cut_front_list hl, app_list, ← len_list h, List.take_left']
      rfl
    rw [h2, if_pos hm] at h1
    cases h1
/-! ### the lots of words that dividing keeps -/
theorem cut_app (a b : Str) : cutS (a ++ b) (some (a.length : Int)) none = b := by
  have hl : a.length ≤ (a ++ b).length := by rw [app_len]; omega
  have h2 : cutS (a ++ b) none (some (a.length : Int)) = a := by
    refine PySem.W.str_of_cps ?_
    rw [cut_front_list hl, app_list, ← len_list a, List.take_left']
    rfl
  have h3 := cut_both hl
  rw [h2] at h3
  exact str_cancel h3
/-- what stands at the end of a word -/
def ends (x : Str) : List Str := (List.range (x.length + 1)).map fun (n : Nat) => cutS x (some (n : Int)) none
theorem ends_mem {a b : Str} : b ∈ ends (a ++ b) := List.mem_map.mpr ⟨a.length, List.mem_range.mpr (by rw [app_len]; omega), cut_app a b⟩
theorem ends_app {x s : Str} (h : s ∈ ends x) : ∃ a, x = a ++ s := by
  obtain ⟨n, hn, rfl⟩ := List.mem_map.mp h
  have hn := List.mem_range.mp hn
  exact ⟨cutS x none (some (n : Int)), (cut_both (by omega)).symm⟩
theorem ends_len (x : Str) : (ends x).length = x.length + 1 := by
  unfold ends
  rw [List.length_map, List.length_range]
/-- the words of l, and pieces of g ahead of ends of these, none longer than m -/
def sufU (g l : Tb) (m : Nat) : List Str := l.map (·.1) ++ ((l.flatMap fun w => (ends w.1).flatMap fun s => (("" : Str) :: g.map (·.1)).map fun p => p ++ s).filter fun x => decide (x.length ≤ m))
theorem sufU_mem {g l : Tb} {m : Nat} {w p s : Str} (hw : w ∈ l.map (·.1)) (hs : s ∈ ends w) (hp : p = "" ∨ p ∈ g.map (·.1)) (h : (p ++ s).length ≤ m) : p ++ s ∈ sufU g l m := by
  obtain ⟨w', hw', rfl⟩ := List.mem_map.mp hw
  refine List.mem_append_right _ (List.mem_filter.mpr ⟨List.mem_flatMap.mpr ⟨w', hw', List.mem_flatMap.mpr ⟨s, hs, List.mem_map.mpr ⟨p, ?_, rfl⟩⟩⟩, decide_eq_true h⟩)
  rcases hp with rfl | hp
  · exact List.mem_cons_self
  · exact List.mem_cons_of_mem _ hp
theorem sum_le {α : Type} (f : α → Nat) (b : Nat) : ∀ l : List α, (∀ x ∈ l, f x ≤ b) → (l.map f).sum ≤ l.length * b
  | [], _ => Nat.zero_le _
  | x :: r, h => by
    have h1 := h x List.mem_cons_self
    have h2 := sum_le f b r fun y hy => h y (List.mem_cons_of_mem _ hy)
    rw [List.map_cons, List.sum_cons, List.length_cons, Nat.add_mul, Nat.one_mul]
    omega
theorem sufU_len {g l : Tb} {m : Nat} (hl : ∀ p ∈ l, p.1.length ≤ m) : (sufU g l m).length ≤ l.length + l.length * ((m + 1) * (g.length + 1)) := by
  unfold sufU
  rw [List.length_append, List.length_map]
  refine Nat.add_le_add_left (Nat.le_trans (List.length_filter_le _ _) ?_) _
  rw [List.length_flatMap]
  refine sum_le _ _ l fun w hw => ?_
  rw [List.length_flatMap]
  refine Nat.le_trans (sum_le _ (g.length + 1) (ends w.1) fun s _ => ?_) (Nat.mul_le_mul_right _ ?_)
  · rw [List.length_map, List.length_cons, List.length_map]
    exact Nat.le_refl _
  · rw [ends_len]
    exact Nat.add_le_add_right (hl w hw) 1
/-- as many letters: the one stands at the other's end -/
theorem end_of {h b p s : Str} (e : h ++ b = p ++ s) (hl : p.length ≤ h.length) : ∃ a, s = a ++ b := by
  have e2 : (h ++ b).cps.toList = (p ++ s).cps.toList := by rw [e]
  rw [app_list, app_list] at e2
  obtain ⟨a, h1, h2⟩ | ⟨a, h1, h2⟩ := List.append_eq_append_iff.mp e2
  · have : a = [] := by
      have := congrArg List.length h1
      rw [List.length_append, len_list, len_list] at this
      exact List.eq_nil_of_length_eq_zero (by omega)
    subst this
    refine ⟨"", ?_⟩
    rw [str_nil_l]
    refine PySem.W.str_of_cps ?_
    simpa using h2.symm
  · refine ⟨⟨⟨a⟩⟩, PySem.W.str_of_cps ?_⟩
    rw [app_list]
    exact h2
theorem sufU_le {c : Int} {m k mg kg : Nat} {g l : Tb} (vl : VT c m k l) (vg : VT c mg kg g) : (sufU g l m).length ≤ k + k * ((m + 1) * (kg + 1)) :=
  Nat.le_trans (sufU_len fun p hp => (vl.wd p hp).2) (Nat.add_le_add vl.ln (Nat.mul_le_mul vl.ln (Nat.mul_le_mul_left _ (Nat.add_le_add_right vg.ln 1))))
theorem uw_suf {c : Int} {m k mg kg : Nat} {g l : Tb} (vl : VT c m k l) (vg : VT c mg kg g) (hm : m ≤ 1000) (hn : k + k * ((m + 1) * (kg + 1)) ≤ 1000000) : UW g l m (sufU g l m) where
  len := by
    refine Nat.le_trans (sufU_len fun p hp => (vl.wd p hp).2) (Nat.le_trans ?_ hn)
    exact Nat.add_le_add vl.ln (Nat.mul_le_mul vl.ln (Nat.mul_le_mul_left _ (Nat.add_le_add_right vg.ln 1)))
  m := hm
  wl := fun x hx => by
    rcases List.mem_append.mp hx with hx | hx
    · obtain ⟨p, hp, rfl⟩ := List.mem_map.mp hx
      exact vl.wd p hp
    · obtain ⟨hx, hd⟩ := List.mem_filter.mp hx
      refine ⟨?_, of_decide_eq_true hd⟩
      obtain ⟨w, hw, hx⟩ := List.mem_flatMap.mp hx
      obtain ⟨s, hs, hx⟩ := List.mem_flatMap.mp hx
      obtain ⟨p, hp, rfl⟩ := List.mem_map.mp hx
      obtain ⟨a, ea⟩ := ends_app hs
      have h1 : xyz s := xyz_tail (a := a) (ea ▸ (vl.wd w hw).1)
      rcases List.mem_cons.mp hp with rfl | hp
      · rw [str_nil_l]
        exact h1
      · obtain ⟨p', hp', rfl⟩ := List.mem_map.mp hp
        exact xyz_app (vg.wd p' hp').1 h1
  sub := fun x hx => List.mem_append_left _ hx
  cl := fun h hh hmin b hb => by
    have key : ∃ w ∈ l.map (·.1), b ∈ ends w ∧ (h ++ b).length ≤ m := by
      rcases List.mem_append.mp hb with hb | hb
      · obtain ⟨p, hp, e⟩ := List.mem_map.mp hb
        exact ⟨h ++ b, hb, ends_mem, e ▸ (vl.wd p hp).2⟩
      · obtain ⟨hx, hd⟩ := List.mem_filter.mp hb
        obtain ⟨w, hw, hx⟩ := List.mem_flatMap.mp hx
        obtain ⟨s, hs, hx⟩ := List.mem_flatMap.mp hx
        obtain ⟨p, hp, e⟩ := List.mem_map.mp hx
        obtain ⟨a, ea⟩ := ends_app hs
        have hpl : p.length ≤ h.length := by
          rcases List.mem_cons.mp hp with rfl | hp
          · exact Nat.zero_le _
          · exact leR_len' (hmin p hp)
        obtain ⟨a', ea'⟩ := end_of e.symm hpl
        refine ⟨w.1, List.mem_map.mpr ⟨w, hw, rfl⟩, ?_, of_decide_eq_true hd⟩
        rw [ea, ea', ← str_assoc]
        exact ends_mem
    obtain ⟨w, hw, hbw, hlen⟩ := key
    rw [app_len] at hlen
    refine ⟨?_, fun y hy => sufU_mem hw hbw (.inr hy) ?_⟩
    · have := sufU_mem (g := g) (m := m) hw hbw (.inl rfl) (by rw [str_nil_l]; omega)
      rw [str_nil_l] at this
      exact this
    · rw [app_len]
      have := leR_len' (hmin y hy)
      omega
theorem uw_keys {g g' l l' : Tb} {M : Nat} {U : List Str} (h : UW g l M U) (hg : ∀ y, y ∈ g'.map (·.1) ↔ y ∈ g.map (·.1)) (hl : ∀ y, y ∈ l'.map (·.1) ↔ y ∈ l.map (·.1)) : UW g' l' M U :=
  ⟨h.len, h.m, h.wl, fun x hx => h.sub x ((hl x).mp hx), fun k hk hmin b hb => by
    obtain ⟨h1, h2⟩ := h.cl k ((hg k).mp hk) (fun y hy => hmin y ((hg y).mpr hy)) b hb
    exact ⟨h1, fun y hy => h2 y ((hg y).mp hy)⟩⟩
theorem canon_key {c : Int} {m k : Nat} {l : Tb} (v : VT c m k l) (y : Str) : y ∈ (canon l).map (·.1) ↔ y ∈ l.map (·.1) := by
  have v' := vt_canon v
  rw [rg_key v'.nd (fun p hp => (v'.nu p hp).1), rg_key v.nd (fun p hp => (v.nu p hp).1), canon_num v.nd]
section
variable {P : Program} {w : World} {K : PySem.W.Frag} {mg : Str → Option Value} {base : Heap}
def spRest (K : PySem.W.Frag) : Sp := fun vs H Q E => ∃ (a b : Addr) (c c' : Int) (g l : Tb) (m k mg kg M : Nat) (U : List Str), vs = [.ref a, .ref b] ∧ Bg K H a c mg kg g ∧ Bg K H b c' m k l ∧ isCk c ∧ k ≤ 2500 ∧ kg ≤ 100000 ∧ mg ≤ 1000 ∧
  (g = [] → E (.ref (He.ga K "IsNothing")) none H) ∧ (g ≠ [] → c ≠ c' → E (.ref (He.ga K "UnlikeClocks")) none H) ∧
  (g ≠ [] → c = c' → UW g l M U ∧ (∀ (H' : Hp) (r : Addr) (q : Tb), Same H H' → H r = none → Bg K H' r c M U.length q → Lk c l (prs g q) → Q (.ref r) H') ∧ (∀ H', Same H H' → (∀ q, ¬ Lk c l (prs g q)) → Q .non H'))
abbrev nRest : List Str := ["front", "bag", "quotient", "left"]
end
end Fp

set_option Elab.async false
set_option linter.all false
set_option maxRecDepth 100000
set_option maxHeartbeats 4000000
namespace Fp
open PySem PySem.Spec PyProof.Rows L2
theorem tb_half12 {m : Nat} {t : Tb} (h : Nd t) (hw : ∀ x ∈ t.map (·.1), xyz x ∧ x.length ≤ m) : 2 * t.length < 3 ^ (m + 1) := by
  have h' : (t.map (·.1)).Nodup := h
  have := List.Nodup.length_le_of_subset h' (fun w hm => allW_mem m w (hw w hm).1 (hw w hm).2)
  rw [List.length_map] at this
  have := allW_half m
  omega
theorem ord_first {l : Tb} (h : l ≠ []) : ∃ x tl, ordW l = x :: tl ∧ x ∈ l.map (·.1) ∧ ∀ y ∈ l.map (·.1), leR x y = true := by
  cases e : ordW l with
  | nil =>
    have := ordW_len l
    rw [e] at this
    exact absurd (List.eq_nil_of_length_eq_zero this.symm) h
  | cons x tl =>
    have hs : (ordW l).Pairwise (fun a b => leR a b = true) := PySem.W.sort_pairwise leR_total _
    rw [e] at hs
    refine ⟨x, tl, rfl, ordW_mem.mp (e ▸ List.mem_cons_self), fun y hy => ?_⟩
    have hm : y ∈ ordW l := ordW_mem.mpr hy
    rw [e] at hm
    rcases List.mem_cons.mp hm with z | z
    · subst z
      rcases leR_total.total y y with z | z <;> exact z
    · exact (List.pairwise_cons.mp hs).1 _ z
/-- words behind some word of L -/
def muL (L : Tb) : Nat := ((allW 12).filter fun w => L.any fun p => leR p.1 w).length
theorem muL_lt {L L' : Tb} {x : Str} (hx : x ∈ L.map (·.1)) (hw : xyz x ∧ x.length ≤ 12) (hL : ∀ y ∈ L.map (·.1), leR x y = true) (h : ∀ y ∈ L'.map (·.1), leR x y = true ∧ x ≠ y) : muL L' < muL L := by
  unfold muL
  have hsub : ∀ w, (L'.any fun p => leR p.1 w) = true → (L.any fun p => leR p.1 w) = true := fun w hw' => by
    obtain ⟨p, hp, e⟩ := List.any_eq_true.mp hw'
    obtain ⟨q, hq, e2⟩ := List.mem_map.mp hx
    refine List.any_eq_true.mpr ⟨q, hq, ?_⟩
    rw [e2]
    exact leR_trans (h p.1 (List.mem_map.mpr ⟨p, hp, rfl⟩)).1 e
  have hxL : (L.any fun p => leR p.1 x) = true := by
    obtain ⟨q, hq, e2⟩ := List.mem_map.mp hx
    refine List.any_eq_true.mpr ⟨q, hq, ?_⟩
    rw [e2]
    rcases leR_total.total x x with z | z <;> exact z
  have hxL' : (L'.any fun p => leR p.1 x) = false := by
    cases e : L'.any fun p => leR p.1 x with
    | false => rfl
    | true =>
      obtain ⟨p, hp, e2⟩ := List.any_eq_true.mp e
      obtain ⟨z1, z2⟩ := h p.1 (List.mem_map.mpr ⟨p, hp, rfl⟩)
      exact absurd (leR_anti z1 e2) z2
  have hmem := allW_mem 12 x hw.1 hw.2
  rw [← List.countP_eq_length_filter, ← List.countP_eq_length_filter]
  clear hx hL h
  generalize allW 12 = W at hmem ⊢
  induction W with
  | nil => cases hmem
  | cons a r ih =>
    have mono : ∀ (r : List Str), r.countP (fun w => L'.any fun p => leR p.1 w) ≤ r.countP (fun w => L.any fun p => leR p.1 w) := fun r => List.countP_mono_left fun w _ => hsub w
    rw [List.countP_cons, List.countP_cons]
    rcases List.mem_cons.mp hmem with e | e
    · subst e
      rw [hxL, hxL']
      have := mono r
      simp
      omega
    · have h1 := ih e
      have h2 := hsub a
      cases e1 : L'.any fun p => leR p.1 a with
      | false =>
        rw [if_neg Bool.false_ne_true]
        split <;> omega
      | true =>
        rw [h2 e1]
        simp
        exact h1
theorem cut_le {z : Str} {k : Nat} : (cutS z none (some (k : Int))).length ≤ z.length := by
  rw [← len_list, ← len_list z]
  unfold cutS
  show (List.take _ (List.drop _ z.cps.toList)).length ≤ _
  rw [List.length_take, List.length_drop]
  omega
theorem key_prod {c : Int} {g : Tb} {v x : Str} {k : Nat} {m : Nat} (hc : 0 < c) (hg : VT c m k g) (hv : xyz v) (hx : x ∈ (prodM c g [(v, 1)]).map (·.1)) (hc2 : 2 ≤ c) : ∃ p ∈ g, x = p.1 ++ v := by
  have v2 : VT c v.length 1 [(v, 1)] := ⟨by show [v].Nodup; simp, fun q hq => by
    have : q = (v, (1 : Int)) := by simpa using hq
    subst this
    exact ⟨by show (1 : Int) ≤ 1; omega, by show (1 : Int) < c; omega⟩, fun q hq => by
    have : q = (v, (1 : Int)) := by simpa using hq
    subst this
    exact ⟨hv, Nat.le_refl _⟩, Nat.le_refl _⟩
  have vp := vt_prodM hc hg v2
  have h1 := (rg_key vp.nd (fun p hp => (vp.nu p hp).1) x).mp hx
  have h2 := lk_prod hc hg v2 x
  by_cases h3 : tot (prs g [(v, 1)]) x = 0
  · rw [tot_num vp.nd, h3, Int.zero_emod, num_mod hc vp] at h2
    exact absurd h2 h1
  · obtain ⟨p, hp, q, hq, e⟩ := prs_key h3
    have : q = (v, (1 : Int)) := by simpa using hq
    subst this
    exact ⟨p, hp, e⟩
def rInt1 : List V → Hp → VK → Prop := fun xs H Q => (∃ i, xs = [.int i] ∧ Q (.int i) H) ∨ ∃ k : Bool, xs = [.bl k] ∧ Q (.int (if k then 1 else 0)) H
section
variable {P : Program} {w : World} {K : PySem.W.Frag} {mg : Str → Option Value} {base : Heap}
def spLD : Sp := fun vs H Q _ => ∃ (c : Int) (f d : Addr) (g l : Tb), vs = [.int c, .ref f, .ref d] ∧ isCk c ∧ H f = some (.dK (kv g)) ∧ H d = some (.dK (kv l)) ∧ VT c 12 300 g ∧ VT c 12 300 l ∧ g ≠ [] ∧
  (∀ (H' : Hp) (r : Addr) (q : Tb), Same H H' → H r = none → H' r = some (.dK (kv q)) → VT c 12 1000000 q → Lk c l (prs g q) → Q (.ref r) H') ∧ (∀ H', Same H H' → (∀ q, ¬ Lk c l (prs g q)) → Q .non H')
abbrev nLD : List Str := ["_law_clock_here", "_law_front", "_law_bag", "_law_lead", "_law_left", "_law_found", "_law_word_here", "_law_number", "_law_k"]
end
end Fp

set_option Elab.async false
set_option linter.all false
set_option maxRecDepth 100000
set_option maxHeartbeats 4000000
namespace Fp
open PySem PySem.Spec PyProof.Rows L2
theorem scl_one (l : Tb) : scl 1 l = l := by
  unfold scl
  have : (fun p : Str × Int => ((p.1, 1 * p.2) : Str × Int)) = id := by
    funext p
    show ((p.1, 1 * p.2) : Str × Int) = p
    rw [Int.one_mul]
  rw [this, List.map_id]
theorem canon_len (l : Tb) : (canon l).length = l.length := by
  unfold canon
  rw [List.length_map, ordW_len]
/-- one table laid to another one, tidied -/
theorem vt_sum {c f : Int} {m k m' k' : Nat} {l l' : Tb} (hc : 0 < c) (h : VT c m k l) (h' : VT c m' k' l') : VT c (max m m') (k + k') (tidyM c (addT (scl f l') l)) ∧ Lk c (tidyM c (addT (scl f l') l)) (l ++ scl f l') := by
  have n1 := nd_addT (scl f l') l h.nd
  refine ⟨(vt_tidy (m := max m m') hc n1 fun p hp => ?_).mono (Nat.le_refl _) ?_, (lk_tidy n1).trans (lk_addT h.nd)⟩
  · rcases key_addT _ _ p hp with ⟨q, h1, h2⟩ | ⟨q, h1, h2⟩
    · rw [← h2]
      have := h.wd q h1
      exact ⟨this.1, by omega⟩
    · unfold scl at h1
      obtain ⟨r, h3, rfl⟩ := List.mem_map.mp h1
      rw [← h2]
      have := h'.wd r h3
      exact ⟨this.1, by show r.1.length ≤ _; omega⟩
  · have := len_addT (scl f l') l
    rw [scl_len] at this
    have := h.ln
    have := h'.ln
    omega
/-- one table behind another one, tidied -/
theorem vt_mul {c : Int} {m k m' k' : Nat} {l l' : Tb} (hc : 0 < c) (h : VT c m k l) (h' : VT c m' k' l') : VT c (m + m') (k * k') (tidyM c (multT l l')) ∧ Lk c (tidyM c (multT l l')) (prs l l') := by
  have n1 : Nd (multT l l') := nd_addT _ _ (show Nd [] from List.nodup_nil)
  have e : Lk c (multT l l') (prs l l') := lk_addT (a := []) (show Nd [] from List.nodup_nil)
  refine ⟨(vt_tidy (m := m + m') hc n1 fun p hp => ?_).mono (Nat.le_refl _) ?_, (lk_tidy n1).trans e⟩
  · rcases key_addT _ _ p hp with ⟨q, h1, h2⟩ | ⟨q, h1, h2⟩
    · cases h1
    · unfold prs at h1
      obtain ⟨r, h3, h4⟩ := List.mem_flatMap.mp h1
      obtain ⟨s, h5, rfl⟩ := List.mem_map.mp h4
      rw [← h2]
      have a1 := h.wd r h3
      have a2 := h'.wd s h5
      refine ⟨xyz_app a1.1 a2.1, ?_⟩
      show (r.1 ++ s.1).length ≤ _
      rw [len_app]
      omega
  · have := len_addT (prs l l') []
    rw [prs_len] at this
    have b4 : ([] : Tb).length = 0 := rfl
    have b5 : l.length * l'.length ≤ k * k' := Nat.mul_le_mul h.ln h'.ln
    unfold multT
    omega
section
variable {P : Program} {w : World} {K : PySem.W.Frag} {mg : Str → Option Value} {base : Heap}
def spTog (K : PySem.W.Frag) : Sp := fun vs H Q E => ∃ (a b : Addr) (c c' : Int) (m k m' k' : Nat) (l l' : Tb), vs = [.ref a, .ref b] ∧ Bg K H a c m k l ∧ Bg K H b c' m' k' l' ∧ isCk c ∧ m ≤ 1000 ∧ m' ≤ 1000 ∧ k + k' ≤ 400000 ∧
  (c = c' → ∀ H' r t, Same H H' → H r = none → Bg K H' r c (max m m') (k + k') t → Lk c t (l ++ l') → Q (.ref r) H') ∧ (c ≠ c' → E (.ref (He.ga K "UnlikeClocks")) none H)
abbrev nTog : List Str := ["one", "other"]
theorem sc_together : FnScope nTog nTog (defScope s_together) := ⟨rfl, rfl, rfl, by decide +kernel, rfl, by decide +kernel, by decide +kernel⟩
theorem ok_together (T : Top K mg) : OkX P w K mg base 8 "together" nTog (spTog K) := by
  obtain ⟨fd, F⟩ := fn_together T
  refine ⟨⟨fd, ?_, F.bindsN fun _ _ _ _ _ _ us hl => match us, hl with | [_, _], _ => rfl⟩, g_together T, F.kp⟩
  refine F.ok sc_together (fun vs H Q E h => ?_) (fun cdv A outer s H vs Q E hr h => ?_)
  · obtain ⟨a, b, c, c', m, k, m', k', l, l', rfl, _⟩ := h
    rfl
  · obtain ⟨a, b, c, c', m, k, m', k', l, l', rfl, h1, h2, hck, hm, hm', hk, q1, q2⟩ := h
    have hr1 : Room 1 _ := hr.mono (by decide)
    have hr2 : Room 2 _ := hr.mono (by decide)
    obtain ⟨hc2, hc7⟩ := ck_range hck
    have hc0 : 0 < c := by omega
    obtain ⟨dx, t, ea, wa⟩ := id h1.1
    refine ⟨_, pss_cons (ps_expr (pcX (takes_of rfl rfl rfl rfl) (ok_check_clocks T) hr1 (pa_cons (pv 0) (pa_cons (pv 1) pa_nil))))
      (pss_one (ps_ret (pc (ok_bag_of T) hr (pa_cons (pe_fld (pv 0) rfl) (pa_cons (pc (ok_added T) hr2 (pa_cons (pc (ok_table_of T) hr1 (pa_cons (pv 0) pa_nil)) (pa_cons (pc (ok_table_of T) hr1 (pa_cons (pv 1) pa_nil)) (pa_cons pe_int (pa_cons (pe_fld (pv 0) rfl) pa_nil))))) pa_nil))))), ?_⟩
    refine ⟨_, rfl, _, rfl, a, b, c, c', _, _, rfl, h1.1, h2.1, fun hcc => ?_, fun hcc => q2 hcc⟩
    subst hcc
    have v1 := vt_canon h1.2
    have v2 := vt_canon h2.2
    refine ⟨_, rfl, a, _, dx, _, _, rfl, ea, cls_Bag T, na_Bag_clock T, flds_clock _ _, ?_⟩
    refine ⟨_, rfl, a, c, canon l, rfl, h1.1, v1.nd, fun D1 hD1 => ?_⟩
    have s1 := same_upd (o := .dK (kv (canon l))) hD1
    refine ⟨_, rfl, b, c, canon l', rfl, h2.1.same s1, v2.nd, fun D2 hD2 => ?_⟩
    have s2 := same_upd (o := .dK (kv (canon l'))) hD2
    refine ⟨_, rfl, a, _, dx, _, _, rfl, s2 _ _ (s1 _ _ ea), cls_Bag T, na_Bag_clock T, flds_clock _ _, ?_⟩
    refine ⟨D1, D2, 1, c, canon l, canon l', rfl, hc0, hc7, s2 _ _ upd_same, upd_same, v1.nd, v2.nu, Nat.le_trans v1.ln (by omega), Nat.le_trans v2.ln (by omega), fun H3 D3 s3 n3 e3 => ?_⟩
    obtain ⟨w1, w2⟩ := vt_sum (f := 1) hc0 v1 v2
    obtain ⟨w3, w4⟩ := vt_again hc0 w1
    refine ⟨c, D3, _, rfl, hck, e3, w1.nd, fun p hp => Nat.le_trans (w1.wd p hp).2 (by omega), Nat.le_trans w1.ln (by omega), fun H4 r s4 n4 hb4 => ?_⟩
    have s := ((s1.trans s2).trans s3)
    refine q1 rfl H4 r _ (s.trans s4) (s.free n4) ⟨hb4, w3⟩ (w4.trans (w2.trans ?_))
    rw [scl_one]
    exact (lk_canon h1.2.nd).app (lk_canon h2.2.nd)
def spBeh (K : PySem.W.Frag) : Sp := fun vs H Q E => ∃ (a b : Addr) (c c' : Int) (m k m' k' : Nat) (l l' : Tb), vs = [.ref a, .ref b] ∧ Bg K H a c m k l ∧ Bg K H b c' m' k' l' ∧ isCk c ∧ m ≤ 1000 ∧ m' ≤ 1000 ∧ k * k' ≤ 900000 ∧
  (c = c' → ∀ H' r t, Same H H' → H r = none → Bg K H' r c (m + m') (k * k') t → Lk c t (prs l l') → Q (.ref r) H') ∧ (c ≠ c' → E (.ref (He.ga K "UnlikeClocks")) none H)
theorem sc_behind : FnScope nTog nTog (defScope s_behind) := ⟨rfl, rfl, rfl, by decide +kernel, rfl, by decide +kernel, by decide +kernel⟩
theorem ok_behind (T : Top K mg) : OkX P w K mg base 8 "behind" nTog (spBeh K) := by
  obtain ⟨fd, F⟩ := fn_behind T
  refine ⟨⟨fd, ?_, F.bindsN fun _ _ _ _ _ _ us hl => match us, hl with | [_, _], _ => rfl⟩, g_behind T, F.kp⟩
  refine F.ok sc_behind (fun vs H Q E h => ?_) (fun cdv A outer s H vs Q E hr h => ?_)
  · obtain ⟨a, b, c, c', m, k, m', k', l, l', rfl, _⟩ := h
    rfl
  · obtain ⟨a, b, c, c', m, k, m', k', l, l', rfl, h1, h2, hck, hm, hm', hk, q1, q2⟩ := h
    have hr1 : Room 1 _ := hr.mono (by decide)
    have hr2 : Room 2 _ := hr.mono (by decide)
    obtain ⟨hc2, hc7⟩ := ck_range hck
    have hc0 : 0 < c := by omega
    obtain ⟨dx, t, ea, wa⟩ := id h1.1
    refine ⟨_, pss_cons (ps_expr (pcX (takes_of rfl rfl rfl rfl) (ok_check_clocks T) hr1 (pa_cons (pv 0) (pa_cons (pv 1) pa_nil))))
      (pss_one (ps_ret (pc (ok_bag_of T) hr (pa_cons (pe_fld (pv 0) rfl) (pa_cons (pc (ok_multiplied T) hr2 (pa_cons (pc (ok_table_of T) hr1 (pa_cons (pv 0) pa_nil)) (pa_cons (pc (ok_table_of T) hr1 (pa_cons (pv 1) pa_nil)) (pa_cons (pe_fld (pv 0) rfl) pa_nil)))) pa_nil))))), ?_⟩
    refine ⟨_, rfl, _, rfl, a, b, c, c', _, _, rfl, h1.1, h2.1, fun hcc => ?_, fun hcc => q2 hcc⟩
    subst hcc
    have v1 := vt_canon h1.2
    have v2 := vt_canon h2.2
    refine ⟨_, rfl, a, _, dx, _, _, rfl, ea, cls_Bag T, na_Bag_clock T, flds_clock _ _, ?_⟩
    refine ⟨_, rfl, a, c, canon l, rfl, h1.1, v1.nd, fun D1 hD1 => ?_⟩
    have s1 := same_upd (o := .dK (kv (canon l))) hD1
    refine ⟨_, rfl, b, c, canon l', rfl, h2.1.same s1, v2.nd, fun D2 hD2 => ?_⟩
    have s2 := same_upd (o := .dK (kv (canon l'))) hD2
    refine ⟨_, rfl, a, _, dx, _, _, rfl, s2 _ _ (s1 _ _ ea), cls_Bag T, na_Bag_clock T, flds_clock _ _, ?_⟩
    have n12 : D1 ≠ D2 := fun e => by
      rw [← e, upd_same] at hD2
      cases hD2
    refine ⟨D1, D2, c, m, k, m', k', canon l, canon l', rfl, hc0, hc7, n12, s2 _ _ upd_same, upd_same, v1, v2, hm, hm', hk, fun H3 D3 s3 n3 e3 => ?_⟩
    obtain ⟨w1, w2⟩ := vt_mul hc0 v1 v2
    obtain ⟨w3, w4⟩ := vt_again hc0 w1
    refine ⟨c, D3, _, rfl, hck, e3, w1.nd, fun p hp => Nat.le_trans (w1.wd p hp).2 (by omega), Nat.le_trans w1.ln (by omega), fun H4 r s4 n4 hb4 => ?_⟩
    have s := ((s1.trans s2).trans s3)
    exact q1 rfl H4 r _ (s.trans s4) (s.free n4) ⟨hb4, w3⟩ (w4.trans (w2.trans (Lk.prs (lk_canon h1.2.nd) (lk_canon h2.2.nd))))
/-! ### powers -/
theorem vt_unit {c : Int} (hc : 2 ≤ c) (m : Nat) : VT c m 1 [("", 1)] := ⟨by show [(("" : Str))].Nodup; simp, fun q hq => by
    have : q = (("" : Str), (1 : Int)) := by simpa using hq
    subst this
    exact ⟨by decide, by show (1 : Int) < c; omega⟩, fun q hq => by
    have : q = (("" : Str), (1 : Int)) := by simpa using hq
    subst this
    exact ⟨by decide +kernel, Nat.zero_le _⟩, Nat.le_refl _⟩
end
end Fp

set_option Elab.async false
set_option linter.all false
set_option maxRecDepth 100000
set_option maxHeartbeats 4000000
namespace Fp
open PySem PySem.Spec PyProof.Rows L2
theorem vt_scl {c f : Int} {m k : Nat} {l : Tb} (hc : 0 < c) (h : VT c m k l) : VT c m k (tidyM c (scl f l)) ∧ Lk c (tidyM c (scl f l)) (scl f l) := by
  have n1 := scl_nd (f := f) h.nd
  refine ⟨(vt_tidy hc n1 fun p hp => ?_).mono (Nat.le_refl _) (by rw [scl_len]; exact h.ln), lk_tidy n1⟩
  unfold scl at hp
  obtain ⟨q, hq, rfl⟩ := List.mem_map.mp hp
  exact h.wd q hq
section
variable {P : Program} {w : World} {K : PySem.W.Frag} {mg : Str → Option Value} {base : Heap}
def spTimes (K : PySem.W.Frag) : Sp := fun vs H Q _ => ∃ (a : Addr) (n c : Int) (m k : Nat) (l : Tb), vs = [.ref a, .int n] ∧ Bg K H a c m k l ∧ isCk c ∧ m ≤ 100000 ∧ k ≤ 900000 ∧
  ∀ H' r t, Same H H' → H r = none → Bg K H' r c m k t → Lk c t (scl n l) → Q (.ref r) H'
abbrev nTimes : List Str := ["bag", "number"]
theorem sc_times : FnScope nTimes nTimes (defScope s_times) := ⟨rfl, rfl, rfl, by decide +kernel, rfl, by decide +kernel, by decide +kernel⟩
theorem ok_times (T : Top K mg) : Ok P w K mg base 8 "times" nTimes (spTimes K) := by
  obtain ⟨fd, F⟩ := fn_times T
  refine ⟨⟨fd, ?_, F.bindsN fun _ _ _ _ _ _ us hl => match us, hl with | [_, _], _ => rfl⟩, g_times T, F.kp⟩
  refine F.ok sc_times (fun vs H Q E h => ?_) (fun cdv A outer s H vs Q E hr h => ?_)
  · obtain ⟨a, n, c, m, k, l, rfl, _⟩ := h
    rfl
  · obtain ⟨a, n, c, m, k, l, rfl, h1, hck, hm, hk, q⟩ := h
    have hr1 : Room 1 _ := hr.mono (by decide)
    have hr2 : Room 2 _ := hr.mono (by decide)
    obtain ⟨hc2, hc7⟩ := ck_range hck
    have hc0 : 0 < c := by omega
    obtain ⟨dx, t, ea, wa⟩ := id h1.1
    have v1 := vt_canon h1.2
    refine ⟨_, PSs.nox (pss_cons (ps_if (pt_not (pt_val (pc (ok_is_integer T) hr1 (pa_cons (pv 1) pa_nil)))) (pss_one ps_never) pss_nil)
      (pss_one (ps_ret (pc (ok_bag_of T) hr (pa_cons (pe_fld (pv 0) rfl) (pa_cons (pc (ok_scaled T) hr2 (pa_cons (pc (ok_table_of T) hr1 (pa_cons (pv 0) pa_nil)) (pa_cons (pv 1) (pa_cons (pe_fld (pv 0) rfl) pa_nil)))) pa_nil)))))), ?_⟩
    refine ⟨_, rfl, n, rfl, true, rfl, iteF ?_⟩
    refine ⟨_, rfl, a, _, dx, _, _, rfl, ea, cls_Bag T, na_Bag_clock T, flds_clock _ _, ?_⟩
    refine ⟨_, rfl, a, c, canon l, rfl, h1.1, v1.nd, fun D1 hD1 => ?_⟩
    have s1 := same_upd (o := .dK (kv (canon l))) hD1
    refine ⟨_, rfl, _, rfl, a, _, dx, _, _, rfl, s1 _ _ ea, cls_Bag T, na_Bag_clock T, flds_clock _ _, ?_⟩
    refine ⟨D1, n, c, canon l, rfl, hc0, hc7, upd_same, v1.nd, v1.nu, Nat.le_trans v1.ln (by omega), fun H3 D3 s3 n3 e3 => ?_⟩
    obtain ⟨w1, w2⟩ := vt_scl (f := n) hc0 v1
    obtain ⟨w3, w4⟩ := vt_again hc0 w1
    refine ⟨c, D3, _, rfl, hck, e3, w1.nd, fun p hp => Nat.le_trans (w1.wd p hp).2 (by omega), Nat.le_trans w1.ln (by omega), fun H4 r s4 n4 hb4 => ?_⟩
    exact q H4 r _ ((s1.trans s3).trans s4) ((s1.trans s3).free n4) ⟨hb4, w3⟩ (w4.trans (w2.trans (Lk.scl n (lk_canon h1.2.nd))))
end
end Fp

set_option Elab.async false
set_option linter.all false
set_option maxRecDepth 100000
set_option maxHeartbeats 2000000
/-! a text told backward: s[::-1] -/
namespace L2
open PySem PySem.Spec PyProof.Rows
def revS (z : Str) : Str := ⟨z.cps.toList.reverse.toArray⟩
theorem revS_len (z : Str) : (revS z).length = z.length := by
  show (z.cps.toList.reverse.toArray).size = z.cps.size
  simp
theorem rev_ix (z : Str) : ((Builtin.Str.strSliceIndices none none (-1) z.length).filterMap (z.cps[·]?)).toArray = (revS z).cps := by
  show ((sliceRange ((z.cps.size : Int) - 1) (-1) (-1)).filterMap (z.cps[·]?)).toArray = _
  rw [PySem.W.krv_sliceRange, PySem.W.krv_range, List.filterMap_reverse, PySem.W.krv_all]
  rfl
def tRevS (te : TE) : TE := fun σ H Q => te σ H fun x H1 => ∃ z, x = .str z ∧ z.length ≤ sizeLine ∧ Q (.str (revS z)) H1
theorem pe_revS {X : Cx} {e : Expr} {te : TE} {k : Nat} {p1 p2 p3 pos : Pos} (he : PE X e te) : PE X (.Subscript e (.Slice none none (some (.UnaryOp .USub (.Constant (.int 1) k p1) p2)) p3) pos) (tRevS te) := by
  refine ⟨fun pins s σ H Q I h => ?_⟩
  refine Subscript_ (thn (he.run pins s σ H _ I h) fun v s1 ⟨x, H1, I1, r1, q1⟩ => ?_)
  obtain ⟨z, ex, hz, q⟩ := q1
  subst ex
  obtain ⟨t, rfl⟩ := r1
  have hst : PO X (some (.UnaryOp .USub (.Constant (.int 1) k p1) p2)) (tPart (tUn (rU fun i => .int (-i)) (tC (.int 1)))) := po_some (pe_un un_neg pe_int)
  refine wpAny_Slice (thn (po_none.run pins s1 σ H1 (fun o H2 => o = none ∧ H2 = H1) I1 ⟨rfl, rfl⟩) fun vl s2 ⟨l, H2, I2, pl, el, e2⟩ => ?_)
  subst el e2
  refine thn (po_none.run pins s2 σ H2 (fun o H3 => o = none ∧ H3 = H2) I2 ⟨rfl, rfl⟩) fun vu s3 ⟨u, H3, I3, pu, eu, e3⟩ => ?_
  subst eu e3
  refine thn (hst.run pins s3 σ H3 (fun o H4 => o = some (-1) ∧ H4 = H3) I3 ⟨1, rfl, -1, rfl, rfl, rfl⟩) fun vs s4 ⟨o, H4, I4, ps, eo, e4⟩ => ?_
  subst eo e4
  have I5 : Inv X pins σ H4 { s4 with heap := s4.heap.push { cls := .type "slice", data := .fields #[vl, vu, vs] } } := I4.kept (t' := s4.toks) fun b ob q => Heap.get?_push_of_some _ q
  obtain ⟨l, rfl, hl⟩ := IsPart.raw pl
  obtain ⟨u, rfl, hu⟩ := IsPart.raw pu
  obtain ⟨st, rfl, hst'⟩ := IsPart.raw ps
  show wpAny (model X.prog X.w) X.A (subscriptTail e (.Slice none none (some (.UnaryOp .USub (.Constant (.int 1) k p1) p2)) p3) (.str z t) (.ref s4.heap.objs.size)) (EP X pins σ Q) X.xe { s4 with heap := s4.heap.push { cls := .type "slice", data := .fields #[partValue l, partValue u, partValue st] } }
  refine tail_any (ops := [.str z t, .ref s4.heap.objs.size]) (typeIs_str _ z t) (F.slot_str_getitem.lookup) ?_ (by with_unfolding_all rfl)
  refine wpAny_getItem_str_slice (l := l) (u := u) (st := st) ⟨_, Heap.get?_push_size _ rfl, rfl, rfl⟩ (by rw [hst'] <;> rfl) ?_
  have e1 : (st.map (·.1)).getD 1 = -1 := by rw [hst'] <;> rfl
  show Made.post (if (((st.map (·.1)).getD 1) == 1 && (Builtin.Str.strSliceIndices (l.map (·.1)) (u.map (·.1)) ((st.map (·.1)).getD 1) z.length).length == z.length) = true then Made.val (.str z t)
    else Made.str ⟨((Builtin.Str.strSliceIndices (l.map (·.1)) (u.map (·.1)) ((st.map (·.1)).getD 1) z.length).filterMap (z.cps[·]?)).toArray⟩) (EP X pins σ Q) _
  rw [e1, hl, hu, if_neg (by simp), rev_ix]
  refine ⟨?_, .str _, H4, I5.tok _, ⟨_, rfl⟩, q⟩
  show (revS z).length ≤ sizeLine
  rw [revS_len]
  exact hz
end L2

set_option Elab.async false
set_option linter.all false
set_option maxRecDepth 100000
set_option maxHeartbeats 4000000
namespace Fp
open PySem PySem.Spec PyProof.Rows L2
/-! ### words told backward -/
theorem cps_app (u v : Str) : (u ++ v).cps.toList = u.cps.toList ++ v.cps.toList := by
  show (u.cps ++ v.cps).toList = _
  exact Array.toList_append
theorem revS_cps (u : Str) : (revS u).cps.toList = u.cps.toList.reverse := rfl
theorem revS_revS (u : Str) : revS (revS u) = u := PySem.W.str_of_cps (by rw [revS_cps, revS_cps, List.reverse_reverse])
theorem revS_app (u v : Str) : revS (u ++ v) = revS v ++ revS u := PySem.W.str_of_cps (by rw [revS_cps, cps_app, cps_app, revS_cps, revS_cps, List.reverse_append])
theorem revS_inj {u v : Str} (h : revS u = revS v) : u = v := by rw [← revS_revS u, h, revS_revS]
theorem xyz_rev {u : Str} (h : xyz u) : xyz (revS u) := fun c hc => h c (by rw [revS_cps] at hc; exact List.mem_reverse.mp hc)
def revT (l : Tb) : Tb := l.map fun p => (revS p.1, p.2)
theorem revT_cons (p : Str × Int) (l : Tb) : revT (p :: l) = (revS p.1, p.2) :: revT l := rfl
theorem revT_revT (l : Tb) : revT (revT l) = l := by
  unfold revT
  rw [List.map_map]
  have : ((fun p : Str × Int => ((revS p.1, p.2) : Str × Int)) ∘ fun p : Str × Int => ((revS p.1, p.2) : Str × Int)) = id := by
    funext p
    show ((revS (revS p.1), p.2) : Str × Int) = p
    rw [revS_revS]
  rw [this, List.map_id]
theorem revT_tot (l : Tb) (x : Str) : tot (revT l) x = tot l (revS x) := by
  induction l with
  | nil => rfl
  | cons p r ih =>
    rw [revT_cons, tot_cons, tot_cons, ih]
    by_cases h : p.1 = revS x
    · rw [if_pos h, if_pos (show revS p.1 = x by rw [h, revS_revS])]
    · rw [if_neg h, if_neg (show ¬ revS p.1 = x from fun z => h (by rw [← z, revS_revS]))]
theorem Lk.rev {c : Int} {l l' : Tb} (h : Lk c l l') : Lk c (revT l) (revT l') := fun x => by rw [revT_tot, revT_tot, h]
theorem revT_app (l m : Tb) : revT (l ++ m) = revT l ++ revT m := List.map_append
theorem revT_fwd (p : Str × Int) (m : Tb) : revT (fwd p m) = bwd (revS p.1, p.2) (revT m) := by
  unfold revT fwd bwd
  rw [List.map_map, List.map_map]
  apply List.map_congr_left
  intro q _
  show ((revS (p.1 ++ q.1), p.2 * q.2) : Str × Int) = (revS q.1 ++ revS p.1, q.2 * p.2)
  rw [revS_app, Int.mul_comm]
theorem revT_prs (l m : Tb) (x : Str) : tot (revT (prs l m)) x = tot (prs (revT m) (revT l)) x := by
  induction l with
  | nil =>
    show tot (revT []) x = tot (prs (revT m) []) x
    rw [prs_nil_r]
    rfl
  | cons p r ih =>
    rw [revT_cons, tot_prs_cons_r, prs_cons, revT_app, tot_app, ih]
    congr 1
    show tot (revT (fwd p m)) x = _
    rw [revT_fwd]
theorem revT_nd {l : Tb} (h : Nd l) : Nd (revT l) := by
  unfold Nd revT
  rw [List.map_map]
  show (l.map (revS ∘ fun p => p.1)).Nodup
  rw [← List.map_map]
  exact List.Pairwise.map revS (fun a b hab z => hab (revS_inj z)) h
theorem vt_rev {c : Int} {m k : Nat} {l : Tb} (h : VT c m k l) : VT c m k (revT l) :=
  ⟨revT_nd h.nd, fun p hp => by
    obtain ⟨q, hq, rfl⟩ := List.mem_map.mp hp
    exact h.nu q hq, fun p hp => by
    obtain ⟨q, hq, rfl⟩ := List.mem_map.mp hp
    refine ⟨xyz_rev (h.wd q hq).1, ?_⟩
    show (revS q.1).length ≤ m
    rw [revS_len]
    exact (h.wd q hq).2, by
    unfold revT
    rw [List.length_map]
    exact h.ln⟩
theorem revT_take {l : Tb} {i : Nat} {p : Str × Int} (e : l[i]? = some p) : revT (l.take (i + 1)) = revT (l.take i) ++ [(revS p.1, p.2)] := by
  rw [List.take_add_one, e, revT_app]
  rfl
/-! ### sums over words -/
end Fp

set_option Elab.async false
set_option linter.all false
set_option maxRecDepth 100000
set_option maxHeartbeats 2000000
/-! y = {k: v for ..}, y a name of the def -/
namespace L2
open PySem PySem.Spec PyProof.Rows
section
variable {X : Cx}
theorem sw_dict {ke ve : Expr} {cs : List Comprehension} {sco : Scope} {q qy : Pos} {nm : Str} {ln : Nat} {en : Env} (h1 : en.scope.kind = .function) (h2 : en.scope.names.lookup nm = some .local) (h3 : (qy.line == q.line) = true)
    (h4 : (sco.names.any fun (a, b) => a == nm && (b == .local || b == .cell)) = false) : swapsWith (.DictComp ke ve cs sco q) (some (.Name nm qy)) ln en = pure true := by
  have f1 : en.kindOf nm = some .local := h2
  have f2 : en.blockKind = .function := by unfold Env.blockKind; rw [h1] <;> rfl
  unfold swapsWith
  simp only [f1, f2, h4, h3, Expr.pos]
  rfl
theorem ps_setDc {j : Nat} {nm : Str} {qy : Pos} {ke ve tgt itr : Expr} {conds : List Expr} {sco : Scope} {mine : List (Str × Nat)} {q sq : Pos} {ti : TI} {tg : TG} {tc : TT} {t1 t2 : TE} (calm : X.calm = true) (nN : X.N.Nodup) (at_ : X.N[j]? = some nm) (loc : X.env.scope.names.lookup nm = some .local)
    (sw : swapsWith (.DictComp ke ve [⟨tgt, itr, conds, 0⟩] sco q) (some (.Name nm qy)) sq.line X.env = pure true) (pi : PI X tgt itr ti) (bo : BlkOk X.N X.env.scope sco mine)
    (g1 : ∀ (s : Shared) (H : Hp) (C : Addr) (cl : List (Str × Addr)) (fp : List Addr), PG (X.blk s H sco (compEnvC sco cl C X.env) fp) tgt tg) (g2 : ∀ (s : Shared) (H : Hp) (C : Addr) (cl : List (Str × Addr)) (fp : List Addr), PTs (X.blk s H sco (compEnvC sco cl C X.env) fp) conds tc)
    (g3 : ∀ (s : Shared) (H : Hp) (C : Addr) (cl : List (Str × Addr)) (fp : List Addr), PE (X.blk s H sco (compEnvC sco cl C X.env) fp) ke t1) (g4 : ∀ (s : Shared) (H : Hp) (C : Addr) (cl : List (Str × Addr)) (fp : List Addr), PE (X.blk s H sco (compEnvC sco cl C X.env) fp) ve t2)
    (fo : ∀ y, foldedSetIterable itr X.env y = pure y := by intro _; rfl) :
    PS X (.Assign [.Name nm qy] (.DictComp ke ve [⟨tgt, itr, conds, 0⟩] sco q) sq) (tAsg (tDc ti tg tc t1 t2 (mine.map (·.2))) (gName j)) := by
  constructor
  intro pn st sl hp ends inv rd
  rw [exec_Assign_Name_used _ _ _ _ sw]
  refine wpAny_bind (wpAny_standAt ?_)
  refine wpAny_bind ?_
  show wpAny _ X.A (do let _ ← comprehension (.DictComp ke ve [⟨tgt, itr, conds, 0⟩] sco q) sco X.env (firstIterPos [⟨tgt, itr, conds, 0⟩] q) newDict false (eval itr X.env) (some (assign (.Name nm qy) X.env))) _ _ st
  have rd' : tDc ti tg tc t1 t2 (mine.map (·.2)) sl hp (fun x H1 => gName j x sl H1 ends.nx) := rd
  refine wpAny_bind (thn (dc_core (Qf := fun _ st' => SP X pn ends .next st') calm nN inv pi bo g1 g2 g3 g4 fo rd' fun D C st1 mm hp1 inv1 q1 ns fr => ?_) fun _ st' hq => ?_)
  · show wpAny _ _ (assign (.Name nm qy) X.env (.ref D)) _ _ _
    refine wpAny_assign_Name (store_ok2 (v := V.ref D) inv1 nN at_ (.inl loc) rfl (fun st2 inv2 ⟨b, sb, hb⟩ => ?_) (.inr loc))
    obtain ⟨a0, a1, a2, a3, a4, a5⟩ := fr
    have cb : C ≠ b := by
      rcases hb with z | z
      · rw [z]
        exact a1
      · exact fun e => a4 nm b z e.symm
    refine ⟨mm, ns.sameBut sb cb, fun h3 sb3 => ⟨_, hp1, inv2.turned (t' := st2.toks) (fun b o nb e => (sb3.2 b nb).trans e) a0 a1 a3 a4 a5, q1⟩⟩
  · exact wpAny_pure (wpAny_pure hq)
end
end L2

set_option Elab.async false
set_option linter.all false
set_option maxRecDepth 100000
set_option maxHeartbeats 4000000
namespace Fp
open PySem PySem.Spec PyProof.Rows L2
section
variable {P : Program} {w : World} {K : PySem.W.Frag} {mg : Str → Option Value} {base : Heap}
theorem nd_prefix_has {l : Tb} (h : Nd l) {i : Nat} {p : Str × Int} (e : l[i]? = some p) : has (l.take i) p.1 = false := by
  cases z : has (l.take i) p.1 with
  | false => rfl
  | true =>
    exfalso
    have h1 : Nd (l.take (i + 1)) := by
      unfold Nd
      rw [List.map_take]
      exact (List.take_sublist _ _).nodup h
    unfold Nd at h1
    rw [List.take_add_one, e, List.map_append] at h1
    exact (List.nodup_append.mp h1).2.2 p.1 (has_iff.mp z) p.1 (by simp) rfl
def spMir (K : PySem.W.Frag) : Sp := fun vs H Q _ => ∃ (a : Addr) (c : Int) (m k : Nat) (l : Tb), vs = [.ref a] ∧ Bg K H a c m k l ∧ isCk c ∧ m ≤ 100000 ∧ k ≤ 1000000 ∧
  ∀ H' b t, Same H H' → H b = none → Bg K H' b c m k t → Lk c t (revT l) → Q (.ref b) H'
abbrev nMir : List Str := ["bag", "word", "number"]
end
end Fp

set_option Elab.async false
set_option linter.all false
set_option maxRecDepth 100000
set_option maxHeartbeats 4000000
namespace L2
open PySem PySem.Spec PyProof.Rows
section
variable {X : Cx}
theorem PE.weak {e : Expr} {t t' : TE} (h : PE X e t) (w : ∀ σ H Q, t' σ H Q → t σ H Q) : PE X e t' := ⟨fun pins s σ H Q I hw => h.run pins s σ H Q I (w σ H Q hw)⟩
theorem PS.weak {e : Stmt} {t t' : TS} (h : PS X e t) (w : ∀ D σ H, t' D σ H → t D σ H) : PS X e t' := ⟨fun pins s σ H D I hw => h.run pins s σ H D I (w D σ H hw)⟩
theorem PSs.weak {e : List Stmt} {t t' : TS} (h : PSs X e t) (w : ∀ D σ H, t' D σ H → t D σ H) : PSs X e t' := ⟨fun pins s σ H D I hw => h.run pins s σ H D I (w D σ H hw)⟩
def rNeP (K : PySem.W.Frag) : R2 := fun x y H Q => ∃ d e, Dp K H x d ∧ Dp K H y e ∧ d.plain = true ∧ e.plain = true ∧ d.depth ≤ 64 ∧ Q (.bl (!PyData.eqv d e)) H
theorem op_neP (hu : X.A.units + 64 < cLine) : OpR X (compareOp .NotEq) (rNeP X.K) := by
  intro pins s σ H x y v u Q I rx ry h
  obtain ⟨d, e, hd, he, sd, se, hdp, q⟩ := h
  obtain ⟨as, r1⟩ := Dp.reads I d x v hd rx
  obtain ⟨bs, r2⟩ := Dp.reads I e y u he ry
  exact SeqAt.ne_plain r1 r2 sd se (by omega) ⟨.bl _, H, I, rfl, q⟩
end
end L2
namespace Fp
open PySem PySem.Spec PyProof.Rows L2
theorem head_of {c : Int} {m k : Nat} {g : Tb} (hck : isCk c) (vg : VT c m k g) (hne : g ≠ []) : ∃ turn h, Hd c turn h g := by
  obtain ⟨hc2, hc7⟩ := ck_range hck
  obtain ⟨h, tl, eo, hh, hmin⟩ := ord_first hne
  have hgn : 1 ≤ num g h ∧ num g h < c := by
    obtain ⟨p, hp, e⟩ := List.mem_map.mp hh
    obtain ⟨j, ej⟩ := List.getElem?_of_mem hp
    rw [← e, num_of vg.nd ej]
    exact vg.nu p hp
  obtain ⟨nsv, _, hinv⟩ := inv_get hck
  obtain ⟨tn, _, _, _, hti⟩ := hinv (num g h).toNat (by omega)
  have hti := (hti (by omega)).1
  rw [Int.toNat_of_nonneg (by omega)] at hti
  exact ⟨tn, h, vg.nd, hh, hmin, hti⟩
/-- one quotient only -/
theorem quot_one {c : Int} {m k : Nat} {g l q r : Tb} (hck : isCk c) (vg : VT c m k g) (hne : g ≠ []) (e : Lk c l (prs g q)) (f : Lk c l (prs g r)) : Lk c q r := by
  obtain ⟨turn, h, hd⟩ := head_of hck vg hne
  refine (div_one (T0 := []) (ck_range hck).1 hd (by rw [List.append_nil]; exact e) ⟨List.nodup_nil, fun p hp => by cases hp⟩ (fun x hx => by cases hx) f).2
theorem revT_prs_lk {c : Int} (l m : Tb) : Lk c (revT (prs l m)) (prs (revT m) (revT l)) := fun x => by rw [revT_prs]
theorem revT_ne {l : Tb} (h : l ≠ []) : revT l ≠ [] := fun z => h (by
  have := congrArg revT z
  rw [revT_revT] at this
  exact this)
/-- not nothing by the clock -/
theorem lk_ne {c : Int} {m k m' k' : Nat} {l t : Tb} (hc : 0 < c) (vl : VT c m k l) (vt : VT c m' k' t) (e : Lk c t l) (h : l ≠ []) : t ≠ [] := fun z => by
  have e2 := lk_same hc vt vl e
  subst z
  have := congrArg List.length e2
  rw [canon_len, canon_len] at this
  exact h (List.eq_nil_of_length_eq_zero this.symm)
theorem quot_one_r {c : Int} {m k : Nat} {g l q r : Tb} (hck : isCk c) (vg : VT c m k g) (hne : g ≠ []) (e : Lk c l (prs q g)) (f : Lk c l (prs r g)) : Lk c q r := by
  have h := quot_one hck (vt_rev vg) (revT_ne hne) ((Lk.rev e).trans (revT_prs_lk q g)) ((Lk.rev f).trans (revT_prs_lk r g))
  have := Lk.rev h
  rw [revT_revT, revT_revT] at this
  exact this
section
variable {P : Program} {w : World} {K : PySem.W.Frag} {mg : Str → Option Value} {base : Heap}
theorem Bg.as {H : Hp} {b : Addr} {c : Int} {m k m' k' : Nat} {l l' : Tb} (hc : 0 < c) (h : Bg K H b c m k l) (v : VT c m' k' l') (e : Lk c l l') : Bg K H b c m' k' l' := ⟨lk_same hc h.2 v e ▸ h.1, v⟩
theorem rest_rd {H : Hp} {a b : Addr} {c : Int} {g l : Tb} {m k mg kg : Nat} {Q : VK} {E : XK} (h1 : Bg K H a c mg kg g) (h2 : Bg K H b c m k l) (hck : isCk c) (hk : k ≤ 2500) (hkg : kg ≤ 100000) (hmg : mg ≤ 1000) (hm : m ≤ 1000) (hn : k + k * ((m + 1) * (kg + 1)) ≤ 1000000) (hne : g ≠ [])
    (q1 : ∀ (H' : Hp) (r : Addr) (q : Tb), Same H H' → H r = none → Bg K H' r c m (k + k * ((m + 1) * (kg + 1))) q → Lk c l (prs g q) → Q (.ref r) H') (q2 : ∀ H', Same H H' → (∀ q, ¬ Lk c l (prs g q)) → Q .non H') : spRest K [.ref a, .ref b] H Q E :=
  ⟨a, b, c, c, g, l, m, k, mg, kg, m, sufU g l m, rfl, h1, h2, hck, hk, hkg, hmg, fun z => absurd z hne, fun _ z => absurd rfl z, fun _ _ => ⟨uw_suf h2.2 h1.2 hm hn, fun H' r q s n hb hq => q1 H' r q s n (hb.mono (Nat.le_refl _) (sufU_le h2.2 h1.2)) hq, q2⟩⟩
theorem rest_some {H : Hp} {a b : Addr} {c : Int} {g l q0 : Tb} {m k mg kg m0 k0 : Nat} {Q : VK} {E : XK} (h1 : Bg K H a c mg kg g) (h2 : Bg K H b c m k l) (hck : isCk c) (hk : k ≤ 2500) (hkg : kg ≤ 100000) (hmg : mg ≤ 1000) (hm : m ≤ 1000) (hn : k + k * ((m + 1) * (kg + 1)) ≤ 1000000) (hne : g ≠ [])
    (v0 : VT c m0 k0 q0) (e : Lk c l (prs g q0)) (q1 : ∀ (H' : Hp) (r : Addr), Same H H' → H r = none → Bg K H' r c m0 k0 q0 → Q (.ref r) H') : spRest K [.ref a, .ref b] H Q E :=
  rest_rd h1 h2 hck hk hkg hmg hm hn hne (fun H' r q s n hb hq => q1 H' r s n (hb.as (by have := (ck_range hck).1; omega) v0 (quot_one hck h1.2 hne hq e))) fun H' s hno => absurd e (hno q0)
def spAhead (K : PySem.W.Frag) : Sp := fun vs H Q _ => ∃ (a b : Addr) (c : Int) (l g : Tb) (m k mg kg : Nat), vs = [.ref a, .ref b] ∧ Bg K H a c m k l ∧ Bg K H b c mg kg g ∧ isCk c ∧ k ≤ 2500 ∧ kg ≤ 100000 ∧ mg ≤ 1000 ∧ m ≤ 1000 ∧ k + k * ((m + 1) * (kg + 1)) ≤ 1000000 ∧ g ≠ [] ∧
  (∀ (H' : Hp) (r : Addr) (q : Tb), Same H H' → H r = none → Bg K H' r c m (k + k * ((m + 1) * (kg + 1))) q → Lk c l (prs q g) → Q (.ref r) H') ∧ (∀ H', Same H H' → (∀ q, ¬ Lk c l (prs q g)) → Q .non H')
abbrev nAhead : List Str := ["bag", "back", "found"]
theorem rest_none {H : Hp} {a b : Addr} {c : Int} {g l : Tb} {m k mg kg : Nat} {Q : VK} {E : XK} (h1 : Bg K H a c mg kg g) (h2 : Bg K H b c m k l) (hck : isCk c) (hk : k ≤ 2500) (hkg : kg ≤ 100000) (hmg : mg ≤ 1000) (hm : m ≤ 1000) (hn : k + k * ((m + 1) * (kg + 1)) ≤ 1000000) (hne : g ≠ [])
    (no : ∀ q, ¬ Lk c l (prs g q)) (q2 : ∀ H', Same H H' → Q .non H') : spRest K [.ref a, .ref b] H Q E :=
  rest_rd h1 h2 hck hk hkg hmg hm hn hne (fun H' r q s n hb hq => absurd hq (no q)) fun H' s _ => q2 H' s
theorem ahead_some {H : Hp} {a b : Addr} {c : Int} {g l q0 : Tb} {m k mg kg m0 k0 : Nat} {Q : VK} {E : XK} (h1 : Bg K H a c m k l) (h2 : Bg K H b c mg kg g) (hck : isCk c) (hk : k ≤ 2500) (hkg : kg ≤ 100000) (hmg : mg ≤ 1000) (hm : m ≤ 1000) (hn : k + k * ((m + 1) * (kg + 1)) ≤ 1000000) (hne : g ≠ [])
    (v0 : VT c m0 k0 q0) (e : Lk c l (prs q0 g)) (q1 : ∀ (H' : Hp) (r : Addr), Same H H' → H r = none → Bg K H' r c m0 k0 q0 → Q (.ref r) H') : spAhead K [.ref a, .ref b] H Q E :=
  ⟨a, b, c, l, g, m, k, mg, kg, rfl, h1, h2, hck, hk, hkg, hmg, hm, hn, hne, fun H' r q s n hb hq => q1 H' r s n (hb.as (by have := (ck_range hck).1; omega) v0 (quot_one_r hck h2.2 hne hq e)), fun H' s hno => absurd e (hno q0)⟩
theorem ahead_none {H : Hp} {a b : Addr} {c : Int} {g l : Tb} {m k mg kg : Nat} {Q : VK} {E : XK} (h1 : Bg K H a c m k l) (h2 : Bg K H b c mg kg g) (hck : isCk c) (hk : k ≤ 2500) (hkg : kg ≤ 100000) (hmg : mg ≤ 1000) (hm : m ≤ 1000) (hn : k + k * ((m + 1) * (kg + 1)) ≤ 1000000) (hne : g ≠ [])
    (no : ∀ q, ¬ Lk c l (prs q g)) (q2 : ∀ H', Same H H' → Q .non H') : spAhead K [.ref a, .ref b] H Q E :=
  ⟨a, b, c, l, g, m, k, mg, kg, rfl, h1, h2, hck, hk, hkg, hmg, hm, hn, hne, fun H' r q s n hb hq => absurd hq (no q), fun H' s _ => q2 H' s⟩
end
end Fp

set_option Elab.async false
set_option linter.all false
set_option maxRecDepth 100000
set_option maxHeartbeats 4000000
namespace Fp
open PySem PySem.Spec PyProof.Rows L2
/-! ### first words by the clock -/
structure Ld (c : Int) (l : Tb) (w : Str) : Prop where
  ne : tot l w % c ≠ 0
  le : ∀ x, tot l x % c ≠ 0 → leR w x = true
theorem Ld.lk {c : Int} {l l' : Tb} {w : Str} (h : Ld c l w) (e : Lk c l l') : Ld c l' w := ⟨by rw [← e w]; exact h.ne, fun x hx => h.le x (by rw [e x]; exact hx)⟩
theorem Ld.uniq {c : Int} {l : Tb} {w w' : Str} (h : Ld c l w) (h' : Ld c l w') : w = w' := leR_anti (h.le _ h'.ne) (h'.le _ h.ne)
theorem Ld.no {c : Int} {w : Str} (h : Ld c [] w) : False := h.ne (by rw [tot_nil, Int.zero_emod])
theorem leR_self (w : Str) : leR w w = true := by
  rcases leR_total.total w w with z | z <;> exact z
theorem leR_longer {a b : Str} (h : b.length < a.length) : leR a b = true := leR_iff.mpr (.inl h)
theorem ld_ex {c : Int} (hc : 0 < c) (l : Tb) : Lk c l [] ∨ ∃ w, Ld c l w := by
  have ht := tt_add hc l
  have hl := lk_add (c := c) l
  generalize tidyM c (addT l []) = t at ht hl
  by_cases e : t = []
  · subst e
    exact .inl hl.symm
  · obtain ⟨v, hv, hmin⟩ := first_of (l := t.map (·.1)) (by simpa using e)
    refine .inr ⟨v, Ld.lk ⟨?_, fun x hx => ?_⟩ hl⟩
    · obtain ⟨p, hp, e⟩ := List.mem_map.mp hv
      obtain ⟨j, ej⟩ := List.getElem?_of_mem hp
      have hn := num_of ht.nd ej
      have h1 := ht.rg p hp
      rw [tot_num ht.nd, ← e, hn, Int.emod_eq_of_lt (by omega) h1.2]
      omega
    · by_cases hk : x ∈ t.map (·.1)
      · exact hmin x hk
      · rw [tot_not hk, Int.zero_emod] at hx
        exact absurd rfl hx
theorem inv_of {c : Int} (hck : isCk c) {n : Int} (h : n % c ≠ 0) : ∃ t, (n * t) % c = 1 := by
  obtain ⟨hc2, hc7⟩ := ck_range hck
  obtain ⟨ns, _, hinv⟩ := inv_get hck
  have h1 := Int.emod_nonneg n (show c ≠ 0 by omega)
  have h2 := Int.emod_lt_of_pos n (show 0 < c by omega)
  obtain ⟨t, _, _, _, ht⟩ := hinv (n % c).toNat (by omega)
  refine ⟨t, ?_⟩
  have := (ht (by omega)).1
  rw [Int.toNat_of_nonneg h1] at this
  have h3 : (n * t) % c = ((n % c) * t) % c := by rw [Int.mul_emod n t, Int.mul_emod (n % c) t, Int.emod_emod_of_dvd n (Int.dvd_refl c)]
  exact h3.trans this
theorem ld_prs {c : Int} (hck : isCk c) {a b : Tb} {u v : Str} (ha : Ld c a u) (hb : Ld c b v) : Ld c (prs a b) (u ++ v) := by
  obtain ⟨hc2, hc7⟩ := ck_range hck
  have hc0 : 0 < c := by omega
  have ta := tt_add hc0 a
  have la := lk_add (c := c) a
  have tb := tt_add hc0 b
  have lb := lk_add (c := c) b
  refine Ld.lk ?_ (Lk.prs la lb)
  replace ha := ha.lk la.symm
  replace hb := hb.lk lb.symm
  generalize tidyM c (addT a []) = a' at ta ha
  generalize tidyM c (addT b []) = b' at tb hb
  have key : ∀ {t : Tb} {w : Str}, Tt c t → Ld c t w → w ∈ t.map (·.1) ∧ ∀ y ∈ t.map (·.1), leR w y = true := fun {t w} ht hw => by
    refine ⟨?_, fun y hy => hw.le y ?_⟩
    · by_cases hk : w ∈ t.map (·.1)
      · exact hk
      · have := hw.ne
        rw [tot_not hk, Int.zero_emod] at this
        exact absurd rfl this
    · obtain ⟨p, hp, e⟩ := List.mem_map.mp hy
      obtain ⟨j, ej⟩ := List.getElem?_of_mem hp
      have hn := num_of ht.nd ej
      have h1 := ht.rg p hp
      rw [tot_num ht.nd, ← e, hn, Int.emod_eq_of_lt (by omega) h1.2]
      omega
  obtain ⟨ka, ma⟩ := key ta ha
  obtain ⟨kb, mb⟩ := key tb hb
  have na : num a' u % c ≠ 0 := by rw [← tot_num ta.nd]; exact ha.ne
  have nb : tot b' v % c ≠ 0 := hb.ne
  obtain ⟨t, ht⟩ := inv_of hck na
  refine ⟨fun z => nb ?_, fun x hx => ?_⟩
  · rw [tot_first mb ta.nd ma] at z
    have h2 : (tot b' v * (num a' u * t)) % c = tot b' v % c := by
      rw [Int.mul_emod, ht, Int.mul_one, Int.emod_emod_of_dvd _ (Int.dvd_refl c)]
    rw [← h2, show tot b' v * (num a' u * t) = (num a' u * tot b' v) * t by rw [← Int.mul_assoc, Int.mul_comm (tot b' v)], Int.mul_emod, z, Int.zero_mul, Int.zero_emod]
  · have hx' : tot (prs a' b') x ≠ 0 := fun z => hx (by rw [z, Int.zero_emod])
    obtain ⟨p, hp, q, hq, rfl⟩ := prs_key hx'
    exact leR_trans (leR_app_r (z := v) (ma p.1 (List.mem_map.mpr ⟨p, hp, rfl⟩))) (leR_app_l (z := p.1) (mb q.1 (List.mem_map.mpr ⟨q, hq, rfl⟩)))
theorem ld_of {c : Int} {w : Str} {n : Int} {r : Tb} (h1 : 1 ≤ n) (h2 : n < c) (hr : ∀ p ∈ r, p.1.length < w.length) : Ld c ((w, n) :: r) w := by
  have hn : w ∉ r.map (·.1) := fun z => by
    obtain ⟨p, hp, e⟩ := List.mem_map.mp z
    have := hr p hp
    rw [e] at this
    omega
  refine ⟨?_, fun x hx => ?_⟩
  · rw [tot_cons, if_pos rfl, tot_not hn, Int.add_zero, Int.emod_eq_of_lt (by omega) h2]
    omega
  · by_cases e : w = x
    · rw [e]
      exact leR_self x
    · rw [tot_cons, if_neg e, Int.zero_add] at hx
      by_cases hk : x ∈ r.map (·.1)
      · obtain ⟨p, hp, rfl⟩ := List.mem_map.mp hk
        exact leR_longer (hr p hp)
      · rw [tot_not hk, Int.zero_emod] at hx
        exact absurd rfl hx
/-- a shorter word more -/
theorem ld_more {c : Int} {l : Tb} {w z : Str} {n : Int} (h : Ld c l w) (hz : z.length < w.length) : Ld c (l ++ [(z, n)]) w := by
  have hne : z ≠ w := fun e => by rw [e] at hz; omega
  refine ⟨?_, fun x hx => ?_⟩
  · rw [tot_app, tot_cons, if_neg hne, tot_nil]
    simpa using h.ne
  · by_cases e : z = x
    · subst e
      exact leR_longer hz
    · rw [tot_app, tot_cons, if_neg e, tot_nil] at hx
      exact h.le x (by simpa using hx)
theorem no_quot {c : Int} (hck : isCk c) {g l : Tb} {u w : Str} (hg : Ld c g u) (hl : Ld c l w) (hw : ∀ v, w ≠ u ++ v) (q : Tb) : ¬ Lk c l (prs g q) := fun e => by
  rcases ld_ex (show 0 < c by have := (ck_range hck).1; omega) q with h | ⟨v, h⟩
  · have := hl.lk (e.trans (Lk.prs_r g h))
    rw [prs_nil_r] at this
    exact this.no
  · exact hw v ((hl.lk e).uniq (ld_prs hck hg h))
theorem ld_rev_of {c : Int} {w : Str} {n : Int} {r : Tb} (h1 : 1 ≤ n) (h2 : n < c) (hr : ∀ p ∈ r, p.1.length < w.length) : Ld c (revT ((w, n) :: r)) (revS w) := by
  have hl : ∀ x : Str, (revS x).length = x.length := fun x => by rw [← len_list, ← len_list, revS_cps, List.length_reverse]
  rw [revT_cons]
  refine ld_of h1 h2 fun p hp => ?_
  obtain ⟨q, hq, rfl⟩ := List.mem_map.mp hp
  show (revS q.1).length < (revS w).length
  rw [hl, hl]
  exact hr q hq
theorem revS_len (x : Str) : (revS x).length = x.length := by rw [← len_list, ← len_list, revS_cps, List.length_reverse]
theorem str_ne {a b : Str} (h : a.cps.toList ≠ b.cps.toList) : a ≠ b := fun e => h (by rw [e])
theorem short4 {α : Type} {l : List α} (h : l.length ≤ 4) : l = [] ∨ (∃ a, l = [a]) ∨ (∃ a b, l = [a, b]) ∨ (∃ a b d, l = [a, b, d]) ∨ ∃ a b d e, l = [a, b, d, e] := by
  match l, h with
  | [], _ => exact .inl rfl
  | [a], _ => exact .inr (.inl ⟨a, rfl⟩)
  | [a, b], _ => exact .inr (.inr (.inl ⟨a, b, rfl⟩))
  | [a, b, d], _ => exact .inr (.inr (.inr (.inl ⟨a, b, d, rfl⟩)))
  | [a, b, d, e], _ => exact .inr (.inr (.inr (.inr ⟨a, b, d, e, rfl⟩)))
  | a :: b :: d :: e :: f :: r, h => simp at h
/-- the words of the long ones never begin alike -/
theorem front_no (r s : Str) (hr : r.length ≤ 3) (X v : Str) : (r ++ "xyyxy") ++ X ≠ ("yxxyx" ++ s) ++ v := str_ne (by
  rw [app_list, app_list, app_list, app_list]
  have h : r.cps.toList.length ≤ 4 := by rw [len_list]; omega
  have h3 : r.cps.toList.length ≤ 3 := by rw [len_list]; omega
  show (r.cps.toList ++ [120, 121, 121, 120, 121]) ++ X.cps.toList ≠ ([121, 120, 120, 121, 120] ++ s.cps.toList) ++ v.cps.toList
  generalize r.cps.toList = l at h h3
  rcases short4 h with rfl | ⟨a, rfl⟩ | ⟨a, b, rfl⟩ | ⟨a, b, d, rfl⟩ | ⟨a, b, d, e, rfl⟩
  · simp
  · simp
  · simp
  · simp
  · simp at h3)
theorem back_no (s : Str) (hs : s.length ≤ 4) (X v : Str) : ("xxxxxx" : Str) ++ X ≠ revS ("yxxyx" ++ s) ++ v := str_ne (by
  rw [revS_app, app_list, app_list, app_list, revS_cps s, revS_cps "yxxyx"]
  have h : s.cps.toList.reverse.length ≤ 4 := by rw [List.length_reverse, len_list]; omega
  show [120, 120, 120, 120, 120, 120] ++ X.cps.toList ≠ (s.cps.toList.reverse ++ [120, 121, 120, 120, 121]) ++ v.cps.toList
  generalize s.cps.toList.reverse = l at h
  rcases short4 h with rfl | ⟨a, rfl⟩ | ⟨a, b, rfl⟩ | ⟨a, b, d, rfl⟩ | ⟨a, b, d, e, rfl⟩ <;> simp)
theorem prs_scl (f : Int) (l m : Tb) : prs l (scl f m) = scl f (prs l m) := by
  induction l with
  | nil => rfl
  | cons p r ih =>
    rw [prs_cons, prs_cons, ih]
    unfold scl
    rw [List.map_append, List.map_map, List.map_map]
    congr 1
    refine List.map_congr_left fun q _ => ?_
    show ((p.1 ++ q.1, p.2 * (f * q.2)) : Str × Int) = (p.1 ++ q.1, f * (p.2 * q.2))
    rw [← Int.mul_assoc, Int.mul_comm p.2 f, Int.mul_assoc]
theorem tot_prs_scl (f : Int) (l m : Tb) (x : Str) : tot (prs l (scl f m)) x = f * tot (prs l m) x := by rw [prs_scl, tot_scl]
section
variable {c : Int} {r s : Str} {n : Int}
abbrev oneT (r : Str) (n : Int) : Tb := [(r ++ "xyyxy", 1), ("x", 1), ("", n)]
abbrev twoT (s : Str) : Tb := [("yxxyx" ++ s, 1), ("yy", 1)]
abbrev endT : Tb := [("xxxxxx", 1), ("y", 1)]
theorem len5 (r : Str) : (r ++ "xyyxy").length = r.length + 5 := by rw [app_len]; rfl
theorem len5' (s : Str) : ("yxxyx" ++ s).length = 5 + s.length := by rw [app_len]; rfl
theorem one_ld (hc : 2 ≤ c) : Ld c (oneT r n) (r ++ "xyyxy") := ld_of (by decide) (by omega) fun p hp => by
  rw [len5]
  have : p = (("x" : Str), (1 : Int)) ∨ p = (("" : Str), n) := by simpa using hp
  rcases this with rfl | rfl
  · show 1 < r.length + 5; omega
  · show 0 < r.length + 5; omega
theorem two_ld (hc : 2 ≤ c) : Ld c (twoT s) ("yxxyx" ++ s) := ld_of (by decide) (by omega) fun p hp => by
  rw [len5']
  have : p = (("yy" : Str), (1 : Int)) := by simpa using hp
  subst this
  show 2 < 5 + s.length; omega
theorem two_rld (hc : 2 ≤ c) : Ld c (revT (twoT s)) (revS ("yxxyx" ++ s)) := ld_rev_of (by decide) (by omega) fun p hp => by
  rw [len5']
  have : p = (("yy" : Str), (1 : Int)) := by simpa using hp
  subst this
  show 2 < 5 + s.length; omega
theorem one_rld (hc : 2 ≤ c) : Ld c (revT (oneT r n)) (revS (r ++ "xyyxy")) := ld_rev_of (by decide) (by omega) fun p hp => by
  rw [len5]
  have : p = (("x" : Str), (1 : Int)) ∨ p = (("" : Str), n) := by simpa using hp
  rcases this with rfl | rfl
  · show 1 < r.length + 5; omega
  · show 0 < r.length + 5; omega
theorem end_ld (hc : 2 ≤ c) : Ld c endT "xxxxxx" := ld_of (by decide) (by omega) fun p hp => by
  have : p = (("y" : Str), (1 : Int)) := by simpa using hp
  subst this
  decide
theorem end_rld (hc : 2 ≤ c) : Ld c (revT endT) "xxxxxx" := by
  have : Ld c (revT endT) (revS "xxxxxx") := ld_rev_of (by decide) (by omega) fun p hp => by
    have : p = (("y" : Str), (1 : Int)) := by simpa using hp
    subst this
    decide
  rwa [show revS "xxxxxx" = "xxxxxx" from by decide +kernel] at this
/-- two is no front of one two end -/
theorem long_a (hck : isCk c) (hr : r.length ≤ 3) (q : Tb) : ¬ Lk c (prs (oneT r n) (prs (twoT s) endT)) (prs (twoT s) q) :=
  have hc := (ck_range hck).1
  no_quot hck (two_ld hc) (ld_prs hck (one_ld hc) (ld_prs hck (two_ld hc) (end_ld hc))) (fun v => front_no r s hr _ v) q
/-- a z more is no product with one ahead -/
theorem long_b (hck : isCk c) (q : Tb) : ¬ Lk c (prs (oneT r n) (prs (twoT s) endT) ++ ([(("z" : Str), (1 : Int))] : Tb)) (prs (oneT r n) q) := fun e => by
  have hc := (ck_range hck).1
  have e2 : Lk c ([(("z" : Str), (1 : Int))] : Tb) (prs (oneT r n) (q ++ scl (-1) (prs (twoT s) endT))) := fun x => by
    have h1 := e x
    rw [tot_app] at h1
    rw [prs_app_r, tot_app, tot_prs_scl]
    have h2 : (tot (prs (oneT r n) (prs (twoT s) endT)) x + tot [(("z" : Str), (1 : Int))] x - tot (prs (oneT r n) (prs (twoT s) endT)) x) % c = (tot (prs (oneT r n) q) x - tot (prs (oneT r n) (prs (twoT s) endT)) x) % c := by rw [Int.sub_emod, h1, ← Int.sub_emod]
    rw [show tot (prs (oneT r n) (prs (twoT s) endT)) x + tot [(("z" : Str), (1 : Int))] x - tot (prs (oneT r n) (prs (twoT s) endT)) x = tot [(("z" : Str), (1 : Int))] x by omega] at h2
    rw [h2]
    congr 1
    omega
  refine no_quot hck (one_ld hc) (ld_of (r := []) (by decide) (by omega) fun p hp => by cases hp) (fun v z => ?_) _ e2
  have := congrArg Str.length z
  rw [app_len, len5] at this
  have h1 : ("z" : Str).length = 1 := rfl
  omega
/-- nor one with two behind -/
theorem long_c (hck : isCk c) (hs : s.length ≤ 4) (q : Tb) : ¬ Lk c (prs (oneT r n) (prs (twoT s) endT) ++ ([(("z" : Str), (1 : Int))] : Tb)) (prs q (twoT s)) := fun e => by
  have hc := (ck_range hck).1
  have e2 := (Lk.rev e).trans (revT_prs_lk q (twoT s))
  rw [revT_app] at e2
  have e3 : Lk c (prs (prs (revT endT) (revT (twoT s))) (revT (oneT r n)) ++ revT [(("z" : Str), (1 : Int))]) (prs (revT (twoT s)) (revT q)) := by
    refine (Lk.app ?_ (Lk.refl _ _)).trans e2
    exact ((revT_prs_lk (oneT r n) (prs (twoT s) endT)).trans (Lk.prs_l _ (revT_prs_lk (twoT s) endT))).symm
  rw [prs_assoc] at e3
  have h1 := ld_prs hck (end_rld hc) (ld_prs hck (two_rld (s := s) hc) (one_rld (r := r) (n := n) hc))
  refine no_quot hck (two_rld hc) (ld_more (z := revS "z") (n := 1) h1 ?_) (fun v => back_no s hs _ v) _ e3
  rw [app_len]
  show 1 < 6 + _
  omega
end
end Fp

set_option Elab.async false
set_option linter.all false
set_option maxRecDepth 100000
set_option maxHeartbeats 4000000
namespace Fp
open PySem PySem.Spec PyProof.Rows L2
/-! ### sums of powers -/
theorem mod_sub {c a b : Int} : a % c = b % c ↔ (a - b) % c = 0 := Int.emod_eq_emod_iff_emod_sub_eq_zero
/-- dividing is told in one way only -/
theorem div_uniq {c : Int} {h : Str} {g A B R S : Tb} (hck : isCk c) (hg : Ld c g h) (e : Lk c (prs g A ++ R) (prs g B ++ S)) (hR : ∀ v, tot R (h ++ v) % c = 0) (hS : ∀ v, tot S (h ++ v) % c = 0) : Lk c A B ∧ Lk c R S := by
  have hc0 : 0 < c := by have := ck_range hck; omega
  have hd : ∀ x, (tot (prs g (A ++ scl (-1) B)) x - (tot S x - tot R x)) % c = 0 := fun x => by
    have := mod_sub.mp (e x)
    rw [tot_app, tot_app] at this
    rw [prs_app_r, tot_app, tot_prs_scl]
    rw [show tot (prs g A) x + -1 * tot (prs g B) x - (tot S x - tot R x) = tot (prs g A) x + tot R x - (tot (prs g B) x + tot S x) by omega]
    exact this
  rcases ld_ex hc0 (A ++ scl (-1) B) with z | ⟨v, z⟩
  · have hab : Lk c A B := fun x => mod_sub.mpr (by
      have := z x
      rw [tot_app, tot_scl, tot_nil, Int.zero_emod] at this
      rw [show tot A x - tot B x = tot A x + -1 * tot B x by omega]
      exact this)
    refine ⟨hab, fun x => ?_⟩
    have h1 := mod_sub.mp (e x)
    have h2 := mod_sub.mp (Lk.prs_r g hab x)
    rw [tot_app, tot_app] at h1
    refine mod_sub.mpr ?_
    have h3 := Int.dvd_of_emod_eq_zero h1
    have h4 := Int.dvd_of_emod_eq_zero h2
    refine Int.emod_eq_zero_of_dvd ?_
    have := Int.dvd_sub h3 h4
    rw [show tot (prs g A) x + tot R x - (tot (prs g B) x + tot S x) - (tot (prs g A) x - tot (prs g B) x) = tot R x - tot S x by omega] at this
    exact this
  · exfalso
    have h1 := (ld_prs hck hg z).ne
    have h2 := Int.dvd_of_emod_eq_zero (hd (h ++ v))
    have h3 := Int.dvd_of_emod_eq_zero (hS v)
    have h4 := Int.dvd_of_emod_eq_zero (hR v)
    have := Int.dvd_add h2 (Int.dvd_sub h3 h4)
    rw [show tot (prs g (A ++ scl (-1) B)) (h ++ v) - (tot S (h ++ v) - tot R (h ++ v)) + (tot S (h ++ v) - tot R (h ++ v)) = tot (prs g (A ++ scl (-1) B)) (h ++ v) by omega] at this
    exact h1 (Int.emod_eq_zero_of_dvd this)
/-- numbers in front of powers, the number alone first; what is left at the end -/
def EvT (g : Tb) : List Int → Tb → Tb
  | [], T => T
  | n :: ns, T => ("", n) :: prs g (EvT g ns T)
def Ev (g : Tb) (ns : List Int) : Tb := EvT g ns []
theorem ev_cons (g : Tb) (n : Int) (ns : List Int) : Ev g (n :: ns) = (("" : Str), n) :: prs g (Ev g ns) := rfl
theorem evT_snoc (g : Tb) (n : Int) (T : Tb) : ∀ ns, EvT g (ns ++ [n]) T = EvT g ns (("", n) :: prs g T)
  | [] => rfl
  | k :: ns => by
    show (("" : Str), k) :: prs g (EvT g (ns ++ [n]) T) = (("" : Str), k) :: prs g (EvT g ns ((("" : Str), n) :: prs g T))
    rw [evT_snoc g n T ns]
theorem lk_cons {c : Int} {p : Str × Int} {l m : Tb} (h : Lk c l m) : Lk c (p :: l) (p :: m) := Lk.app (Lk.refl c [p]) h
theorem evT_lk {c : Int} {g T T' : Tb} (h : Lk c T T') : ∀ ns, Lk c (EvT g ns T) (EvT g ns T')
  | [] => h
  | _ :: ns => lk_cons (Lk.prs_r g (evT_lk h ns))
theorem lk_comm {c : Int} (a b : Tb) : Lk c (a ++ b) (b ++ a) := fun x => by rw [tot_app, tot_app, Int.add_comm]
theorem num_at {n : Int} {x : Str} (h : x ≠ "") : tot [(("" : Str), n)] x = 0 := tot_not (by simpa using h)
theorem num_at0 (n : Int) : tot [(("" : Str), n)] "" = n := by
  rw [tot_cons, if_pos rfl, tot_nil, Int.add_zero]
theorem app_ne {h v : Str} (hh : 0 < h.length) : h ++ v ≠ "" := fun e => by
  have := congrArg Str.length e
  rw [len_app] at this
  have h0 : ("" : Str).length = 0 := rfl
  omega
theorem peel1 {c : Int} {h : Str} {g A B : Tb} {n k : Int} (hck : isCk c) (hg : Ld c g h) (hh : 0 < h.length) (e : Lk c (("", n) :: prs g A) (("", k) :: prs g B)) : n % c = k % c ∧ Lk c A B := by
  have e' : Lk c (prs g A ++ [(("" : Str), n)]) (prs g B ++ [(("" : Str), k)]) := (lk_comm _ _).trans (Lk.trans e (lk_comm [(("" : Str), k)] _))
  obtain ⟨h1, h2⟩ := div_uniq hck hg e' (fun v => by rw [num_at (app_ne hh), Int.zero_emod]) (fun v => by rw [num_at (app_ne hh), Int.zero_emod])
  have := h2 ""
  rw [num_at0, num_at0] at this
  exact ⟨this, h1⟩
theorem nil_ev {c : Int} (g : Tb) : Lk c [] (("", 0) :: prs g []) := fun x => by
  rw [prs_nil_r, tot_cons, tot_nil]
  split <;> rfl
theorem peel0 {c : Int} {h : Str} {g A : Tb} {n : Int} (hck : isCk c) (hg : Ld c g h) (hh : 0 < h.length) (e : Lk c (("", n) :: prs g A) []) : n % c = 0 ∧ Lk c A [] := by
  obtain ⟨h1, h2⟩ := peel1 hck hg hh (e.trans (nil_ev g))
  exact ⟨h1.trans (Int.zero_emod c), h2⟩
theorem peel {c : Int} {h : Str} {g T : Tb} (hck : isCk c) (hg : Ld c g h) (hh : 0 < h.length) : ∀ (fs ns : List Int), Lk c (EvT g fs T) (Ev g ns) → Lk c T (Ev g (ns.drop fs.length))
  | [], ns, e => e
  | f :: fs, [], e => by
    have := peel hck hg hh fs [] (peel0 hck hg hh e).2
    rw [List.drop_nil] at this ⊢
    exact this
  | f :: fs, n :: ns, e => peel hck hg hh fs ns (peel1 hck hg hh e).2
/-- where it leads -/
theorem ld_evT {c : Int} {h : Str} {g : Tb} (hck : isCk c) (hg : Ld c g h) (hh : 0 < h.length) {T : Tb} {v : Str} (hT : Ld c T v) : ∀ fs : List Int, ∃ u, u.length = fs.length * h.length + v.length ∧ Ld c (EvT g fs T) u
  | [] => ⟨v, by simp, hT⟩
  | n :: fs => by
    obtain ⟨u, h1, h2⟩ := ld_evT hck hg hh hT fs
    have h3 := ld_prs hck hg h2
    refine ⟨h ++ u, by rw [len_app, h1, List.length_cons, Nat.succ_mul]; omega, ?_, fun x hx => ?_⟩
    · show tot ([(("" : Str), n)] ++ prs g (EvT g fs T)) _ % c ≠ 0
      rw [tot_app, num_at (app_ne hh), Int.zero_add]
      exact h3.ne
    · by_cases e : x = ""
      · subst e
        refine leR_longer ?_
        rw [len_app]
        have h0 : ("" : Str).length = 0 := rfl
        omega
      · refine h3.le x ?_
        have hx' : tot ([(("" : Str), n)] ++ prs g (EvT g fs T)) x % c ≠ 0 := hx
        rw [tot_app, num_at e, Int.zero_add] at hx'
        exact hx'
/-- what is left is shorter and shorter -/
theorem evT_short {c : Int} {h : Str} {g : Tb} (hck : isCk c) (hg : Ld c g h) (hh : 0 < h.length) {l T : Tb} {fs : List Int} {m : Nat} (e : Lk c l (EvT g fs T)) (hl : ∀ x, tot l x % c ≠ 0 → x.length ≤ m) {y : Str} (hy : tot T y % c ≠ 0) : fs.length * h.length + y.length ≤ m := by
  have hc0 : 0 < c := by have := ck_range hck; omega
  rcases ld_ex hc0 T with z | ⟨v, z⟩
  · rw [z y, tot_nil, Int.zero_emod] at hy
    exact absurd rfl hy
  · obtain ⟨u, h1, h2⟩ := ld_evT hck hg hh z fs
    have h3 := hl u (by rw [e u]; exact h2.ne)
    have h4 := leR_len' (z.le y hy)
    omega
/-! ### what is told -/
def NZ (ns : List Int) : Prop := ∀ n, ns.getLast? = some n → n ≠ 0
def Rg (c : Int) (ns : List Int) : Prop := ∀ n ∈ ns, 0 ≤ n ∧ n < c
def Res (c : Int) (g l : Tb) : Option (List Int) → Prop
  | some ns => Lk c l (Ev g ns) ∧ Rg c ns ∧ NZ ns
  | none => ∀ ns, ¬ Lk c l (Ev g ns)
theorem NZ.tail {n : Int} {ns : List Int} (h : NZ (n :: ns)) : NZ ns := fun k e => h k (by
  cases ns with
  | nil => cases e
  | cons a r => rw [List.getLast?_cons_cons]; exact e)
theorem ev_zero {c : Int} {h : Str} {g : Tb} (hck : isCk c) (hg : Ld c g h) (hh : 0 < h.length) : ∀ ns : List Int, Lk c (Ev g ns) [] → Rg c ns → NZ ns → ns = []
  | [], _, _, _ => rfl
  | n :: ns, e, r, z => by
    obtain ⟨h1, h2⟩ := peel0 hck hg hh e
    have := ev_zero hck hg hh ns h2 (fun k hk => r k (List.mem_cons_of_mem _ hk)) z.tail
    subst this
    have h3 := r n List.mem_cons_self
    rw [Int.emod_eq_of_lt h3.1 h3.2] at h1
    exact absurd h1 (z n rfl)
theorem ev_uniq {c : Int} {h : Str} {g : Tb} (hck : isCk c) (hg : Ld c g h) (hh : 0 < h.length) : ∀ ns ks : List Int, Lk c (Ev g ns) (Ev g ks) → Rg c ns → NZ ns → Rg c ks → NZ ks → ns = ks
  | [], ks, e, _, _, r, z => (ev_zero hck hg hh ks e.symm r z).symm
  | n :: ns, [], e, r, z, _, _ => ev_zero hck hg hh (n :: ns) e r z
  | n :: ns, k :: ks, e, r, z, r', z' => by
    obtain ⟨h1, h2⟩ := peel1 hck hg hh e
    have h3 := r n List.mem_cons_self
    have h4 := r' k List.mem_cons_self
    rw [Int.emod_eq_of_lt h3.1 h3.2, Int.emod_eq_of_lt h4.1 h4.2] at h1
    rw [h1, ev_uniq hck hg hh ns ks h2 (fun k hk => r k (List.mem_cons_of_mem _ hk)) z.tail (fun k hk => r' k (List.mem_cons_of_mem _ hk)) z'.tail]
theorem res_uniq {c : Int} {h : Str} {g l : Tb} (hck : isCk c) (hg : Ld c g h) (hh : 0 < h.length) {r r' : Option (List Int)} (h1 : Res c g l r) (h2 : Res c g l r') : r = r' := by
  cases r with
  | none =>
    cases r' with
    | none => rfl
    | some ks => exact absurd h2.1 (h1 ks)
  | some ns =>
    cases r' with
    | none => exact absurd h1.1 (h2 ns)
    | some ks => rw [ev_uniq hck hg hh ns ks (h1.1.symm.trans h2.1) h1.2.1 h1.2.2 h2.2.1 h2.2.2]
theorem Res.lk {c : Int} {g l l' : Tb} {r : Option (List Int)} (h : Res c g l r) (e : Lk c l l') : Res c g l' r := by
  cases r with
  | none => exact fun ns z => h ns (e.trans z)
  | some ns => exact ⟨e.symm.trans h.1, h.2⟩
theorem ev_lkg {c : Int} {g g' : Tb} (e : Lk c g g') : ∀ ns, Lk c (Ev g ns) (Ev g' ns)
  | [] => Lk.refl _ _
  | n :: ns => lk_cons (Lk.prs e (ev_lkg e ns))
theorem Res.lkg {c : Int} {g g' l : Tb} {r : Option (List Int)} (h : Res c g l r) (e : Lk c g g') : Res c g' l r := by
  cases r with
  | none => exact fun ns z => h ns (z.trans (ev_lkg e ns).symm)
  | some ns => exact ⟨h.1.trans (ev_lkg e ns), h.2⟩
/-- the loop's end: what is left that is no number -/
theorem res_none {c : Int} {h x : Str} {g l T T' R : Tb} {fs : List Int} (hck : isCk c) (hg : Ld c g h) (hh : 0 < h.length) (e : Lk c l (EvT g fs T)) (d : Lk c T (prs g T' ++ R)) (hR : ∀ v, tot R (h ++ v) % c = 0) (hx : x ≠ "") (hn : tot R x % c ≠ 0) : Res c g l none := fun ns z => by
  have h1 := peel hck hg hh fs ns (e.symm.trans z)
  generalize ns.drop fs.length = ks at h1
  have h2 := d.symm.trans h1
  cases ks with
  | nil =>
    have h3 : Lk c (prs g T' ++ R) (prs g [] ++ []) := by
      rw [prs_nil_r]
      exact h2
    have := (div_uniq hck hg h3 hR (fun v => by rw [tot_nil, Int.zero_emod])).2 x
    rw [tot_nil, Int.zero_emod] at this
    exact hn this
  | cons k ks =>
    have h3 : Lk c (prs g T' ++ R) (prs g (Ev g ks) ++ [(("" : Str), k)]) := Lk.trans h2 (lk_comm [(("" : Str), k)] _)
    have := (div_uniq hck hg h3 hR (fun v => by rw [num_at (app_ne hh), Int.zero_emod])).2 x
    rw [num_at hx, Int.zero_emod] at this
    exact hn this
/-! ### a sum of powers changes places with the bag -/
theorem ev_comm {c : Int} (g : Tb) : ∀ ns, Lk c (prs (Ev g ns) g) (prs g (Ev g ns))
  | [] => fun x => by
    show tot (prs [] g) x % c = tot (prs g []) x % c
    rw [prs_nil_r]
    rfl
  | n :: ns => fun x => by
    have ih := Lk.prs_r g (ev_comm (c := c) g ns) x
    rw [ev_cons, tot_prs_cons, tot_prs_cons_r, prs_assoc]
    rw [Int.add_emod, ih, ← Int.add_emod]
    have e : tot (fwd (("" : Str), n) g) x = tot (bwd (("" : Str), n) g) x := by
      unfold fwd bwd
      congr 1
      refine List.map_congr_left fun p _ => ?_
      rw [str_nil_l, str_nil_r, Int.mul_comm]
    rw [e]
/-! ### powers as the law makes them -/
def pw (g : Tb) : Nat → Tb
  | 0 => [("", 1)]
  | k + 1 => prs (pw g k) g
theorem pw_front (g : Tb) : ∀ k, pw g (k + 1) = prs g (pw g k)
  | 0 => by
    show prs [("", 1)] g = prs g [("", 1)]
    rw [prs_one_l, prs_one_r]
  | k + 1 => by
    show prs (pw g (k + 1)) g = prs g (prs (pw g k) g)
    rw [pw_front g k, prs_assoc]
theorem ld_pw {c : Int} {h : Str} {g : Tb} (hck : isCk c) (hg : Ld c g h) : ∀ k, ∃ u, u.length = k * h.length ∧ Ld c (pw g k) u
  | 0 => ⟨"", by rw [Nat.zero_mul]; rfl, by
      have := ck_range hck
      show tot [(("" : Str), 1)] "" % c ≠ 0
      rw [num_at0, Int.emod_eq_of_lt (by omega) (by omega)]
      decide, fun x hx => by
      by_cases e : x = ""
      · subst e
        exact leR_self _
      · have hx' : tot [(("" : Str), 1)] x % c ≠ 0 := hx
        rw [num_at e, Int.zero_emod] at hx'
        exact absurd rfl hx'⟩
  | k + 1 => by
    obtain ⟨u, h1, h2⟩ := ld_pw hck hg k
    exact ⟨u ++ h, by rw [len_app, h1, Nat.succ_mul], ld_prs hck h2 hg⟩
/-- so many times the powers from the i-th one on -/
def smP (g : Tb) : Nat → List Int → Tb
  | _, [] => []
  | i, n :: ns => scl n (pw g i) ++ smP g (i + 1) ns
theorem smP_front {c : Int} (g : Tb) : ∀ (ns : List Int) (i : Nat), Lk c (smP g (i + 1) ns) (prs g (smP g i ns))
  | [], i => fun x => by
    show tot [] x % c = tot (prs g []) x % c
    rw [prs_nil_r]
  | n :: ns, i => fun x => by
    have ih := smP_front (c := c) g ns (i + 1) x
    show tot (scl n (pw g (i + 1)) ++ smP g (i + 2) ns) x % c = tot (prs g (scl n (pw g i) ++ smP g (i + 1) ns)) x % c
    rw [prs_app_r, tot_app, tot_app, tot_prs_scl, pw_front, tot_scl, Int.add_emod, ih, ← Int.add_emod]
theorem smP_ev {c : Int} (g : Tb) : ∀ ns : List Int, Lk c (smP g 0 ns) (Ev g ns)
  | [] => Lk.refl _ _
  | n :: ns => by
    refine Lk.app (l := scl n (pw g 0)) (l' := [(("" : Str), n)]) (fun x => ?_) ((smP_front g ns 0).trans (Lk.prs_r g (smP_ev g ns)))
    have : scl n (pw g 0) = [(("" : Str), n)] := by
      show [(("" : Str), n * 1)] = _
      rw [Int.mul_one]
    rw [this]
theorem smP_snoc (g : Tb) (n : Int) : ∀ (ns : List Int) (i : Nat), ∀ x, tot (smP g i (ns ++ [n])) x = tot (smP g i ns ++ scl n (pw g (i + ns.length))) x
  | [], i, x => by
    show tot (scl n (pw g i) ++ []) x = tot ([] ++ scl n (pw g (i + 0))) x
    rw [List.append_nil, List.nil_append, Nat.add_zero]
  | k :: ns, i, x => by
    have ih := smP_snoc g n ns (i + 1) x
    show tot (scl k (pw g i) ++ smP g (i + 1) (ns ++ [n])) x = tot (scl k (pw g i) ++ smP g (i + 1) ns ++ scl n (pw g (i + (ns.length + 1)))) x
    rw [tot_app, ih, tot_app, tot_app, tot_app, show i + 1 + ns.length = i + (ns.length + 1) by omega, Int.add_assoc]
end Fp

set_option Elab.async false
set_option linter.all false
set_option maxRecDepth 100000
set_option maxHeartbeats 4000000
namespace Fp
open PySem PySem.Spec PyProof.Rows L2
/-! ### == and != of bags -/
section
variable {X : Cx}
theorem opEq (T : Top X.K X.mg) (hr : Room 1 X.A) : OpR X (compareOp .Eq) (rOwnEq X.K (He.ga X.K "Bag") (spEqB X.K)) := by
  obtain ⟨fd, F, b⟩ := ok_eq (P := X.prog) (w := X.w) (base := X.base) T
  exact op_ownEq F (m_Bag___eq__ T).at_ (m_Bag___eq__ T).fn b hr
theorem opNe (T : Top X.K X.mg) (hr : Room 2 X.A) : OpR X (compareOp .NotEq) (rOwnNe X.K (He.ga X.K "Bag") (spEqB X.K)) := by
  obtain ⟨fd, F, b⟩ := ok_eq (P := X.prog) (w := X.w) (base := X.base) T
  exact op_ownNe F (x_ne T) (m_Bag___eq__ T).at_ (m_Bag___eq__ T).fn (x_mro T) b hr
end
section
variable {P : Program} {w : World} {K : PySem.W.Frag} {mg : Str → Option Value} {base : Heap}
theorem nf_own (C : Addr) : PySem.W.notFirst K C (.ref C) = true := by simp [PySem.W.notFirst]
theorem rd_eq (T : Top K mg) {H : Hp} {a b : Addr} {c c' : Int} {L M : Tb} {Q : VK} (ha : BagAt K H a c L) (hb : BagAt K H b c' M) (q : Q (.bl (decide (c = c' ∧ L = M))) H) : rOwnEq K (He.ga K "Bag") (spEqB K) (.ref a) (.ref b) H Q := by
  obtain ⟨dx, t, h1, h2⟩ := id ha
  obtain ⟨dy, t', h3, h4⟩ := id hb
  exact ⟨a, dx, _, .ref (He.ga K "Bag"), rfl, h1, .base (.ins h3 (cls_Bag T) (x_class T) (x_get T) (x_takes T) (x_mro T)), nf_own _, a, .ref b, c, L, rfl, ha, .inl ⟨b, c', M, rfl, hb, _, rfl, q⟩⟩
theorem rd_ne (T : Top K mg) {H : Hp} {a b : Addr} {c c' : Int} {L M : Tb} {Q : VK} (ha : BagAt K H a c L) (hb : BagAt K H b c' M) (q : Q (.bl (!decide (c = c' ∧ L = M))) H) : rOwnNe K (He.ga K "Bag") (spEqB K) (.ref a) (.ref b) H Q := by
  obtain ⟨dx, t, h1, h2⟩ := id ha
  obtain ⟨dy, t', h3, h4⟩ := id hb
  exact ⟨a, dx, _, .ref (He.ga K "Bag"), rfl, h1, .base (.ins h3 (cls_Bag T) (x_class T) (x_get T) (x_takes T) (x_mro T)), nf_own _, a, .ref b, c, L, rfl, ha, .inl ⟨b, c', M, rfl, hb, _, rfl, q⟩⟩

theorem vt_ld {c : Int} {m k : Nat} {l : Tb} (hc : 0 < c) (v : VT c m k l) (h : l ≠ []) : ∃ u, Ld c l u := by
  rcases ld_ex hc l with e | e
  · have := lk_same hc v (vt_nil c m) e
    have := congrArg List.length this
    rw [canon_len, canon_len] at this
    exact absurd (List.eq_nil_of_length_eq_zero this) h
  · exact e
theorem prod_ne {c : Int} {m k m' k' : Nat} {l l' : Tb} (hck : isCk c) (v : VT c m k l) (v' : VT c m' k' l') (h : l ≠ []) (h' : l' ≠ []) : prodM c l l' ≠ [] := fun z => by
  have hc0 : 0 < c := by have := (ck_range hck).1; omega
  obtain ⟨u, hu⟩ := vt_ld hc0 v h
  obtain ⟨u', hu'⟩ := vt_ld hc0 v' h'
  have := (ld_prs hck hu hu').lk (lk_prod hc0 v v').symm
  rw [z] at this
  exact this.no
/-- something: a drawn table of few words, or a product of two small ones -/
def tSth : TS := fun D σ H => ∃ (h ca d : Addr) (c : Int) (l : Tb), σ = [some (.ref h), some (.int c), some (.ref d)] ∧ HandAt ca H h ∧ isCk c ∧ H d = some (.dK (kv l)) ∧ VT c 2 3 l ∧
  ∀ H' d' l', HandAt ca H' h → But h H H' → H' d' = some (.dK (kv l')) → VT c 4 9 l' → l' ≠ [] → D.nx [some (.ref h), some (.int c), some (.ref d')] H'
def spSth : Sp := fun vs H Q _ => ∃ (h ca : Addr) (c : Int), vs = [.ref h, .int c] ∧ HandAt ca H h ∧ isCk c ∧ ∀ H' d l, HandAt ca H' h → But h H H' → H' d = some (.dK (kv l)) → VT c 4 9 l → l ≠ [] → Q (.ref d) H'
abbrev nSth : List Str := ["_law_hand_here", "_law_clock_here", "_law_words_here"]
end
end Fp

set_option Elab.async false
set_option linter.all false
set_option maxRecDepth 100000
set_option maxHeartbeats 8000000
namespace Fp
open PySem PySem.Spec PyProof.Rows L2
theorem vt_one {c : Int} (hc : 2 ≤ c) {r : Str} {n : Int} (hr : xyz r) (hl : r.length ≤ 3) (h1 : 1 ≤ n) (h2 : n < c) : VT c 8 3 (oneT r n) where
  nd := by
    show [r ++ "xyyxy", ("x" : Str), ("" : Str)].Nodup
    have a1 : r ++ "xyyxy" ≠ "x" := fun e => by
      have := congrArg Str.length e
      rw [len5] at this
      have h3 : ("x" : Str).length = 1 := rfl
      omega
    have a2 : r ++ "xyyxy" ≠ "" := fun e => by
      have := congrArg Str.length e
      rw [len5] at this
      have h3 : ("" : Str).length = 0 := rfl
      omega
    have a3 : ("x" : Str) ≠ "" := by decide +kernel
    simp [a1, a2, a3]
  nu := fun p hp => by
    have : p = (r ++ "xyyxy", (1 : Int)) ∨ p = (("x" : Str), (1 : Int)) ∨ p = (("" : Str), n) := by simpa using hp
    rcases this with rfl | rfl | rfl
    · exact ⟨by show (1 : Int) ≤ 1; decide, by show (1 : Int) < c; omega⟩
    · exact ⟨by show (1 : Int) ≤ 1; decide, by show (1 : Int) < c; omega⟩
    · exact ⟨h1, h2⟩
  wd := fun p hp => by
    have : p = (r ++ "xyyxy", (1 : Int)) ∨ p = (("x" : Str), (1 : Int)) ∨ p = (("" : Str), n) := by simpa using hp
    rcases this with rfl | rfl | rfl
    · exact ⟨xyz_app hr (by decide +kernel), by show (r ++ "xyyxy").length ≤ 8; rw [len5]; omega⟩
    · exact ⟨by decide +kernel, by decide⟩
    · exact ⟨fun _ z => (by cases z), Nat.zero_le _⟩
  ln := by show 3 ≤ 3; decide
theorem vt_two {c : Int} (hc : 2 ≤ c) {s : Str} (hs : xyz s) (hl : s.length ≤ 4) : VT c 9 2 (twoT s) where
  nd := by
    show [("yxxyx" : Str) ++ s, ("yy" : Str)].Nodup
    have a1 : ("yxxyx" : Str) ++ s ≠ "yy" := fun e => by
      have := congrArg Str.length e
      rw [len5'] at this
      have h3 : ("yy" : Str).length = 2 := rfl
      omega
    simp [a1]
  nu := fun p hp => by
    have : p = (("yxxyx" : Str) ++ s, (1 : Int)) ∨ p = (("yy" : Str), (1 : Int)) := by simpa using hp
    rcases this with rfl | rfl <;> exact ⟨by show (1 : Int) ≤ 1; decide, by show (1 : Int) < c; omega⟩
  wd := fun p hp => by
    have : p = (("yxxyx" : Str) ++ s, (1 : Int)) ∨ p = (("yy" : Str), (1 : Int)) := by simpa using hp
    rcases this with rfl | rfl
    · exact ⟨xyz_app (by decide +kernel) hs, by show (("yxxyx" : Str) ++ s).length ≤ 9; rw [len5']; omega⟩
    · exact ⟨by decide +kernel, by decide⟩
  ln := by show 2 ≤ 2; decide
theorem vt2g {c n k : Int} {m : Nat} {a b : Str} (hne : a ≠ b) (ha : xyz a ∧ a.length ≤ m) (hb : xyz b ∧ b.length ≤ m) (h1 : 1 ≤ n ∧ n < c) (h2 : 1 ≤ k ∧ k < c) : VT c m 2 [(a, n), (b, k)] := by
  refine ⟨by show [a, b].Nodup; simp [hne], fun p hp => ?_, fun p hp => ?_, by show 2 ≤ 2; decide⟩
  · have hp' : p = (a, n) ∨ p = (b, k) := by simpa using hp
    rcases hp' with rfl | rfl
    · exact h1
    · exact h2
  · have hp' : p = (a, n) ∨ p = (b, k) := by simpa using hp
    rcases hp' with rfl | rfl
    · exact ha
    · exact hb
theorem vt_end {c : Int} (hc : 2 ≤ c) : VT c 6 2 endT := vt2g (by decide +kernel) (by decide +kernel) (by decide +kernel) ⟨by decide, by omega⟩ ⟨by decide, by omega⟩
/-- the long bags -/
structure SL (K : PySem.W.Frag) (ca h b1 b2 b3 b4 : Addr) (c : Int) (r s : Str) (n : Int) (t3 t4 : Tb) (H : Hp) : Prop where
  hh : HandAt ca H h
  g1 : Bg K H b1 c 8 3 (oneT r n)
  g2 : Bg K H b2 c 9 2 (twoT s)
  g3 : Bg K H b3 c 23 12 t3
  g4 : Bg K H b4 c 15 4 t4
theorem SL.same {K : PySem.W.Frag} {ca h b1 b2 b3 b4 : Addr} {c : Int} {r s : Str} {n : Int} {t3 t4 : Tb} {H H' : Hp} (z : SL K ca h b1 b2 b3 b4 c r s n t3 t4 H) (k : Same H H') : SL K ca h b1 b2 b3 b4 c r s n t3 t4 H' := ⟨z.hh.same k, z.g1.same k, z.g2.same k, z.g3.same k, z.g4.same k⟩
section
variable {P : Program} {w : World} {K : PySem.W.Frag} {mg : Str → Option Value} {base : Heap}
def spLong : Sp := fun vs H Q _ => ∃ (h ca : Addr) (c : Int), vs = [.ref h, .int c] ∧ HandAt ca H h ∧ isCk c ∧ ∀ H', HandAt ca H' h → But h H H' → Q (.bl true) H'
abbrev nLong : List Str := ["_law_hand_here", "_law_clock_here", "_law_word_here", "_law_other", "_law_one", "_law_two", "_law_three", "_law_last", "_law_more"]
end
end Fp

set_option Elab.async false
set_option linter.all false
set_option maxRecDepth 100000
set_option maxHeartbeats 4000000
namespace Fp
open PySem PySem.Spec PyProof.Rows L2
theorem prs_scl_l (f : Int) (l m : Tb) : prs (scl f l) m = scl f (prs l m) := by
  induction l with
  | nil => rfl
  | cons p r ih =>
    have e : scl f (p :: r) = (p.1, f * p.2) :: scl f r := rfl
    rw [e, prs_cons, prs_cons, ih]
    unfold scl
    rw [List.map_append, List.map_map]
    congr 1
    refine List.map_congr_left fun q _ => ?_
    show ((p.1 ++ q.1, f * p.2 * q.2) : Str × Int) = (p.1 ++ q.1, f * (p.2 * q.2))
    rw [Int.mul_assoc]
theorem ld_scl {c : Int} (hck : isCk c) {l : Tb} {u : Str} {n : Int} (h : Ld c l u) (h1 : 1 ≤ n) (h2 : n < c) : Ld c (scl n l) u := by
  have hn : n % c ≠ 0 := by rw [Int.emod_eq_of_lt (by omega) h2]; omega
  obtain ⟨t, ht⟩ := inv_of hck hn
  refine ⟨fun z => h.ne ?_, fun x hx => h.le x fun z => hx ?_⟩
  · rw [tot_scl] at z
    have e1 : (tot l u * (n * t)) % c = tot l u % c := by rw [Int.mul_emod, ht, Int.mul_one, Int.emod_emod_of_dvd _ (Int.dvd_refl c)]
    rw [← e1, show tot l u * (n * t) = (n * tot l u) * t by rw [← Int.mul_assoc, Int.mul_comm (tot l u)], Int.mul_emod, z, Int.zero_mul, Int.zero_emod]
  · rw [tot_scl, Int.mul_emod, z, Int.mul_zero, Int.zero_emod]
/-- a bag or None -/
def OptB (K : PySem.W.Frag) (H : Hp) (c : Int) (m k : Nat) (x : V) (Pr : Tb → Prop) : Prop := (x = .non ∧ ∀ q, ¬ Pr q) ∨ ∃ r q, x = .ref r ∧ Bg K H r c m k q ∧ Pr q
theorem OptB.same {K : PySem.W.Frag} {H H' : Hp} {c : Int} {m k : Nat} {x : V} {Pr : Tb → Prop} (h : OptB K H c m k x Pr) (s : Same H H') : OptB K H' c m k x Pr := by
  rcases h with h | ⟨r, q, h1, h2, h3⟩
  · exact .inl h
  · exact .inr ⟨r, q, h1, h2.same s, h3⟩
theorem OptB.imp {K : PySem.W.Frag} {H : Hp} {c : Int} {m k : Nat} {x : V} {Pr Pr' : Tb → Prop} (h : OptB K H c m k x Pr) (e : ∀ q, Pr q ↔ Pr' q) : OptB K H c m k x Pr' := by
  rcases h with ⟨h1, h2⟩ | ⟨r, q, h1, h2, h3⟩
  · exact .inl ⟨h1, fun q z => h2 q ((e q).mpr z)⟩
  · exact .inr ⟨r, q, h1, h2, (e q).mp h3⟩
/-- a table or None -/
def OptD (H : Hp) (c : Int) (x : V) (Pr : Tb → Prop) : Prop := (x = .non ∧ ∀ q, ¬ Pr q) ∨ ∃ r q, x = .ref r ∧ H r = some (.dK (kv q)) ∧ VT c 12 1000000 q ∧ Pr q
theorem OptD.imp {H : Hp} {c : Int} {x : V} {Pr Pr' : Tb → Prop} (h : OptD H c x Pr) (e : ∀ q, Pr q ↔ Pr' q) : OptD H c x Pr' := by
  rcases h with ⟨h1, h2⟩ | ⟨r, q, h1, h2, h4, h3⟩
  · exact .inl ⟨h1, fun q z => h2 q ((e q).mpr z)⟩
  · exact .inr ⟨r, q, h1, h2, h4, (e q).mp h3⟩
theorem ld_opt {H : Hp} {f d : Addr} {c : Int} {g l : Tb} {Q : VK} {E : XK} (hck : isCk c) (hf : H f = some (.dK (kv g))) (hd : H d = some (.dK (kv l))) (vg : VT c 12 300 g) (vl : VT c 12 300 l) (hne : g ≠ [])
    (q : ∀ (H' : Hp) (x : V), Same H H' → OptD H' c x (fun q => Lk c l (prs g q)) → Q x H') : spLD [.int c, .ref f, .ref d] H Q E :=
  ⟨c, f, d, g, l, rfl, hck, hf, hd, vg, vl, hne, fun H' r t s n e v h => q H' (.ref r) s (.inr ⟨r, t, rfl, e, v, h⟩), fun H' s h => q H' .non s (.inl ⟨rfl, h⟩)⟩
section
variable {K : PySem.W.Frag}
theorem rest_opt {H : Hp} {a b : Addr} {c : Int} {g l : Tb} {m k mg kg : Nat} {Q : VK} {E : XK} (h1 : Bg K H a c mg kg g) (h2 : Bg K H b c m k l) (hck : isCk c) (hk : k ≤ 2500) (hkg : kg ≤ 100000) (hmg : mg ≤ 1000) (hm : m ≤ 1000) (hn : k + k * ((m + 1) * (kg + 1)) ≤ 1000000) (hne : g ≠ [])
    (q : ∀ (H' : Hp) (x : V), Same H H' → OptB K H' c m (k + k * ((m + 1) * (kg + 1))) x (fun q => Lk c l (prs g q)) → Q x H') : spRest K [.ref a, .ref b] H Q E :=
  rest_rd h1 h2 hck hk hkg hmg hm hn hne (fun H' r t s n hb hq => q H' (.ref r) s (.inr ⟨r, t, rfl, hb, hq⟩)) fun H' s hno => q H' .non s (.inl ⟨rfl, hno⟩)
theorem ahead_opt {H : Hp} {a b : Addr} {c : Int} {g l : Tb} {m k mg kg : Nat} {Q : VK} {E : XK} (h1 : Bg K H a c m k l) (h2 : Bg K H b c mg kg g) (hck : isCk c) (hk : k ≤ 2500) (hkg : kg ≤ 100000) (hmg : mg ≤ 1000) (hm : m ≤ 1000) (hn : k + k * ((m + 1) * (kg + 1)) ≤ 1000000) (hne : g ≠ [])
    (q : ∀ (H' : Hp) (x : V), Same H H' → OptB K H' c m (k + k * ((m + 1) * (kg + 1))) x (fun q => Lk c l (prs q g)) → Q x H') : spAhead K [.ref a, .ref b] H Q E :=
  ⟨a, b, c, l, g, m, k, mg, kg, rfl, h1, h2, hck, hk, hkg, hmg, hm, hn, hne, fun H' r t s n hb hq => q H' (.ref r) s (.inr ⟨r, t, rfl, hb, hq⟩), fun H' s hno => q H' .non s (.inl ⟨rfl, hno⟩)⟩
end
theorem lk_sub {c : Int} {a b d : Tb} (h : Lk c (a ++ b) d) : Lk c a (d ++ scl (-1) b) := fun x => by
  have h1 := h x
  rw [tot_app] at h1
  rw [tot_app, tot_scl]
  have h2 : (tot a x + tot b x - tot b x) % c = (tot d x - tot b x) % c := by rw [Int.sub_emod, h1, ← Int.sub_emod]
  rw [show tot a x + tot b x - tot b x = tot a x by omega] at h2
  rw [h2]
  congr 1
  omega
theorem lk_prs_add {c : Int} (g q p : Tb) : Lk c (prs g (q ++ p)) (prs g q ++ prs g p) := fun x => by rw [prs_app_r]
/-- a sum with a multiple: both are there, or both are not -/
theorem sum_opt {c : Int} {g o w p : Tb} (hw : Lk c w (prs g p)) : (∀ q, Lk c o (prs g q) → Lk c (o ++ w) (prs g (q ++ p))) ∧ (∀ q, Lk c (o ++ w) (prs g q) → Lk c o (prs g (q ++ scl (-1) p))) := by
  refine ⟨fun q h => (Lk.app h hw).trans (lk_prs_add g q p).symm, fun q h => ?_⟩
  refine (lk_sub h).trans ?_
  refine Lk.trans (Lk.app (Lk.refl _ _) ?_) (lk_prs_add g q _).symm
  rw [prs_scl]
  exact Lk.scl (-1) hw
/-- the bags of a turn -/
structure WA (K : PySem.W.Frag) (ca h R b1 b2 b3 bw r0 : Addr) (c : Int) (t1 t2 t3 tw : Tb) (H : Hp) : Prop where
  hh : HandAt ca H h
  nR : R ≠ h
  n0 : r0 ≠ h
  eR : ∃ r1 r2, H R = some (.lst [.ref r0, .ref r1, .ref r2])
  e0 : H r0 = some (.dK (kv t1))
  g1 : Bg K H b1 c 4 9 t1
  g2 : Bg K H b2 c 4 9 t2
  g3 : Bg K H b3 c 4 9 t3
  gw : Bg K H bw c 12 729 tw
theorem WA.same {K : PySem.W.Frag} {ca h R b1 b2 b3 bw r0 : Addr} {c : Int} {t1 t2 t3 tw : Tb} {H H' : Hp} (z : WA K ca h R b1 b2 b3 bw r0 c t1 t2 t3 tw H) (s : Same H H') : WA K ca h R b1 b2 b3 bw r0 c t1 t2 t3 tw H' := by
  obtain ⟨r1, r2, e⟩ := z.eR
  exact ⟨z.hh.same s, z.nR, z.n0, ⟨r1, r2, s _ _ e⟩, s _ _ z.e0, z.g1.same s, z.g2.same s, z.g3.same s, z.gw.same s⟩
theorem Bg.but {K : PySem.W.Frag} {H H' : Hp} {b h : Addr} {c : Int} {m k : Nat} {l : Tb} (g : Bg K H b c m k l) (s : But h H H') (hl : ∃ xs, H h = some (.lst xs)) : Bg K H' b c m k l := ⟨g.1.but s hl, g.2⟩
theorem WA.but {K : PySem.W.Frag} {ca h R b1 b2 b3 bw r0 : Addr} {c : Int} {t1 t2 t3 tw : Tb} {H H' : Hp} (z : WA K ca h R b1 b2 b3 bw r0 c t1 t2 t3 tw H) (s : But h H H') (hh : HandAt ca H' h) : WA K ca h R b1 b2 b3 bw r0 c t1 t2 t3 tw H' := by
  obtain ⟨r1, r2, e⟩ := z.eR
  have hl := z.hh.lst
  exact ⟨hh, z.nR, z.n0, ⟨r1, r2, s _ _ e z.nR⟩, s _ _ z.e0 z.n0, z.g1.but s hl, z.g2.but s hl, z.g3.but s hl, z.gw.but s hl⟩
end Fp

set_option Elab.async false
set_option linter.all false
set_option maxRecDepth 100000
set_option maxHeartbeats 4000000
namespace Fp
open PySem PySem.Spec PyProof.Rows L2
def lenL : Tb → Int
  | [] => -1
  | p :: _ => p.1.length
/-- the longest word -/
def ml (T : Tb) : Nat := (T.map fun p => p.1.length).foldr max 0
theorem ml_le : ∀ {T : Tb}, ∀ p ∈ T, p.1.length ≤ ml T
  | [], p, h => by cases h
  | a :: r, p, h => by
    show _ ≤ max a.1.length (ml r)
    rcases List.mem_cons.mp h with rfl | h
    · omega
    · have := ml_le p h
      omega
theorem ml_lt {N : Nat} (hN : 0 < N) : ∀ {T : Tb}, (∀ p ∈ T, p.1.length < N) → ml T < N
  | [], _ => hN
  | a :: r, h => by
    show max a.1.length (ml r) < N
    have h1 := h a List.mem_cons_self
    have h2 := ml_lt hN (T := r) fun p hp => h p (List.mem_cons_of_mem _ hp)
    omega
theorem tt_at {c : Int} {T : Tb} (h : Tt c T) {p : Str × Int} (hp : p ∈ T) : tot T p.1 % c ≠ 0 := by
  obtain ⟨j, ej⟩ := List.getElem?_of_mem hp
  have h1 := h.rg p hp
  rw [tot_num h.nd, num_of h.nd ej, Int.emod_eq_of_lt (by omega) h1.2]
  omega
theorem tt_key {c : Int} {T : Tb} {x : Str} (hx : tot T x % c ≠ 0) : ∃ p ∈ T, p.1 = x := by
  by_cases h : x ∈ T.map (·.1)
  · obtain ⟨p, hp, e⟩ := List.mem_map.mp h
    exact ⟨p, hp, e⟩
  · rw [tot_not h, Int.zero_emod] at hx
    exact absurd rfl hx
theorem lenL_ld {c : Int} {g : Tb} {h : Str} (hg : Nd g) (hld : Ld c g h) : lenL (canon g) = h.length ∨ h.length < lenL (canon g) := by
  have hne : g ≠ [] := fun z => by
    rw [z] at hld
    exact hld.no
  obtain ⟨x, tl, e, hx, hmin⟩ := ord_first hne
  have hk := canon_keys g
  rw [e] at hk
  cases ec : canon g with
  | nil => rw [ec] at hk; cases hk
  | cons p r =>
    rw [ec, List.map_cons] at hk
    injection hk with h1 _
    obtain ⟨p', hp', e'⟩ := tt_key hld.ne
    have := leR_len' (hmin h (List.mem_map.mpr ⟨p', hp', e'⟩))
    show ((p.1.length : Nat) : Int) = _ ∨ _ < ((p.1.length : Nat) : Int)
    rw [h1]
    omega
theorem nz_snoc {ns : List Int} {n : Int} (h : n ≠ 0) : NZ (ns ++ [n]) := fun k e => by
  rw [List.getLast?_concat] at e
  rw [← Option.some.inj e]
  exact h
section
variable {P : Program} {w : World} {K : PySem.W.Frag} {mg : Str → Option Value} {base : Heap}
def spLen (K : PySem.W.Frag) : Sp := fun vs H Q _ => ∃ (a : Addr) (c : Int) (L : Tb), vs = [.ref a] ∧ BagAt K H a c L ∧ (∀ p ∈ L, p.1.length ≤ 1000000) ∧ Q (.int (lenL L)) H
theorem sc_length : FnScope ["bag"] ["bag"] (defScope s_length) := ⟨rfl, rfl, rfl, by decide +kernel, rfl, by decide +kernel, by decide +kernel⟩
theorem ok_length (T : Top K mg) : Ok P w K mg base 1 "length" ["bag"] (spLen K) := by
  obtain ⟨fd, F⟩ := fn_length T
  refine ⟨⟨fd, ?_, F.bindsN fun _ _ _ _ _ _ us hl => match us, hl with | [_], _ => rfl⟩, g_length T, F.kp⟩
  refine F.ok sc_length (fun vs H Q E h => ?_) (fun cdv A outer s H vs Q E hr h => ?_)
  · obtain ⟨a, c, L, rfl, _⟩ := h
    rfl
  · obtain ⟨a, c, L, rfl, ⟨dx, t, ea, wt⟩, hw, q⟩ := h
    have hs : sizeLine = 16777216 := sizeLine_eq
    obtain ⟨ps, o, e1, e2, e3⟩ := WordsAt.get wt
    refine ⟨_, PSs.nox (pss_cons (ps_if (pt_not (pt_truth (pe_fld (pv 0) rfl) (fun _ => rfl))) (pss_one (ps_ret (pe_un un_neg pe_int))) pss_nil)
      (pss_one (ps_ret (pe_callB call_len_str (by rfl) (f_len T) PySem.boot_len (pa_cons (pe_ix ix_tup (pe_ix ix_tup (pe_fld (pv 0) rfl) pe_int (fun _ _ => rfl)) pe_int (fun _ _ => rfl)) pa_nil))))), ?_⟩
    refine ⟨_, rfl, a, _, dx, _, _, rfl, ea, cls_Bag T, na_Bag_words T, flds_words _ _, ?_⟩
    refine ⟨_, .inr (.inl ⟨_, .inl (.inr ⟨o, e1⟩), rfl⟩), ?_⟩
    cases L with
    | nil =>
      have : ps = [] := List.eq_nil_of_length_eq_zero e2
      subst this
      refine ite2 (fun _ => ?_) (fun z => absurd rfl z)
      exact ⟨_, rfl, q⟩
    | cons p r =>
      obtain ⟨p0, h1, h2⟩ := e3 0 p rfl
      cases ps with
      | nil => simp at h1
      | cons p1 ps =>
        have : p1 = p0 := Option.some.inj h1
        subst this
        refine ite2 (fun z => absurd z (by simp)) (fun _ => ?_)
        refine ⟨_, rfl, a, _, dx, _, _, rfl, ea, cls_Bag T, na_Bag_words T, flds_words _ _, ?_⟩
        refine ⟨t, _, 0, _, rfl, rfl, .inl (.inr ⟨o, e1⟩), atI_nat (j := 0) (xs := (p1 :: ps).map V.ref) rfl, p1, _, 0, _, rfl, rfl, .inl (.inl h2), rfl, _, rfl, ?_, q⟩
        have := hw p List.mem_cons_self
        omega
def spCkNN (K : PySem.W.Frag) : Sp := fun vs H Q _ => ∃ (a : Addr) (c : Int) (L : Tb), vs = [.ref a] ∧ BagAt K H a c L ∧ (∀ p ∈ L, p.1.length ≤ 1000000) ∧ lenL L ≠ 0 ∧ Q .non H
theorem sc_cknn : FnScope ["bag"] ["bag"] (defScope s_check_no_number) := ⟨rfl, rfl, rfl, by decide +kernel, rfl, by decide +kernel, by decide +kernel⟩
theorem ok_cknn (T : Top K mg) : Ok P w K mg base 2 "check_no_number" ["bag"] (spCkNN K) := by
  obtain ⟨fd, F⟩ := fn_check_no_number T
  refine ⟨⟨fd, ?_, F.bindsN fun _ _ _ _ _ _ us hl => match us, hl with | [_], _ => rfl⟩, g_check_no_number T, F.kp⟩
  refine F.ok sc_cknn (fun vs H Q E h => ?_) (fun cdv A outer s H vs Q E hr h => ?_)
  · obtain ⟨a, c, L, rfl, _⟩ := h
    rfl
  · obtain ⟨a, c, L, rfl, hb, hw, hne, q⟩ := h
    refine ⟨_, PSs.nox (pss_one (ps_if (pt_cmpR op_eq (pc (ok_length T) hr (pa_cons (pv 0) pa_nil)) pe_int (nomark _)) (pss_one ps_never) pss_nil)), ?_⟩
    refine ⟨_, rfl, a, c, L, rfl, hb, hw, rfl, _, rfl, ?_⟩
    rw [decide_eq_false (show ¬ V.int (lenL L) = V.int 0 from fun z => hne (by injection z))]
    exact iteF q
/-- taking out the number alone -/
def tPop0 : TE := fun σ H Q => ∃ (le : Addr) (R : Tb), σ[4]? = some (some (.ref le)) ∧ H le = some (.dK (kv R)) ∧ Nd R ∧ ∀ H', But le H H' → H' le = some (.dK (kv (dropT R ""))) → Q (.int (num R "")) H'
/-- what stands ahead of each turn -/
def WI (g : Tb) (c : Int) (l : Tb) (a b F0 : Addr) (H : Hp) (mm : Nat) (σ : L2.St) (H' : Hp) : Prop := ∃ (D : Addr) (x4 : Option V) (Tc : Tb) (fs : List Int), σ = [some (.ref a), some (.ref b), some (.ref D), some (.ref F0), x4] ∧ H' D = some (.dK (kv Tc)) ∧ H' F0 = some (.lst (fs.map V.int)) ∧ Same H H' ∧ Tt c Tc ∧ (∀ p ∈ Tc, xyz p.1) ∧
  Lk c l (EvT g fs Tc) ∧ Rg c fs ∧ (Tc = [] → NZ fs) ∧ fs.length + mm ≤ 1002 ∧ (if Tc = [] then 0 else ml Tc + 1) = mm
/-- a result as it stands -/
def OptT (K : PySem.W.Frag) (H : Hp) (x : V) : Option (List Int) → Prop
  | none => x = .non
  | some ns => ∃ t, x = .ref t ∧ SqT K H t (ns.map V.int)
def spInP (K : PySem.W.Frag) : Sp := fun vs H Q _ => ∃ (a b : Addr) (c : Int) (m k mg kg : Nat) (l g : Tb), vs = [.ref a, .ref b] ∧ Bg K H a c m k l ∧ Bg K H b c mg kg g ∧ isCk c ∧ (∃ h, Ld c g h ∧ 0 < h.length) ∧ m ≤ 1000 ∧ mg ≤ 1000 ∧ kg ≤ 100000 ∧ k ≤ 1000000 ∧
  (∀ (fs : List Int) (T : Tb), Tt c T → (∀ p ∈ T, xyz p.1) → T ≠ [] → Lk c l (EvT g fs T) → ∃ m k M U, VT c m k T ∧ k ≤ 2500 ∧ UW (canon g) T M U) ∧
  ∀ H' x r, Same H H' → Res c g l r → OptT K H' x r → Q x H'
abbrev nInP : List Str := ["bag", "base", "left", "found", "rest"]
theorem sc_inp : FnScope nInP ["bag", "base"] (defScope s_in_powers) := ⟨rfl, rfl, rfl, by decide +kernel, rfl, by decide +kernel, by decide +kernel⟩
theorem ok_inp (T : Top K mg) : Ok P w K mg base 7 "in_powers" ["bag", "base"] (spInP K) := by
  obtain ⟨fd, F⟩ := fn_in_powers T
  refine ⟨⟨fd, ?_, F.bindsN fun _ _ _ _ _ _ us hl => match us, hl with | [_, _], _ => rfl⟩, g_in_powers T, F.kp⟩
  refine F.ok sc_inp (fun vs H Q E h => ?_) (fun cdv A outer s H vs Q E hr h => ?_)
  · obtain ⟨a, b, c, m, k, mg, kg, l, g, rfl, _⟩ := h
    rfl
  · obtain ⟨a, b, c, m, k, mg, kg, l, g, rfl, h1, h2, hck, ⟨h, hld, hh⟩, hm, hmg, hkg, hk, hsz, q⟩ := h
    have nd := sc_inp.nd
    have hs : sizeLine = 16777216 := sizeLine_eq
    have hr1 : Room 1 _ := hr.mono (by decide)
    have hr2 : Room 2 _ := hr.mono (by decide)
    obtain ⟨hc2, hc7⟩ := ck_range hck
    have hc0 : 0 < c := by omega
    refine ⟨_, PSs.nox (pss_cons (ps_expr (pcL (ok_check_something T) hr1 (pa_cons (pv 1) pa_nil)))
      (pss_cons (ps_expr (pc (ok_cknn T) hr2 (pa_cons (pv 1) pa_nil)))
      (pss_cons (ps_expr (pcL (ok_check_clocks T) hr1 (pa_cons (pv 0) (pa_cons (pv 1) pa_nil))))
      (pss_cons (ps_set (i := 2) nd rfl (Or.inl rfl) (pc (ok_table_of T) hr1 (pa_cons (pv 0) pa_nil)))
      (pss_cons (ps_set (i := 3) nd rfl (Or.inl rfl) (pe_lst pa_nil))
      (pss_cons (ps_while PassesOwn.never (pt_truth (pv 2) (fun _ => rfl))
        (pss_cons (ps_asg (pc (ok_Div T) hr (pa_cons (pv 2) (pa_cons (pc (ok_table_of T) hr1 (pa_cons (pv 1) pa_nil)) (pa_cons (pe_fld (pv 0) rfl) pa_nil)))) (pg_tup rfl (pgs_cons (pg_name (i := 2) nd rfl (Or.inl rfl)) (pgs_cons (pg_name (i := 4) nd rfl (Or.inl rfl)) pgs_nil))))
        (pss_cons (ps_expr (pe_bm PySem.F.plainAttrs_list PySem.F.slot_list_append PySem.F.type_list_append mt_append (pv 3) (pa_cons (PE.weak (t' := tPop0) (pe_dpop2 (pv 4) pe_str pe_int ⟨rfl, rfl, rfl, rfl⟩) ?wP) pa_nil)))
        (pss_one (ps_if (pt_truth (pv 4) (fun _ => rfl)) (pss_one (ps_ret pe_non)) pss_nil)))))
      (pss_one (ps_ret (pe_callTy call_tupleF (by rfl) (f_tuple T) (by decide +kernel) (pa_cons (pv 3) pa_nil)))))))))), ?_⟩
    case wP =>
      rintro σ H Q ⟨le, R, e1, e2, e3, k⟩
      refine ⟨_, e1, le, rfl, .inl ⟨_, .inl e2⟩, kv R, Sum.inr "", e2, rfl, fun v hv => ?_, fun hv => ?_⟩
      · have e : has R "" = true := by
          cases z : has R "" with
          | true => rfl
          | false => rw [(valV_no z).1] at hv; cases hv
        rw [valV_yes e] at hv
        rw [← Option.some.inj hv]
        refine k _ but_upd ?_
        rw [upd_same, dropK_kv]
      · have e : has R "" = false := by
          cases z : has R "" with
          | false => rfl
          | true => rw [valV_yes z] at hv; cases hv
        have h0 : num R "" = 0 := by
          rw [← tot_num e3]
          exact tot_not fun hm => by rw [has_iff.mpr hm] at e; cases e
        have := k H (But.refl _ _) (by rw [dropT_no e]; exact e2)
        rw [h0] at this
        exact this
    have v1 := vt_canon h1.2
    have v2 := vt_canon h2.2
    have hg0 : canon g ≠ [] := fun z => by
      have := (hld.lk (lk_canon h2.2.nd).symm)
      rw [z] at this
      exact this.no
    have hldc := hld.lk (lk_canon (c := c) h2.2.nd).symm
    have hl0 : lenL (canon g) ≠ 0 := by
      have := lenL_ld h2.2.nd hld
      omega
    obtain ⟨dx, t, ea, wa⟩ := id h1.1
    refine ⟨_, rfl, b, c, canon g, rfl, h2.1, fun _ => ?_, fun z => absurd z hg0⟩
    refine ⟨_, rfl, b, c, canon g, rfl, h2.1, fun p hp => Nat.le_trans (v2.wd p hp).2 (by omega), hl0, ?_⟩
    refine ⟨_, rfl, _, rfl, a, b, c, c, _, _, rfl, h1.1, h2.1, fun _ => ?_, fun z => absurd rfl z⟩
    refine ⟨_, rfl, a, c, canon l, rfl, h1.1, v1.nd, fun D0 hD0 => ?_⟩
    have s0 := same_upd (o := .dK (kv (canon l))) hD0
    have e0 : (upd H D0 (.dK (kv (canon l)))) D0 = some (.dK (kv (canon l))) := upd_same
    generalize upd H D0 (.dK (kv (canon l))) = H0 at s0 e0 ⊢
    refine ⟨by show 0 ≤ sizeLine; omega, fun F0 hF0 => ?_⟩
    have sF := same_upd (o := .lst []) hF0
    have eF : (upd H0 F0 (.lst [])) F0 = some (.lst []) := upd_same
    have nFD : D0 ≠ F0 := ne_of_none e0 hF0
    have nF0 : H F0 = none := s0.free hF0
    replace e0 := sF _ _ e0
    replace s0 := s0.trans sF
    generalize upd H0 F0 (.lst []) = H1 at s0 e0 eF ⊢
    clear sF hD0
    refine ⟨WI g c l a b F0 H, ⟨_, D0, _, canon l, [], rfl, e0, eF, s0, ⟨v1.nd, v1.nu⟩, fun p hp => (v1.wd p hp).1, (lk_canon h1.2.nd).symm, fun n hn => (by cases hn), fun _ n e => (by cases e), by
        have := ml_lt (N := 1001) (by decide) (T := canon l) fun p hp => by have := (v1.wd p hp).2; omega
        show 0 + _ ≤ _
        split <;> omega, rfl⟩, ?_⟩
    rintro mm σ H2 ⟨D, x4, Tc, fs, rfl, eD, eF2, s2, tT, xT, lT, rg, nz, hfl, hmm⟩
    refine ⟨_, rfl, _, .inr (.inr ⟨_, eD, rfl⟩), ?_⟩
    by_cases hT : Tc = []
    · subst hT
      refine iteF ?_
      refine ⟨_, rfl, F0, _, rfl, SqL.of eF2, fun t o nt _ => ?_⟩
      refine q _ _ (some fs) (s2.trans (same_upd nt)) ⟨lT, rg, nz rfl⟩ ⟨t, rfl, .inl (.inr ⟨o, upd_same⟩)⟩
    · rw [show (!(kv Tc).isEmpty) = true by
        cases Tc with
        | nil => exact absurd rfl hT
        | cons p r => rfl]
      rw [if_neg hT] at hmm
      obtain ⟨m', k', M, U, vT, hk', uw⟩ := hsz fs Tc tT xT hT lT
      refine iteT ⟨fun σ' H' => ∃ m', m' < mm ∧ WI g c l a b F0 H m' σ' H', fun _ _ z => z, ?_⟩
      refine ⟨_, rfl, _, rfl, b, c, canon g, rfl, h2.1.same s2, v2.nd, fun D2 hD2 => ?_⟩
      have sD := same_upd (o := .dK (kv (canon g))) hD2
      refine ⟨_, rfl, a, _, dx, _, _, rfl, sD _ _ (s2 _ _ ea), cls_Bag T, na_Bag_clock T, flds_clock _ _, ?_⟩
      refine ⟨D, D2, c, Tc, canon g, m', k', _, _, M, U, rfl, hck, sD _ _ eD, upd_same, vT, v2, hk', hkg, hmg, hg0, uw, fun H3 p qo le C a1 a2 ops h' turn s3 np nQle nle ep ele eqo hh' hmin hinv ht1 htc hops n0 w0 n1 w1 hz => ?_⟩
      have hld' : Ld c (canon g) h' := by
        refine ⟨fun z => ?_, fun x hx => ?_⟩
        · rw [tot_num v2.nd] at z
          rw [Int.mul_emod, z, Int.zero_mul, Int.zero_emod] at hinv
          exact absurd hinv (by decide)
        · obtain ⟨p, hp, e⟩ := tt_key hx
          exact hmin x (List.mem_map.mpr ⟨p, hp, e⟩)
      have ehh : h' = h := hld'.uniq hldc
      subst ehh
      have hlk := run_lk v2.nd ops hops Tc [] tT.nd (show Nd [] from List.nodup_nil)
      have hR : ∀ v, tot (tidyM c (runT c 0 ops Tc)) (h' ++ v) % c = 0 := fun v => by
        rw [tot_num (tidy_nd n0), num_tidy n0]
        by_cases hk : (h' ++ v) ∈ (runT c 0 ops Tc).map (·.1)
        · rw [hz _ hk (start_has (List.mem_singleton.mpr rfl)), Int.zero_emod, Int.zero_emod]
        · rw [← tot_num n0, tot_not hk, Int.zero_emod, Int.zero_emod]
      generalize runT c 0 ops Tc = T0 at ele n0 w0 hz hlk hR
      generalize runT c 1 ops [] = T1 at eqo n1 w1 hlk
      have hlk2 : Lk c Tc (prs g (tidyM c T1) ++ tidyM c T0) := by
        have e1 : Lk c (Tc ++ prs (canon g) []) Tc := by
          rw [prs_nil_r, List.append_nil]
          exact Lk.refl _ _
        refine (hlk.trans e1).symm.trans fun x => ?_
        have e3 := Lk.app (Lk.prs (lk_canon h2.2.nd) (lk_tidy (c := c) n1).symm) (lk_tidy (c := c) n0).symm x
        rw [tot_app, tot_app] at e3
        rw [tot_app, tot_app, Int.add_comm]
        exact e3
      have tR : Tt c (tidyM c T0) := ⟨tidy_nd n0, tidy_rg hc0⟩
      have tQ : Tt c (tidyM c T1) := ⟨tidy_nd n1, tidy_rg hc0⟩
      have xQ : ∀ p ∈ tidyM c T1, xyz p.1 := fun r hr => by
        obtain ⟨r', hr', e, _⟩ := tidy_keys hr
        rw [e]
        exact (uw.wl _ (w1 r'.1 (List.mem_map.mpr ⟨r', hr', rfl⟩))).1
      generalize tidyM c T0 = R at ele hR hlk2 tR
      generalize tidyM c T1 = Tq at eqo hlk2 tQ xQ
      have s23 := sD.trans s3
      refine ⟨p, _, rfl, .inl (.inl ep), rfl, ?_⟩
      refine ⟨_, _, rfl, _, _, rfl, rfl, ?_⟩
      have eF3 := s23 _ _ eF2
      refine ⟨_, rfl, .inl ⟨rfl, _, SqL.of eF3⟩, le, R, rfl, ele, tR.nd, fun H4 k4 e4 => ?_⟩
      have nFle : F0 ≠ le := ne_of eF3 ele (by intro z; cases z)
      have hRe : ∀ x : Str, x ≠ "" → dropT R "" = [] → tot R x = 0 := fun x hx hd => tot_not fun hm => by
        obtain ⟨p0, hp0, e⟩ := List.mem_map.mp hm
        have : p0 ∈ dropT R "" := List.mem_filter.mpr ⟨hp0, decide_eq_true (by rw [e]; exact hx)⟩
        rw [hd] at this
        cases this
      have hn0 : 0 ≤ num R "" ∧ num R "" < c := by
        by_cases hm : (("" : Str)) ∈ R.map (·.1)
        · obtain ⟨p0, hp0, e⟩ := List.mem_map.mp hm
          obtain ⟨j, ej⟩ := List.getElem?_of_mem hp0
          have h3 := num_of tR.nd ej
          rw [show p0.1 = "" from e] at h3
          have := tR.rg p0 hp0
          omega
        · have h3 := tot_num tR.nd (("" : Str))
          rw [tot_not hm] at h3
          omega
      refine ⟨F0, _, _, rfl, rfl, k4 _ _ eF3 nFle, by rw [List.length_map]; omega, ?_⟩
      have e5 : (upd H4 F0 (.lst (fs.map V.int ++ [.int (num R "")]))) F0 = some (.lst ((fs ++ [num R ""]).map V.int)) := by
        rw [upd_same, List.map_append]
        rfl
      have s5 : Same H (upd H4 F0 (.lst (fs.map V.int ++ [.int (num R "")]))) := fun y o e => by
        rw [upd_ne (ne_of_none e nF0)]
        have e23 := s23 _ _ (s2 _ _ e)
        exact k4 _ _ e23 (ne_of_none (s2 _ _ e) (back_none8 sD nle))
      have le5 : (upd H4 F0 (.lst (fs.map V.int ++ [.int (num R "")]))) le = some (.dK (kv (dropT R ""))) := by
        rw [upd_ne nFle.symm]
        exact e4
      have qo5 : (upd H4 F0 (.lst (fs.map V.int ++ [.int (num R "")]))) qo = some (.dK (kv Tq)) := by
        rw [upd_ne (ne_of eqo eF3 (by intro z; cases z))]
        exact k4 _ _ eqo nQle
      generalize upd H4 F0 (.lst (fs.map V.int ++ [.int (num R "")])) = H5 at e5 s5 le5 qo5 ⊢
      refine ⟨_, rfl, _, .inr (.inr ⟨_, le5, rfl⟩), ?_⟩
      by_cases hd : dropT R "" = []
      · rw [hd]
        refine iteF ?_
        have hRn : Lk c R [(("" : Str), num R "")] := fun x => by
          by_cases hx : x = ""
          · subst hx
            rw [num_at0, tot_num tR.nd]
          · rw [hRe x hx hd, num_at hx]
        have hTl : Lk c Tc (("", num R "") :: prs g Tq) := hlk2.trans ((Lk.app (Lk.refl c (prs g Tq)) hRn).trans (lk_comm _ _))
        have hmax : ∀ y ∈ Tq, h'.length + y.1.length ≤ ml Tc := fun y hy => by
          have := evT_short (fs := [num R ""]) (T := Tq) (m := ml Tc) hck hld hh hTl (fun x hx => by
            obtain ⟨p0, hp0, rfl⟩ := tt_key hx
            exact ml_le p0 hp0) (tt_at tQ hy)
          simpa using this
        have hlt : (if Tq = [] then 0 else ml Tq + 1) < mm := by
          split
          · omega
          · rename_i hq
            obtain ⟨y, hy⟩ := List.exists_mem_of_ne_nil _ hq
            have h6 := hmax y hy
            have := ml_lt (N := ml Tc) (by omega) (T := Tq) fun p hp => by have := hmax p hp; omega
            omega
        refine ⟨_, hlt, qo, _, Tq, fs ++ [num R ""], rfl, qo5, e5, s5, tQ, xQ, ?_, ?_, fun hq => ?_, ?_, rfl⟩
        · rw [evT_snoc]
          exact lT.trans (evT_lk hTl fs)
        · intro n hn
          rcases List.mem_append.mp hn with hn | hn
          · exact rg n hn
          · rw [List.mem_singleton.mp hn]
            exact hn0
        · refine nz_snoc fun h0 => ?_
          obtain ⟨y, hy⟩ := List.exists_mem_of_ne_nil _ hT
          have h6 := tt_at tT hy
          rw [hTl y.1, hq, prs_nil_r, h0] at h6
          refine h6 ?_
          rw [tot_cons, tot_nil]
          split <;> rfl
        · rw [List.length_append]
          show fs.length + 1 + _ ≤ _
          omega
      · rw [show (!(kv (dropT R "")).isEmpty) = true by
          cases hd2 : dropT R "" with
          | nil => exact absurd hd2 hd
          | cons p r => rfl]
        refine iteT ?_
        obtain ⟨y, hy⟩ := List.exists_mem_of_ne_nil _ hd
        obtain ⟨hy1, hy2⟩ := List.mem_filter.mp hy
        exact q _ _ none s5 (res_none hck hld hh lT hlk2 hR (of_decide_eq_true hy2) (tt_at tR hy1)) rfl
end
end Fp

set_option Elab.async false
set_option linter.all false
set_option maxRecDepth 100000
set_option maxHeartbeats 4000000
/-! defs that show things with repr: they are called where nothing else is being shown -/
namespace L2
open PySem PySem.Spec PyProof.Rows
abbrev Gd (A : Around) : Prop := A.guards = some []
structure FnG (P : Program) (w : World) (K : PySem.W.Frag) (mg : Str → Option Value) (base : Heap) (k : Nat) (f : Addr) (fd : FuncData) (ps : List Str) (sp : Sp) : Prop where
  len : ∀ vs H Q E, sp vs H Q E → vs.length = ps.length
  run : ∀ (A : Around) (outer : List Env) (s : Shared) (H : Hp) (args : Args) (us : List Value) (vs : List V) (Q : VK) (E : XK), Gd A → Room k A → Env0 P w K mg base A outer s H → BindsTo s fd args (ps.zip us) → Vals vs us → sp vs H Q E → codeAny (model P w) A (.call (.ref f) args) (CR CX0 outer P w H s Q E) s
section
variable {P : Program} {w : World} {K : PySem.W.Frag} {mg : Str → Option Value} {base : Heap}
theorem FnOk.gd {k : Nat} {f : Addr} {fd : FuncData} {ps : List Str} {sp : Sp} (F : FnOk P w K mg base CX0 k f fd ps sp) : FnG P w K mg base k f fd ps sp :=
  ⟨F.len, fun A outer s H args us vs Q E _ => F.run A outer s H args us vs Q E⟩
theorem FunD.okG {x qual : Str} {params : Arguments} {body : List Stmt} {scope : Scope} {dvs : List V} {kws : List (Str × V)} {f : Addr} {fd : FuncData} {N ps : List Str} {k : Nat} {sp : Sp}
    (F : FunD K x qual params body scope dvs kws f fd) (S : FnScope N ps scope) (len : ∀ vs H Q E, sp vs H Q E → vs.length = ps.length)
    (hbody : ∀ (cdv : Value) (A : Around) (outer : List Env) (s : Shared) (H : Hp) (vs : List V) (Q : VK) (E : XK), Gd A → Room k (A.deeper (envOfC qual scope s.heap.objs.size f cdv)) → sp vs H Q E →
      ∃ t, PSs (cxOf CX0 P w K mg base N qual scope f cdv A outer s H E) body t ∧ t { nx := fun _ H' => Q .non H', rt := Q } (start N vs) H) : FnG P w K mg base (k + 1) f fd ps sp := by
  obtain ⟨oc, od, dV, kV, doc, pm, an, cdv, ct, osl, rfl, lk, hcd, _, _⟩ := F.ex
  refine ⟨len, fun A outer s H args us vs Q E hG hr e0 hb r hsp => ?_⟩
  have keep := fun (b : Addr) (o : Obj) (e : base.get? b = some o) => (e0.bs b o e).1
  have inK : K.In s.heap := e0.mod.kin.keeps keep
  have names : ∀ y ∈ ps.zip us, scope.names.lookup y.1 = some .local ∨ (scope.names.lookup y.1 = some .cell ∧ ((cellsFrom (s.heap.objs.size + 1) scope.names []).lookup y.1).isSome = true) := by
    rintro ⟨n, v⟩ hy
    exact (S.par n (List.of_mem_zip hy).1).imp id fun q => ⟨q, PySem.W.cellsFrom_some _ _ _ (.inl q)⟩
  have hlen : us.length = ps.length := r.length.symm.trans (len _ _ _ _ hsp)
  refine codeAny_call_function hr.depth (inK _ _ lk) rfl S.co S.gen rfl (PySem.W.codeRec_of inK hcd) (hb _ _ _ _ ?_)
  refine wpAny_newFunctionEnv_cells S.kind names fun env he s1 x => ?_
  subst he
  obtain ⟨t, ht, hq⟩ := hbody cdv A outer s H vs Q E hG (hr.deeper _) hsp
  have I : Inv (cxOf CX0 P w K mg base N qual scope f cdv A outer s H E) [] (start N vs) H s1 := inv_start S hr.hd e0 (len _ _ _ _ hsp) r x
  have out : ∀ {σ' : St} {H' : Hp} {v : V} {u : Value} {s' : Shared}, Inv (cxOf CX0 P w K mg base N qual scope f cdv A outer s H E) [] σ' H' s' → RelV v u → Q v H' → CE outer P w H s Q u s' :=
    fun J rv q => ⟨_, _, J.os, J.bare, J.base, J.hok, rv, q⟩
  refine ⟨(e0.mod.nolimit.keeps keep).keeps x.toInCall.keep, codeAny_func (wpAny_mono (ht.run [] s1 (start N vs) H _ I hq) (fun fl s' hs => ?_) fun e s' hs => hs)⟩
  match fl, hs with
  | .ret u, ⟨v, σ', H', J, rv, q⟩ => exact out J rv q
  | .next, ⟨σ', H', J, q⟩ => exact out (v := V.non) (u := Value.none) J rfl q
  | .brk, ⟨_, _, _, q⟩ => exact q.elim
  | .cont, ⟨_, _, _, q⟩ => exact q.elim
end
section
variable {X : Cx} {x : Str} {f : Addr} {fd : FuncData} {ps : List Str} {sp : Sp} {k : Nat} {p pos : Pos} {e : Expr} {es : List Expr} {t : TA}
theorem pe_callG (F : FnG X.prog X.w X.K X.mg X.base k f fd ps sp) (hG : Gd X.A) (hr : Room k X.A) (hg : Gl X x) (hm : X.mg x = some (.ref f)) (hk : PySem.W.keepIn X.K (.ref f) = true) (hb : Binds X.K fd ps [])
    (ha : PA X (e :: es) t) (hdb : (x == ("__debug__" : Str)) = false := by decide) (he : starEach (e :: es) X.env = (false, eval e X.env) :: starEach es X.env := by rfl) (hpl : (backTo pos (starEach es X.env)).any (·.1) = false := by rfl) :
    PE X (.Call (.Name x p) (e :: es) [] pos) (tCall sp [] E0 t) := by
  refine ⟨fun pins s σ H Q I h => wpAny_Call_Name_kw (ld_glob I hg hm ?_ hdb)⟩
  refine PySem.W.callWith_K (h₀ := X.base) I.ok.mod.kin hk (thn (ha.run pos pins s σ H _ I h) fun us s1 ⟨vs, H1, I1, r, q⟩ => ⟨I1.kIn, ?_⟩) he hpl
  have q' : sp vs H1 Q E0 := by
    have q0 : sp (vs ++ []) H1 Q E0 := q
    rw [List.append_nil] at q0
    exact q0
  have hl : (us ++ []).length = ps.length := by
    rw [List.append_nil, ← r.length]
    exact F.len _ _ _ _ q'
  have bb := hb s1 us I1.kIn hl
  rw [List.append_nil] at bb
  refine wpAny_call (codeAny_mono (F.run X.A X.stack s1 H1 ⟨us, []⟩ us vs Q E0 hG hr I1.env0 bb r q') fun r s' hq => ?_)
  match r, hq with
  | .error e, hq => exact pass0 pins σ H1 s1 e s' I1 hq
  | .ok (.ret u), hq => exact I1.after hq
  | .ok .next, hq => exact hq.elim
  | .ok .brk, hq => exact hq.elim
  | .ok .cont, hq => exact hq.elim
/-- what repr tells of None and of a tuple of ints -/
def shownT : Option (List Int) → Str
  | none => "None"
  | some ns => (PyData.tuple (ns.map PyData.int)).shown
def rRepr (K : PySem.W.Frag) : List V → Hp → VK → Prop := fun xs H Q => ∃ (x : V) (r : Option (List Int)), xs = [x] ∧ (match r with
  | none => x = .non
  | some ns => ∃ t, x = .ref t ∧ SqT K H t (ns.map V.int)) ∧ (∀ ns, r = some ns → (PyData.tuple (ns.map PyData.int)).showable = true ∧ (shownT (some ns)).length ≤ sizeLine) ∧ Q (.str (shownT r)) H
theorem dp_ints {K : PySem.W.Frag} {H : Hp} : ∀ ns : List Int, DpAll K H (ns.map V.int) (ns.map PyData.int)
  | [] => .nil
  | n :: ns => .cons (.int n) (dp_ints ns)
theorem no_dict : ∀ ns : List Int, (PyData.tuple (ns.map PyData.int)).hasDict = false
  | [] => rfl
  | n :: ns => by
    have h := no_dict ns
    show (PyData.hasDict (.int n) || PyData.hasDictAll (ns.map PyData.int)) = false
    rw [show PyData.hasDictAll (ns.map PyData.int) = false from h]
    rfl
theorem depth_ints : ∀ ns : List Int, PyData.depthAll (ns.map PyData.int) ≤ 1
  | [] => Nat.zero_le _
  | n :: ns => by
    have h := depth_ints ns
    show max (PyData.depth (.int n)) (PyData.depthAll (ns.map PyData.int)) ≤ 1
    have : PyData.depth (.int n) ≤ 1 := by first | exact Nat.zero_le _ | exact Nat.le_refl _
    omega
theorem cr_repr (hG : Gd X.A) (hu : X.A.units + 64 < cLine) : CallR X (.builtin "repr") (rRepr X.K) := by
  intro pins s σ H xs us Q I r h
  obtain ⟨x, r0, rfl, hx, hz, q⟩ := h
  obtain ⟨u, rfl, ru⟩ := r.one
  cases r0 with
  | none =>
    have hx' : x = .non := hx
    subst hx'
    cases ru
    exact PySem.P.repr_of_none ⟨.str _, H, I.tok _, ⟨_, rfl⟩, q⟩
  | some ns =>
    obtain ⟨t, rfl, ht⟩ := hx
    cases ru
    obtain ⟨z1, z2⟩ := hz ns rfl
    obtain ⟨as, rd⟩ := Dp.reads I (.tuple (ns.map PyData.int)) (.ref t) (.ref t) (.tup ht (dp_ints ns)) rfl
    refine PySem.repr_of_reads' rd z1 (fun z => by rw [no_dict] at z; cases z) hG ?_ (fun _ _ e => e) (fun h' u tk k => ⟨.str _, H, I.kept (t' := tk) k, ⟨u, rfl⟩, q⟩) z2
    have := depth_ints ns
    show X.A.units + (PyData.depthAll (ns.map PyData.int) + 1 + 1) < cLine
    omega
end
end L2

set_option Elab.async false
set_option linter.all false
set_option maxRecDepth 100000
set_option maxHeartbeats 2000000
/-! a tuple told backward: t[::-1] -/
namespace HT
open PySem PySem.Spec PyProof.Rows
section
variable {prog : Program} {w : World} {A : Around} {E : Value → Shared → Prop} {s : Shared}
theorem sliceApplied_neg {sl : Addr} {vl vu vs : Value} {n : Nat} {Q : Int × Int × Nat → Shared → Prop} (hs : s.heap.IsSliceOf sl vl vu vs) (pl : IsPart vl none) (pu : IsPart vu none) (ps : IsPart vs (some (-1)))
    (h : Q ((n : Int) - 1, -1, n) s) : wpAny (model prog w) A (Builtin.Slice.sliceApplied (.ref sl) (pure (n : Int))) Q E s := by
  obtain ⟨os, hos, hcs, hds⟩ := id hs
  unfold Builtin.Slice.sliceApplied Builtin.Slice.sliceFields
  refine wpAny_bind (wpAny_bind (wpAny_field hos hds (x := vl) rfl (wpAny_bind (wpAny_field hos hds (x := vu) rfl (wpAny_bind (wpAny_field hos hds (x := vs) rfl (wpAny_pure ?_)))))))
  refine wpAny_bind (slicePart_ ps ?_)
  show wpAny _ _ (if ((-1 : Int) == 0) = true then _ else _) _ _ s
  rw [if_neg (by decide)]
  refine wpAny_bind (slicePart_ pl (wpAny_bind (slicePart_ pu (wpAny_bind (wpAny_pure ?_)))))
  show wpAny _ _ (pure ((n : Int) - 1, (-1 : Int), Builtin.Slice.slicePlaces ((n : Int) - 1) (-1) (-1))) _ _ s
  have e : Builtin.Slice.slicePlaces ((n : Int) - 1) (-1) (-1) = n := by
    unfold Builtin.Slice.slicePlaces
    have h1 : ¬ ((-1 : Int) > 0) := by omega
    simp only [h1, if_false]
    split
    · rw [show (- (-1 : Int)) = 1 from rfl, Int.ediv_one]
      omega
    · omega
  rw [e]
  exact wpAny_pure h
theorem pick_rev (xs : Array Value) : ((List.range xs.size).filterMap fun (m : Nat) => xs[(((xs.size : Int) - 1) + (m : Int) * (-1)).toNat]?).toArray = xs.toList.reverse.toArray := by
  have e : (fun (m : Nat) => xs[(((xs.size : Int) - 1) + (m : Int) * (-1)).toNat]?) = (fun k => xs[k]?) ∘ fun k => xs.size - 1 - k := by
    funext m
    have : (((xs.size : Int) - 1) + (m : Int) * (-1)).toNat = xs.size - 1 - m := by omega
    show xs[(((xs.size : Int) - 1) + (m : Int) * (-1)).toNat]? = xs[xs.size - 1 - m]?
    rw [this]
  rw [e, ← List.filterMap_map, PySem.W.krv_range, List.filterMap_reverse, PySem.W.krv_all]
theorem getItem_tuple_rev {t sl : Addr} {items : Array Value} {vl vu vs : Value} {Q : Value → Shared → Prop} (ht : IsTup s.heap t items) (hs : s.heap.IsSliceOf sl vl vu vs) (pl : IsPart vl none) (pu : IsPart vu none) (ps : IsPart vs (some (-1)))
    (h : Q (.ref s.heap.objs.size) { s with heap := s.heap.push { cls := .type "tuple", data := .seq items.toList.reverse.toArray } })
    (hsz : items.size ≤ sizeLine) : wpAny (model prog w) A (getItem (.ref t) (.ref sl)) Q E s := by
  have htake : sizeOk (.seq items.toList.reverse.toArray) := by
    show items.toList.reverse.toArray.size ≤ sizeLine
    rw [List.size_toArray, List.length_reverse, Array.length_toList]
    exact hsz
  obtain ⟨os, hos, hcs, hds⟩ := id hs
  have hTs : s.TypeIs (.ref sl) "slice" := ⟨os, hos, hcs⟩
  unfold getItem
  try with_reducible refine wpAny_holding ?_
  first | refine wpAny_bind (wpAny_pure ?_) | skip
  refine wpAny_bind (wpAny_sequenceKey ht.typeIs (by decide) ?_)
  refine wpAny_bind (wpAny_callSpecial?_slot (name := Str.ofString "__getitem__") ht.typeIs PyProof.Rows.slot_tuple_getitem
    (wpAny_call_entry PyProof.Rows.slot_tuple_getitem ht.typeIs entry_tuple_getitem ?_ (args_tuple_getitem _ _)))
  show wpAny _ _ (Builtin.Tuple.tupleItemsOf (.ref t) >>= _) _ _ s
  refine wpAny_bind (tupleItemsOf_ ht ?_)
  refine wpAny_bind (wpAny_typeOf hTs ?_)
  rw [if_pos (by decide)]
  refine wpAny_bind (sliceApplied_neg hs pl pu ps ?_)
  have hno : ¬ ((((items.size : Int) - 1) == 0 && (-1 : Int) == 1 && items.size == items.size) = true) := by
    intro q
    rw [Bool.and_eq_true, Bool.and_eq_true] at q
    exact absurd q.1.2 (by decide)
  show wpAny _ _ (if (((items.size : Int) - 1) == 0 && (-1 : Int) == 1 && items.size == items.size) = true then _ else _) _ _ s
  rw [if_neg hno, pick_rev]
  first
    | exact wpAny_bind (m := Builtin.Tuple.tupleExact _) (wpAny_newObj_type (wpAny_pure ⟨_, rfl, wpAny_pure h⟩) htake)
    | exact wpAny_bind (m := Builtin.Tuple.tupleExact _) (wpAny_newObj_type (wpAny_bind (wpAny_pure (wpAny_pure ⟨_, rfl, wpAny_pure h⟩))) htake)
    | exact wpAny_bind (wpAny_bind (m := Builtin.Tuple.tupleExact _) (wpAny_newObj_type (wpAny_pure (wpAny_pure ⟨_, rfl, wpAny_pure h⟩)) htake))
    | exact wpAny_bind (wpAny_bind (m := Builtin.Tuple.tupleExact _) (wpAny_newObj_type (wpAny_pure ⟨_, rfl, wpAny_pure h⟩) htake))
end
end HT
namespace L2
open PySem PySem.Spec PyProof.Rows HT
section
variable {X : Cx}
def tRevT (K : PySem.W.Frag) (te : TE) : TE := fun σ H Q => te σ H fun x H1 => ∃ a xs, x = .ref a ∧ SqT K H1 a xs ∧ ∀ p, H1 p = none → Q (.ref p) (upd H1 p (.tup xs.reverse))
theorem pe_revT {e : Expr} {te : TE} {k : Nat} {p1 p2 p3 pos : Pos} (he : PE X e te) : PE X (.Subscript e (.Slice none none (some (.UnaryOp .USub (.Constant (.int 1) k p1) p2)) p3) pos) (tRevT X.K te) := by
  refine ⟨fun pins s σ H Q I h => ?_⟩
  refine Subscript_ (thn (he.run pins s σ H _ I h) fun v s1 ⟨x, H1, I1, r1, q1⟩ => ?_)
  obtain ⟨a, xs, ex, hx, q⟩ := q1
  subst ex
  cases r1
  have hst : PO X (some (.UnaryOp .USub (.Constant (.int 1) k p1) p2)) (tPart (tUn (rU fun i => .int (-i)) (tC (.int 1)))) := po_some (pe_un un_neg pe_int)
  refine wpAny_Slice (thn (po_none.run pins s1 σ H1 (fun o H2 => o = none ∧ H2 = H1) I1 ⟨rfl, rfl⟩) fun vl s2 ⟨l, H2, I2, pl, el, e2⟩ => ?_)
  subst el e2
  refine thn (po_none.run pins s2 σ H2 (fun o H3 => o = none ∧ H3 = H2) I2 ⟨rfl, rfl⟩) fun vu s3 ⟨u, H3, I3, pu, eu, e3⟩ => ?_
  subst eu e3
  refine thn (hst.run pins s3 σ H3 (fun o H4 => o = some (-1) ∧ H4 = H3) I3 ⟨1, rfl, -1, rfl, rfl, rfl⟩) fun vs s4 ⟨o, H4, I4, ps, eo, e4⟩ => ?_
  subst eo e4
  have I5 : Inv X pins σ H4 { s4 with heap := s4.heap.push { cls := .type "slice", data := .fields #[vl, vu, vs] } } := I4.kept (t' := s4.toks) fun b ob q => Heap.get?_push_of_some _ q
  obtain ⟨its, r, ht, hz⟩ := I5.tuple hx
  have hlen := r.length
  show wpAny (model X.prog X.w) X.A (subscriptTail e (.Slice none none (some (.UnaryOp .USub (.Constant (.int 1) k p1) p2)) p3) (.ref a) (.ref s4.heap.objs.size)) (EP X pins σ Q) X.xe { s4 with heap := s4.heap.push { cls := .type "slice", data := .fields #[vl, vu, vs] } }
  refine tail_any (ops := [.ref a, .ref s4.heap.objs.size]) ht.typeIs (PyProof.Rows.slot_tuple_getitem.lookup) ?_ (by with_unfolding_all rfl)
  refine getItem_tuple_rev ht (Heap.IsSliceOf.new _ vl vu vs) pl pu ps ?_ (by rw [List.size_toArray]; omega)
  refine ⟨.ref _, _, I5.laid (t' := s4.toks) (o := .tup xs.reverse) (fun b ob q => Heap.get?_push_of_some _ q) (Nat.le_refl _) ?_, rfl, q _ (I5.hok.fresh (Nat.le_refl _))⟩
  exact ⟨by rw [List.length_reverse]; exact hz, _, r.reverse, IsTup.new _ _⟩
end
end L2

set_option Elab.async false
set_option linter.all false
set_option maxRecDepth 100000
set_option maxHeartbeats 4000000
namespace Fp
open PySem PySem.Spec PyProof.Rows L2
/-- the greatest length, -1 for nothing -/
structure LongOf (l : Tb) (m : Int) : Prop where
  lo : -1 ≤ m
  le : ∀ p ∈ l, (p.1.length : Int) ≤ m
  at_ : m = -1 ∨ ∃ p ∈ l, (p.1.length : Int) = m
theorem unlockT {H H' : Hp} {d : Addr} {o : HO} (hd : H d = some o) (k : But d H H') : Same H (upd H' d o) := fun b x e => by
  by_cases n : b = d
  · rw [n, upd_same, ← hd, ← n, e]
  · rw [upd_ne n]
    exact k b x e n
section
variable {P : Program} {w : World} {K : PySem.W.Frag} {mg : Str → Option Value} {base : Heap}
def spPow (K : PySem.W.Frag) : Sp := fun vs H Q _ => ∃ (a : Addr) (c : Int) (n m k : Nat) (l : Tb), vs = [.ref a, .int n] ∧ Bg K H a c m k l ∧ isCk c ∧ n ≤ 12 ∧ m ≤ 50 ∧ 1 ≤ k ∧ k ^ n ≤ 900000 ∧
  ∀ H' r t, Same H H' → H r = none → Bg K H' r c (m * n) (k ^ n) t → Lk c t (pw l n) → Q (.ref r) H'
abbrev nPow : List Str := ["bag", "number", "table", "_"]
theorem sc_power : FnScope nPow ["bag", "number"] (defScope s_power) := ⟨rfl, rfl, rfl, by decide +kernel, rfl, by decide +kernel, by decide +kernel⟩
theorem ok_power (T : Top K mg) : Ok P w K mg base 8 "power" ["bag", "number"] (spPow K) := by
  obtain ⟨fd, F⟩ := fn_power T
  obtain ⟨tk, hL⟩ := i_MOST_POWER T
  refine ⟨⟨fd, ?_, F.bindsN fun _ _ _ _ _ _ us hl => match us, hl with | [_, _], _ => rfl⟩, g_power T, F.kp⟩
  refine F.ok sc_power (fun vs H Q E h => ?_) (fun cdv A outer s H vs Q E hr h => ?_)
  · obtain ⟨a, c, n, m, k, l, rfl, _⟩ := h
    rfl
  · obtain ⟨a, c, n, m, k, l, rfl, h1, hck, hn, hm, hk1, hk, q⟩ := h
    have nd := sc_power.nd
    have hr1 : Room 1 _ := hr.mono (by decide)
    have hr2 : Room 2 _ := hr.mono (by decide)
    obtain ⟨hc2, hc7⟩ := ck_range hck
    have hc0 : 0 < c := by omega
    obtain ⟨dx, t, ea, wa⟩ := id h1.1
    have v1 := vt_canon h1.2
    refine ⟨_, PSs.nox (pss_cons (ps_if (pt_not (pt_val (pc (ok_is_from_to T) hr2 (pa_cons (pv 1) (pa_cons pe_int (pa_cons (pe_glob (v := .int 12) rfl hL ⟨_, rfl⟩) pa_nil)))))) (pss_one ps_never) pss_nil)
      (pss_cons (ps_set (i := 2) nd rfl (Or.inl rfl) (pe_disp (pps_cons pe_str pe_int pps_nil) (by rfl) (by rfl) (fun z => by cases z) (by decide)))
      (pss_cons (ps_for PassesOwn.never rfl (pi_range1 (by rfl) (f_range T) (pa_cons (pv 1) pa_nil)) (pg_name (i := 3) nd rfl (Or.inl rfl))
        (pss_one (ps_set (i := 2) nd rfl (Or.inl rfl) (pc (ok_multiplied T) hr2 (pa_cons (pv 2) (pa_cons (pc (ok_table_of T) hr1 (pa_cons (pv 0) pa_nil)) (pa_cons (pe_fld (pv 0) rfl) pa_nil)))))))
      (pss_one (ps_ret (pc (ok_bag_of T) hr (pa_cons (pe_fld (pv 0) rfl) (pa_cons (pv 2) pa_nil)))))))), ?_⟩
    refine ⟨_, rfl, (n : Int), 0, 12, rfl, ?_⟩
    rw [decide_eq_true (show (0 : Int) ≤ n by omega), decide_eq_true (show (n : Int) ≤ 12 by omega)]
    refine ⟨true, rfl, iteF ?_⟩
    refine fun D hD => ⟨upd_same, kv [("", 1)], rfl, Nat.le_of_ble_eq_true rfl, ?_⟩
    rw [upd_upd, merge_kv (vt_unit hc2 0).nd]
    have s1 := same_upd (o := .dK (kv [("", 1)])) hD
    refine ⟨_, rfl, (n : Int), rfl, by omega, by omega, ?_⟩
    refine for_it walk_range (fun i σ H' => ∃ (d : Addr) (v : Option V) (t : Tb), σ = [some (.ref a), some (.int n), some (.ref d), v] ∧ H' d = some (.dK (kv t)) ∧ VT c (m * i) (k ^ i) t ∧ Lk c t (pw l i) ∧ H d = none ∧ Same H H')
      ⟨D, none, [("", 1)], rfl, upd_same, (vt_unit hc2 _), Lk.refl _ _, hD, s1⟩ (fun _ _ _ _ _ => trivial) ?_ ?_
    · rintro i x σ H1 H2 hi ⟨d, v, t, rfl, p1, p2, p3, p4, p5⟩ ⟨rfl, rfl⟩
      have hi' : i + 1 ≤ n := by omega
      have kp : k ^ (i + 1) ≤ k ^ n := Nat.pow_le_pow_right hk1 hi'
      rw [Nat.pow_succ] at kp
      have hmi : m * i ≤ 50 * 12 := Nat.mul_le_mul hm (by omega)
      refine ⟨_, rfl, _, rfl, a, c, canon l, rfl, h1.1.same p5, v1.nd, fun D1 hD1 => ?_⟩
      have s1 := same_upd (o := .dK (kv (canon l))) hD1
      have ndD : d ≠ D1 := ne_of_none p1 hD1
      refine ⟨_, rfl, a, _, dx, _, _, rfl, s1 _ _ (p5 _ _ ea), cls_Bag T, na_Bag_clock T, flds_clock _ _, ?_⟩
      refine ⟨d, D1, c, m * i, k ^ i, m, k, t, canon l, rfl, hc0, hc7, ndD, s1 _ _ p1, upd_same, p2, v1, by omega, by omega, by omega, fun H3 D3 s3 n3 e3 => ?_⟩
      obtain ⟨w1, w2⟩ := vt_mul hc0 p2 v1
      refine ⟨D3, _, _, rfl, e3, ?_, w2.trans (Lk.prs p3 (lk_canon h1.2.nd)), (p5.trans s1).free n3, (p5.trans s1).trans s3⟩
      rw [Nat.mul_succ, Nat.pow_succ]
      exact w1
    · rintro σ H1 ⟨d, v, t, rfl, p1, p2, p3, p4, p5⟩
      have e0 : ((n : Int)).toNat = n := rfl
      have hmi : m * n ≤ 50 * 12 := Nat.mul_le_mul hm (by omega)
      obtain ⟨w3, w4⟩ := vt_again hc0 p2
      refine ⟨_, rfl, a, _, dx, _, _, rfl, p5 _ _ ea, cls_Bag T, na_Bag_clock T, flds_clock _ _, ?_⟩
      refine ⟨_, rfl, c, d, t, rfl, hck, p1, p2.nd, fun p hp => Nat.le_trans (p2.wd p hp).2 ?_, Nat.le_trans p2.ln ?_, fun H4 r s4 n4 hb4 => ?_⟩
      · show m * _ ≤ _
        simp only [e0] at *
        omega
      · show k ^ _ ≤ _
        simp only [e0] at *
        omega
      · exact q H4 r _ (p5.trans s4) (p5.free n4) ⟨hb4, w3⟩ (w4.trans p3)
def spCP (K : PySem.W.Frag) : Sp := fun vs H Q _ => ∃ (a b : Addr) (c : Int) (m k mg kg : Nat) (l g : Tb), vs = [.ref a, .ref b] ∧ Bg K H a c m k l ∧ Bg K H b c mg kg g ∧ isCk c ∧ m ≤ 1000 ∧ mg ≤ 1000 ∧ k * kg ≤ 900000 ∧ Lk c (prs l g) (prs g l) ∧ ∀ H', Same H H' → Q (.bl true) H'
theorem sc_cp : FnScope nTog nTog (defScope s_change_places) := ⟨rfl, rfl, rfl, by decide +kernel, rfl, by decide +kernel, by decide +kernel⟩
theorem ok_cp (T : Top K mg) : Ok P w K mg base 9 "change_places" nTog (spCP K) := by
  obtain ⟨fd, F⟩ := fn_change_places T
  refine ⟨⟨fd, ?_, F.bindsN fun _ _ _ _ _ _ us hl => match us, hl with | [_, _], _ => rfl⟩, g_change_places T, F.kp⟩
  refine F.ok sc_cp (fun vs H Q E h => ?_) (fun cdv A outer s H vs Q E hr h => ?_)
  · obtain ⟨a, b, c, m, k, mg, kg, l, g, rfl, _⟩ := h
    rfl
  · obtain ⟨a, b, c, m, k, mg, kg, l, g, rfl, h1, h2, hck, hm, hmg, hk, hlk, q⟩ := h
    have hr1 : Room 1 _ := hr.mono (by decide)
    have hc0 : 0 < c := by have := ck_range hck; omega
    refine ⟨_, PSs.nox (pss_one (ps_ret (pe_cmpR (opEq T hr1) (pcL (ok_behind T) hr (pa_cons (pv 0) (pa_cons (pv 1) pa_nil))) (pcL (ok_behind T) hr (pa_cons (pv 1) (pa_cons (pv 0) pa_nil))) (nomark _)))), ?_⟩
    refine ⟨_, rfl, _, rfl, a, b, c, c, m, k, mg, kg, l, g, rfl, h1, h2, hck, hm, hmg, hk, fun _ H1 r t s1 n1 g1 k1 => ?_, fun z => absurd rfl z⟩
    refine ⟨_, rfl, _, rfl, b, a, c, c, mg, kg, m, k, g, l, rfl, h2.same s1, h1.same s1, hck, hmg, hm, by rw [Nat.mul_comm]; exact hk, fun _ H2 r2 t2 s2 n2 g2 k2 => ?_, fun z => absurd rfl z⟩
    refine rd_eq T (g1.1.same s2) g2.1 ?_
    rw [decide_eq_true (show c = c ∧ canon t = canon t2 from ⟨rfl, lk_same hc0 g1.2 g2.2 (k1.trans (hlk.trans k2.symm))⟩)]
    exact q H2 (s1.trans s2)
def spSize : Sp := fun vs H Q _ => ∃ (d : Addr) (l : Tb), vs = [.ref d] ∧ H d = some (.dK (kv l)) ∧ (∀ p ∈ l, p.1.length ≤ 1000) ∧ l.length ≤ 1000000 ∧ ∀ H' m, Same H H' → LongOf l m → Q (.int m) H'
abbrev nSize : List Str := ["_law_bag", "_law_word_here"]
theorem sc_lsize : FnScope nSize ["_law_bag"] (defScope s__law_size) := ⟨rfl, rfl, rfl, by decide +kernel, rfl, by decide +kernel, by decide +kernel⟩
theorem ok_lsize (T : Top K mg) : Ok P w K mg base 1 "_law_size" ["_law_bag"] spSize := by
  obtain ⟨fd, F⟩ := fn__law_size T
  refine ⟨⟨fd, ?_, F.bindsN fun _ _ _ _ _ _ us hl => match us, hl with | [_], _ => rfl⟩, g__law_size T, F.kp⟩
  refine F.ok sc_lsize (fun vs H Q E h => ?_) (fun cdv A outer s H vs Q E hr h => ?_)
  · obtain ⟨d, l, rfl, _⟩ := h
    rfl
  · obtain ⟨d, l, rfl, ed, hw, hl, q⟩ := h
    have nd := sc_lsize.nd
    have hs : sizeLine = 16777216 := sizeLine_eq
    refine ⟨_, PSs.nox (pss_one (ps_ret (pe_callB (cr_max rfl) (by rfl) (f_max T) (by decide +kernel) (pa_cons (pe_op op_cat (pe_lst (pa_cons (pe_un un_neg pe_int) pa_nil)) (pe_lock (pe_lc (own := [("_law_word_here", 1)]) (g := gName 1) (tt := tYes) rfl nd (pi_keys (pv 0)) (blkOk_by (N := nSize) (sc := defScope s__law_size) (by decide +kernel))
      (fun _ _ _ _ _ => pg_name (i := 1) nd rfl (Or.inl rfl)) (fun _ _ _ _ _ => pts_nil) (fun _ _ _ _ _ => pe_callB call_len_str (by rfl) (f_len T) PySem.boot_len (pa_cons (pv 1) pa_nil))))) pa_nil)))), ?_⟩
    refine ⟨_, rfl, by show 1 ≤ sizeLine; omega, fun L0 nL => ?_⟩
    have s0 := same_upd (o := .lst [.int (-1)]) nL
    have eL0 : (upd H L0 (.lst [.int (-1)])) L0 = some (.lst [.int (-1)]) := upd_same
    have ed1 := s0 _ _ ed
    generalize upd H L0 (.lst [.int (-1)]) = H1 at s0 eL0 ed1 ⊢
    refine ⟨d, _, ed1, trivial, fun od => ?_⟩
    refine ⟨_, rfl, d, od, rfl, .inl ⟨_, upd_same, fun D hD => ?_⟩⟩
    have nD : D ≠ d := fun z => by
      rw [z, upd_same] at hD
      cases hD
    have hD0 : H1 D = none := by
      rw [upd_ne nD] at hD
      exact hD
    refine lc_it walk_keys (fun i H' => H' D = some (.lst (((l.take i).map fun p => (p.1.length : Int)).map V.int)) ∧ But d H1 H' ∧ H' d = some (.frz od (.dK (kv l)))) ⟨upd_same, ?_, ?_⟩ (fun i H' _ hP => hP.2.2) ?_ ?_
    · intro b o z n
      rw [upd_ne (ne_of_none z hD0), upd_ne n]
      exact z
    · rw [upd_ne nD.symm]
      exact upd_same
    · rintro j x Ha Hb hj ⟨r1, r2, r3⟩ ⟨rfl, kk, vv, ee, rfl⟩
      obtain ⟨p, ep, rfl, rfl⟩ := kv_at ee
      have hpl := hw p (List.mem_of_getElem? ep)
      rw [kv_len] at hj
      refine ⟨rfl, ?_⟩
      refine ⟨_, rfl, p.1, rfl, by omega, ?_⟩
      refine ⟨_, r1, ?_, ?_, ?_, ?_⟩
      · rw [List.length_map, List.length_map, List.length_take]
        omega
      · rw [upd_same, List.take_add_one, ep, List.map_append, List.map_append]
        rfl
      · intro b o z n
        rw [upd_ne (ne_of_none z hD0)]
        exact r2 b o z n
      · rw [upd_ne nD.symm]
        exact r3
    rintro H2 ⟨r1, r2, r3⟩
    rw [kv_len, List.take_length] at r1
    have sb := unlockT ed1 r2
    have eD2 : (upd H2 d (.dK (kv l))) D = some (.lst ((l.map fun p => (p.1.length : Int)).map V.int)) := by rw [upd_ne nD]; exact r1
    have eL2 := sb _ _ eL0
    refine ⟨r3, L0, D, _, _, rfl, rfl, eL2, eD2, by show 1 + _ ≤ sizeLine; rw [List.length_map, List.length_map]; omega, fun L2 nL2 => ?_⟩
    refine ⟨L2, -1 :: l.map (fun p => (p.1.length : Int)), rfl, SqL.of upd_same, by simp, fun m hm hle => ?_⟩
    refine q _ m ((s0.trans sb).trans (same_upd nL2)) ⟨hle _ List.mem_cons_self, fun p hp => hle _ (List.mem_cons_of_mem _ (List.mem_map.mpr ⟨p, hp, rfl⟩)), ?_⟩
    rcases List.mem_cons.mp hm with rfl | hm
    · exact .inl rfl
    · obtain ⟨p, hp, e⟩ := List.mem_map.mp hm
      exact .inr ⟨p, hp, e⟩
end
end Fp

set_option Elab.async false
set_option linter.all false
set_option maxRecDepth 100000
set_option maxHeartbeats 4000000
namespace Fp
open PySem PySem.Spec PyProof.Rows L2
/-! ### trailing zeros -/
def strip : List Int → List Int
  | [] => []
  | n :: ns => match strip ns with
    | [] => if n = 0 then [] else [n]
    | r => n :: r
theorem strip_snoc0 : ∀ ns : List Int, strip (ns ++ [0]) = strip ns
  | [] => rfl
  | n :: ns => by
    show (match strip (ns ++ [0]) with | [] => if n = 0 then [] else [n] | r => n :: r) = _
    rw [strip_snoc0 ns]
    rfl
theorem strip_snoc {k : Int} (hk : k ≠ 0) : ∀ ns : List Int, strip (ns ++ [k]) = ns ++ [k]
  | [] => by
    show (if k = 0 then [] else [k]) = [k]
    rw [if_neg hk]
  | n :: ns => by
    show (match strip (ns ++ [k]) with | [] => if n = 0 then [] else [n] | r => n :: r) = _
    rw [strip_snoc hk ns]
    cases ns <;> rfl
section
variable {P : Program} {w : World} {K : PySem.W.Frag} {mg : Str → Option Value} {base : Heap}
def spShrt (K : PySem.W.Frag) : Sp := fun vs H Q _ => ∃ (a : Addr) (ns : List Int), vs = [.ref a] ∧ H a = some (.lst (ns.map V.int)) ∧ ns.length ≤ 1000 ∧ ∀ H' t, Same H H' → H t = none → SqT K H' t ((strip ns).map V.int) → Q (.ref t) H'
abbrev nShrt : List Str := ["_law_numbers", "_law_found", "_law_number"]
theorem sc_shrt : FnScope nShrt ["_law_numbers"] (defScope s__law_short) := ⟨rfl, rfl, rfl, by decide +kernel, rfl, by decide +kernel, by decide +kernel⟩
theorem ok_short (T : Top K mg) : Ok P w K mg base 1 "_law_short" ["_law_numbers"] (spShrt K) := by
  obtain ⟨fd, F⟩ := fn__law_short T
  refine ⟨⟨fd, ?_, F.bindsN fun _ _ _ _ _ _ us hl => match us, hl with | [_], _ => rfl⟩, g__law_short T, F.kp⟩
  refine F.ok sc_shrt (fun vs H Q E h => ?_) (fun cdv A outer s H vs Q E hr h => ?_)
  · obtain ⟨a, ns, rfl, _⟩ := h
    rfl
  · obtain ⟨a, ns, rfl, hS, hl, q⟩ := h
    have nd := sc_shrt.nd
    have hs : sizeLine = 16777216 := sizeLine_eq
    refine ⟨_, PSs.nox (pss_cons (ps_set (i := 1) nd rfl (Or.inl rfl) (pe_callTy call_list_of (by rfl) (f_list T) (by decide +kernel) (pa_cons (pv 0) pa_nil)))
      (pss_cons (ps_for PassesOwn.never rfl (pi_list (pe_revL (pe_callTy call_list_of (by rfl) (f_list T) (by decide +kernel) (pa_cons (pv 0) pa_nil)))) (pg_name (i := 2) nd rfl (Or.inl rfl))
        (pss_cons (ps_if (PW.pt (pw_or (pt_cmpR op_ne (pv 2) pe_int (nomark _)) (pw_or1 (pt_cmpR op_ne (pe_ix ix_list (pv 1) (pe_un un_neg pe_int) (fun _ _ => rfl)) pe_int (nomark _))))) (pss_one (ps_ret (pe_callTy call_tupleF (by rfl) (f_tuple T) (by decide +kernel) (pa_cons (pv 1) pa_nil)))) pss_nil)
        (pss_one (ps_expr (pe_bm0 PySem.F.plainAttrs_list PySem.F.slot_list_pop PySem.F.type_list_pop mt_pop (pv 1))))))
      (pss_one (ps_ret (pe_tup pa_nil))))), ?_⟩
    refine ⟨_, rfl, a, _, rfl, .inl (SqL.of hS), fun F nF => ?_⟩
    have s1 := same_upd (o := .lst (ns.map V.int)) nF
    have e1 : (upd H F (.lst (ns.map V.int))) F = some (.lst (ns.map V.int)) := upd_same
    generalize upd H F (.lst (ns.map V.int)) = H1 at s1 e1 ⊢
    refine ⟨_, rfl, a, _, rfl, .inl (SqL.of (s1 _ _ hS)), fun L nL => ?_⟩
    have s2 := same_upd (o := .lst (ns.map V.int)) nL
    have e2 : (upd H1 L (.lst (ns.map V.int))) L = some (.lst (ns.map V.int)) := upd_same
    replace e1 := s2 _ _ e1
    replace s1 := s1.trans s2
    generalize upd H1 L (.lst (ns.map V.int)) = H2 at s1 e1 e2 ⊢
    refine ⟨L, _, rfl, SqL.of e2, fun R nR => ?_⟩
    have s3 := same_upd (o := .lst (ns.map V.int).reverse) nR
    have e3 : (upd H2 R (.lst (ns.map V.int).reverse)) R = some (.lst (ns.reverse.map V.int)) := by rw [upd_same, List.map_reverse]
    have nFR : F ≠ R := ne_of_none e1 nR
    replace e1 := s3 _ _ e1
    replace s1 := s1.trans s3
    generalize upd H2 R (.lst (ns.map V.int).reverse) = H3 at s1 e1 e3 ⊢
    refine ⟨R, rfl, ⟨_, SqL.of e3⟩, ?_⟩
    refine for_it (walk_list (xs := ns.reverse.map V.int)) (fun i σ H' => ∃ v, σ = [some (.ref a), some (.ref F), v] ∧ H' F = some (.lst ((ns.take (ns.length - i)).map V.int)) ∧ H' R = some (.lst (ns.reverse.map V.int)) ∧ But F H3 H' ∧ strip ns = strip (ns.take (ns.length - i)))
      ⟨none, rfl, by rw [Nat.sub_zero, List.take_length]; exact e1, e3, But.refl _ _, by rw [Nat.sub_zero, List.take_length]⟩ (fun i σ H' _ hP => by obtain ⟨v, _, _, z, _⟩ := hP; exact SqL.of z) ?_ ?_
    · rintro i x σ Ha Hb hi ⟨v, rfl, p1, p2, p3, p4⟩ ⟨rfl, hx⟩
      rw [List.length_map, List.length_reverse] at hi
      have hj : ns.length - 1 - i < ns.length := by omega
      have hx' : x = .int (ns[ns.length - 1 - i]) := by
        rw [List.getElem?_map, List.getElem?_reverse hi, List.getElem?_eq_getElem hj] at hx
        exact (Option.some.inj hx).symm
      subst hx'
      have et : ns.take (ns.length - i) = ns.take (ns.length - (i + 1)) ++ [ns[ns.length - 1 - i]] := by
        have h1 : ns.length - i = (ns.length - 1 - i) + 1 := by omega
        rw [h1, List.take_add_one, List.getElem?_eq_getElem hj, show ns.length - (i + 1) = ns.length - 1 - i by omega]
        rfl
      generalize ns[ns.length - 1 - i] = k at et
      rw [et] at p1 p4
      rw [List.map_append] at p1
      refine ⟨_, rfl, rfl, _, rfl, ?_⟩
      by_cases hk : k = 0
      · subst hk
        rw [strip_snoc0] at p4
        refine iteF ?_
        refine ⟨_, rfl, 1, rfl, ?_⟩
        refine ⟨F, _, _, _, rfl, rfl, SqL.of p1, atI_last _ _, rfl, _, rfl, ?_⟩
        refine iteF ?_
        refine ⟨_, rfl, .inl ⟨rfl, _, SqL.of p1⟩, F, _, .int 0, rfl, rfl, p1, ?_, ?_⟩
        · rw [List.length_append, show (List.map V.int [0]).length = 1 from rfl, Nat.add_sub_cancel, List.getElem?_append_right (Nat.le_refl _), Nat.sub_self]
          rfl
        · refine ⟨_, rfl, ?_, ?_, ?_, p4⟩
          · rw [upd_same]
            exact congrArg some (congrArg HO.lst (List.dropLast_concat))
          · rw [upd_ne nFR.symm]
            exact p2
          · exact p3.trans but_upd
      · rw [strip_snoc hk] at p4
        rw [decide_eq_false (show ¬ V.int k = V.int 0 from fun z => hk (by injection z))]
        refine ite2 (fun _ => ?_) (fun z => absurd rfl z)
        refine iteT ?_
        refine ⟨_, rfl, F, _, rfl, SqL.of p1, fun t o nt _ => ?_⟩
        have sF : Same H Hb := fun y z e => p3 _ _ (s1 _ _ e) (ne_of_none e nF)
        refine q _ t (sF.trans (same_upd nt)) (sF.free nt) (.inl (.inr ⟨o, ?_⟩))
        rw [upd_same, p4, List.map_append]
    · rintro σ Ha ⟨v, rfl, p1, p2, p3, p4⟩
      rw [List.length_map, List.length_reverse, Nat.sub_self, List.take_zero] at p4
      refine ⟨by show 0 ≤ sizeLine; omega, fun t nt => ?_⟩
      have sF : Same H Ha := fun y z e => p3 _ _ (s1 _ _ e) (ne_of_none e nF)
      refine q _ t (sF.trans (same_upd nt)) (sF.free nt) (SqT.of ?_)
      rw [p4]
      exact upd_same
end
end Fp

set_option Elab.async false
set_option linter.all false
set_option maxRecDepth 100000
set_option maxHeartbeats 4000000
namespace Fp
open PySem PySem.Spec PyProof.Rows L2
/-- the powers as they stand -/
def PwAt (H : Hp) (c : Int) (g : Tb) (ds : List Addr) : Prop := ∀ i d, ds[i]? = some d → ∃ t, H d = some (.dK (kv t)) ∧ VT c (2 * i) (3 ^ i) t ∧ Lk c t (pw g i)
theorem PwAt.same {H H' : Hp} {c : Int} {g : Tb} {ds : List Addr} (h : PwAt H c g ds) (e : Same H H') : PwAt H' c g ds := fun i d z => by
  obtain ⟨t, h1, h2⟩ := h i d z
  exact ⟨t, e _ _ h1, h2⟩
theorem smP_take {c : Int} (g : Tb) (ns : List Int) {i : Nat} (hi : i < ns.length) (x : Str) : tot (smP g 0 (ns.take (i + 1))) x = tot (smP g 0 (ns.take i) ++ scl ns[i] (pw g i)) x := by
  rw [List.take_add_one, List.getElem?_eq_getElem hi]
  have := smP_snoc g ns[i] (ns.take i) 0 x
  rw [List.length_take, Nat.min_eq_left (by omega), Nat.zero_add] at this
  exact this
theorem ld_of_long {c : Int} {m k : Nat} {g : Tb} (hc0 : 0 < c) (v : VT c m k g) {p : Str × Int} (hp : p ∈ g) (hl : 0 < p.1.length) : ∃ h, Ld c g h ∧ 0 < h.length := by
  have tg : Tt c g := ⟨v.nd, v.nu⟩
  rcases ld_ex hc0 g with z | ⟨u, z⟩
  · have := tt_at tg hp
    rw [z p.1, tot_nil, Int.zero_emod] at this
    exact absurd rfl this
  · exact ⟨u, z, Nat.lt_of_lt_of_le hl (leR_len' (z.le _ (tt_at tg hp)))⟩
section
variable {P : Program} {w : World} {K : PySem.W.Frag} {mg : Str → Option Value} {base : Heap}
def spPws : Sp := fun vs H Q _ => ∃ (c : Int) (b : Addr) (n : Nat) (g : Tb), vs = [.int c, .ref b, .int n] ∧ 2 ≤ c ∧ c ≤ 7 ∧ n ≤ 4 ∧ H b = some (.dK (kv g)) ∧ VT c 2 3 g ∧
  ∀ H' L ds, Same H H' → H L = none → H' L = some (.lst (ds.map V.ref)) → ds.length = n + 1 → PwAt H' c g ds → (∀ d ∈ ds, H d = none) → Q (.ref L) H'
abbrev nPws : List Str := ["_law_clock_here", "_law_bag", "_law_many", "_law_found", "_law_turn"]
theorem sc_pws : FnScope nPws ["_law_clock_here", "_law_bag", "_law_many"] (defScope s__law_powers) := ⟨rfl, rfl, rfl, by decide +kernel, rfl, by decide +kernel, by decide +kernel⟩
theorem ok_pws (T : Top K mg) : Ok P w K mg base 3 "_law_powers" ["_law_clock_here", "_law_bag", "_law_many"] spPws := by
  obtain ⟨fd, F⟩ := fn__law_powers T
  refine ⟨⟨fd, ?_, F.bindsN fun _ _ _ _ _ _ us hl => match us, hl with | [_, _, _], _ => rfl⟩, g__law_powers T, F.kp⟩
  refine F.ok sc_pws (fun vs H Q E h => ?_) (fun cdv A outer s H vs Q E hr h => ?_)
  · obtain ⟨c, b, n, g, rfl, _⟩ := h
    rfl
  · obtain ⟨c, b, n, g, rfl, hc2, hc7, hn, hb, vg, q⟩ := h
    have nd := sc_pws.nd
    have hs : sizeLine = 16777216 := sizeLine_eq
    have hc0 : 0 < c := by omega
    refine ⟨_, PSs.nox (pss_cons (ps_set (i := 3) nd rfl (Or.inl rfl) (pe_lst (pa_cons (pe_disp (pps_cons pe_str pe_int pps_nil) (by rfl) (by rfl) (fun z => by cases z) (by decide)) pa_nil)))
      (pss_cons (ps_for PassesOwn.never rfl (pi_range1 (by rfl) (f_range T) (pa_cons (pv 2) pa_nil)) (pg_name (i := 4) nd rfl (Or.inl rfl))
        (pss_one (ps_expr (pe_bm PySem.F.plainAttrs_list PySem.F.slot_list_append PySem.F.type_list_append mt_append (pv 3) (pa_cons (pc (ok_prod T) hr (pa_cons (pv 0) (pa_cons (pe_ix ix_list (pv 3) (pe_un un_neg pe_int) (fun _ _ => rfl)) (pa_cons (pv 1) pa_nil)))) pa_nil)))))
      (pss_one (ps_ret (pv 3))))), ?_⟩
    refine fun D hD => ⟨upd_same, kv [("", 1)], rfl, Nat.le_of_ble_eq_true rfl, ?_⟩
    rw [upd_upd, merge_kv (vt_unit hc2 0).nd]
    have s1 := same_upd (o := .dK (kv [("", 1)])) hD
    have e1 : (upd H D (.dK (kv [("", 1)]))) D = some (.dK (kv [("", 1)])) := upd_same
    generalize upd H D (.dK (kv [("", 1)])) = H1 at s1 e1 ⊢
    refine ⟨by show 1 ≤ sizeLine; omega, fun L hL => ?_⟩
    have s2 := same_upd (o := .lst [.ref D]) hL
    have e2 : (upd H1 L (.lst [.ref D])) L = some (.lst [.ref D]) := upd_same
    replace e1 := s2 _ _ e1
    have hL0 : H L = none := s1.free hL
    replace s1 := s1.trans s2
    generalize upd H1 L (.lst [.ref D]) = H2 at s1 e1 e2 ⊢
    refine ⟨_, rfl, (n : Int), rfl, by omega, by omega, ?_⟩
    refine for_it walk_range (fun i σ H' => ∃ (v : Option V) (ds : List Addr), σ = [some (.int c), some (.ref b), some (.int n), some (.ref L), v] ∧ H' L = some (.lst (ds.map V.ref)) ∧ ds.length = i + 1 ∧ PwAt H' c g ds ∧ (∀ d ∈ ds, H d = none) ∧ Same H H')
      ⟨none, [D], rfl, e2, rfl, fun i d z => ?_, fun d hd => by rw [List.mem_singleton.mp hd]; exact hD, s1⟩ (fun _ _ _ _ _ => trivial) ?_ ?_
    · cases i with
      | zero =>
        cases Option.some.inj z
        exact ⟨_, e1, vt_unit hc2 _, Lk.refl _ _⟩
      | succ i => cases z
    · rintro i x σ Ha Hb hi ⟨v, ds, rfl, p1, p2, p3, p4, p5⟩ ⟨rfl, rfl⟩
      have hi' : i < 4 := by
        have : ((n : Int)).toNat = n := rfl
        omega
      obtain ⟨d, hd⟩ : ∃ d, ds[i]? = some d := ⟨ds[i]'(by omega), List.getElem?_eq_getElem _⟩
      have hds : ds = ds.take i ++ [d] := by
        have := List.take_append_drop i ds
        rw [show ds.drop i = [d] by
          have h1 := (List.getElem?_eq_some_iff.mp hd)
          obtain ⟨h2, h3⟩ := h1
          rw [List.drop_eq_getElem_cons h2, h3, List.drop_eq_nil_of_le (by omega)]] at this
        exact this.symm
      obtain ⟨t, t1, t2, t3⟩ := p3 i d hd
      have hdb : d ≠ b := fun z => by
        have := p4 d (List.mem_of_getElem? hd)
        rw [z, hb] at this
        cases this
      have hk : (3 : Nat) ^ i ≤ 27 := by
        have : i = 0 ∨ i = 1 ∨ i = 2 ∨ i = 3 := by omega
        rcases this with rfl | rfl | rfl | rfl <;> decide
      have p1' := p1
      rw [hds, List.map_append] at p1'
      refine ⟨_, rfl, .inl ⟨rfl, _, SqL.of p1⟩, ?_⟩
      refine ⟨_, rfl, _, rfl, 1, rfl, ?_⟩
      refine ⟨L, _, _, _, rfl, rfl, SqL.of p1', atI_last _ _, ?_⟩
      refine ⟨_, rfl, c, d, b, 2 * i, 2, t, g, rfl, hc0, hc7, hdb, t1, p5 _ _ hb, t2.mono (Nat.le_refl _) (by omega), vg.mono (Nat.le_refl _) (by decide), by omega, by decide, fun H3 D3 s3 n3 e3 => ?_⟩
      have q1 := s3 _ _ p1
      refine ⟨L, _, _, rfl, rfl, q1, by rw [List.length_map]; omega, ?_⟩
      have nL : L ≠ D3 := ne_of_none p1 n3
      have kk : ∀ a o, Hb a = some o → a ≠ L → (upd H3 L (.lst (ds.map V.ref ++ [.ref D3]))) a = some o := fun a o z y => by
        rw [upd_ne y]
        exact s3 _ _ z
      refine ⟨_, ds ++ [D3], rfl, ?_, by rw [List.length_append, p2]; rfl, fun j d' z => ?_, fun d' hd' => ?_, fun a o z => ?_⟩
      · rw [upd_same, List.map_append]
        rfl
      · by_cases hj : j < ds.length
        · rw [List.getElem?_append_left hj] at z
          obtain ⟨t', y1, y2⟩ := p3 j d' z
          exact ⟨t', kk _ _ y1 (ne_of y1 p1 (by intro z; cases z)), y2⟩
        · rw [List.getElem?_append_right (by omega)] at z
          have hj2 : j - ds.length = 0 := by
            have := (List.getElem?_eq_some_iff.mp z).1
            simp at this
            omega
          rw [hj2] at z
          cases Option.some.inj z
          have hj3 : j = i + 1 := by omega
          subst hj3
          refine ⟨_, by rw [upd_ne nL.symm]; exact e3, ?_, ?_⟩
          · have := vt_prodM hc0 t2 vg
            rw [show 2 * (i + 1) = 2 * i + 2 by omega, Nat.pow_succ]
            exact this
          · exact (lk_prod hc0 t2 vg).trans (Lk.prs t3 (Lk.refl _ _))
      · rcases List.mem_append.mp hd' with y | y
        · exact p4 d' y
        · rw [List.mem_singleton.mp y]
          exact p5.free n3
      · rw [upd_ne (ne_of_none z hL0)]
        exact s3 _ _ (p5 _ _ z)
    · rintro σ Ha ⟨v, ds, rfl, p1, p2, p3, p4, p5⟩
      refine ⟨_, rfl, ?_⟩
      exact q Ha L ds p5 hL0 p1 p2 p3 p4
def spSumOf : Sp := fun vs H Q _ => ∃ (c : Int) (L N : Addr) (g : Tb) (ds : List Addr) (ns : List Int), vs = [.int c, .ref L, .ref N] ∧ 2 ≤ c ∧ c ≤ 7 ∧ H L = some (.lst (ds.map V.ref)) ∧ H N = some (.lst (ns.map V.int)) ∧ ds.length ≤ 5 ∧ ns.length ≤ ds.length ∧ PwAt H c g ds ∧
  ∀ H' d t, Same H H' → H d = none → H' d = some (.dK (kv t)) → VT c 8 405 t → (∀ m, ns.length ≤ m + 1 → ∀ p ∈ t, p.1.length ≤ 2 * m) → Lk c t (smP g 0 ns) → Q (.ref d) H'
abbrev nSumOf : List Str := ["_law_clock_here", "_law_powers_here", "_law_numbers", "_law_found", "_law_bag", "_law_number"]
theorem sc_sumOf : FnScope nSumOf ["_law_clock_here", "_law_powers_here", "_law_numbers"] (defScope s__law_sum_of) := ⟨rfl, rfl, rfl, by decide +kernel, rfl, by decide +kernel, by decide +kernel⟩
theorem ok_sumOf (T : Top K mg) : Ok P w K mg base 3 "_law_sum_of" ["_law_clock_here", "_law_powers_here", "_law_numbers"] spSumOf := by
  obtain ⟨fd, F⟩ := fn__law_sum_of T
  refine ⟨⟨fd, ?_, F.bindsN fun _ _ _ _ _ _ us hl => match us, hl with | [_, _, _], _ => rfl⟩, g__law_sum_of T, F.kp⟩
  refine F.ok sc_sumOf (fun vs H Q E h => ?_) (fun cdv A outer s H vs Q E hr h => ?_)
  · obtain ⟨c, L, N, g, ds, ns, rfl, _⟩ := h
    rfl
  · obtain ⟨c, L, N, g, ds, ns, rfl, hc2, hc7, hL, hN, hds, hns, hP, q⟩ := h
    have nd := sc_sumOf.nd
    have hs : sizeLine = 16777216 := sizeLine_eq
    have hc0 : 0 < c := by omega
    refine ⟨_, PSs.nox (pss_cons (ps_set (i := 3) nd rfl (Or.inl rfl) pe_dnewK)
      (pss_cons (ps_for PassesOwn.never rfl (pi_zip (by rfl) (f_zip T) (pa_cons (pv 1) (pa_cons (pv 2) pa_nil))) (pg_tup rfl (pgs_cons (pg_name (i := 4) nd rfl (Or.inl rfl)) (pgs_cons (pg_name (i := 5) nd rfl (Or.inl rfl)) pgs_nil)))
        (pss_one (ps_set (i := 3) nd rfl (Or.inl rfl) (pc (ok_plus T) hr (pa_cons (pv 0) (pa_cons (pv 3) (pa_cons (pv 4) (pa_cons (pv 5) pa_nil))))))))
      (pss_one (ps_ret (pv 3))))), ?_⟩
    refine fun F0 hF => ?_
    have s0 := same_upd (o := .dK (kv [])) hF
    have e0 : (upd H F0 (.dK [])) F0 = some (.dK (kv [])) := upd_same
    refine ⟨_, rfl, _, rfl, L, N, _, _, rfl, SqL.of (s0 _ _ hL), SqL.of (s0 _ _ hN), ?_⟩
    refine for_it (walk_zip (xs := ds.map V.ref) (ys := ns.map V.int) (n := ns.length) (by rw [List.length_map, List.length_map]; omega))
      (fun i σ H' => ∃ (d : Addr) (t : Tb) (v5 v6 : Option V), σ = [some (.int c), some (.ref L), some (.ref N), some (.ref d), v5, v6] ∧ H' d = some (.dK (kv t)) ∧ VT c (2 * (i - 1)) (81 * i) t ∧ Lk c t (smP g 0 (ns.take i)) ∧ H d = none ∧ Same H H')
      ⟨F0, [], none, none, rfl, e0, vt_nil c _, Lk.refl _ _, hF, s0⟩ (fun i σ H' _ hP => by obtain ⟨d, t, v5, v6, _, _, _, _, _, z⟩ := hP; exact ⟨SqL.of (z _ _ hL), SqL.of (z _ _ hN)⟩) ?_ ?_
    · rintro i x σ H1 H2 hi ⟨d, t, v5, v6, rfl, p1, p2, p3, p4, p5⟩ ⟨t0, k, v', rfl, ht0, rfl, e1, e2⟩
      change (ds.map V.ref)[i]? = some k at e1
      change (ns.map V.int)[i]? = some v' at e2
      rw [List.getElem?_map] at e1 e2
      obtain ⟨b, eb, rfl⟩ := Option.map_eq_some_iff.mp e1
      obtain ⟨n, en, rfl⟩ := Option.map_eq_some_iff.mp e2
      obtain ⟨t', y1, y2, y3⟩ := hP i b eb
      have s1 := same_upd (o := .tup [.ref b, .int n]) ht0
      have hk : (3 : Nat) ^ i ≤ 81 := by
        have : i = 0 ∨ i = 1 ∨ i = 2 ∨ i = 3 ∨ i = 4 := by omega
        rcases this with rfl | rfl | rfl | rfl | rfl <;> decide
      refine ⟨t0, _, rfl, .inl (.inl upd_same), rfl, ?_⟩
      refine ⟨_, _, rfl, _, _, rfl, rfl, ?_⟩
      have hl := p2.ln
      have hl' := y2.ln
      refine ⟨_, rfl, _, rfl, _, rfl, _, rfl, c, d, b, n, t, t', rfl, hc0, hc7, s1 _ _ p1, s1 _ _ (p5 _ _ y1), y2.nd, y2.nu, by omega, by omega, fun H3 D3 s3 n3 e3 => ?_⟩
      have vv := vt_plusM hc0 (p2.mono (m' := 2 * i) (by omega) (Nat.le_refl _)) y2 n
      refine ⟨D3, _, _, _, rfl, e3, vv.mono (by omega) (by omega), ?_, p5.free (s1.free n3), (p5.trans s1).trans s3⟩
      have hi2 : i < ns.length := hi
      have en' : ns[i] = n := (List.getElem?_eq_some_iff.mp en).2
      refine (lk_plus (m' := 0) hc0 (p2.mono (m' := 2 * i) (by omega) (Nat.le_refl _)) y2).trans fun x => ?_
      rw [smP_take (c := c) g ns hi2 x, en']
      exact Lk.app p3 (Lk.scl n y3) x
    · rintro σ H1 ⟨d, t, v5, v6, rfl, p1, p2, p3, p4, p5⟩
      refine ⟨_, rfl, ?_⟩
      rw [List.take_length] at p3
      exact q H1 d t p5 p4 p1 (p2.mono (by omega) (by omega)) (fun m hm p hp => Nat.le_trans (p2.wd p hp).2 (by omega)) p3
def spBase : Sp := fun vs H Q _ => ∃ (h ca : Addr) (c : Int), vs = [.ref h, .int c] ∧ HandAt ca H h ∧ 2 ≤ c ∧ c ≤ 7 ∧
  ∀ H' d g, HandAt ca H' h → But h H H' → H d = none → H' d = some (.dK (kv g)) → VT c 2 3 g → (∃ u, Ld c g u ∧ 0 < u.length) → Q (.ref d) H'
abbrev nBase : List Str := ["_law_hand_here", "_law_clock_here", "_law_found", "_law_word_here"]
theorem sc_base : FnScope nBase ["_law_hand_here", "_law_clock_here"] (defScope s__law_base) := ⟨rfl, rfl, rfl, by decide +kernel, rfl, by decide +kernel, by decide +kernel⟩
theorem ok_base (T : Top K mg) : Ok P w K mg base 5 "_law_base" ["_law_hand_here", "_law_clock_here"] spBase := by
  obtain ⟨fd, F⟩ := fn__law_base T
  refine ⟨⟨fd, ?_, F.bindsN fun _ _ _ _ _ _ us hl => match us, hl with | [_, _], _ => rfl⟩, g__law_base T, F.kp⟩
  refine F.ok sc_base (fun vs H Q E h => ?_) (fun cdv A outer s H vs Q E hr h => ?_)
  · obtain ⟨h, ca, c, rfl, _⟩ := h
    rfl
  · obtain ⟨h, ca, c, rfl, hh, hc2, hc7, q⟩ := h
    have nd := sc_base.nd
    have hu := hu_of hr
    have hs : sizeLine = 16777216 := sizeLine_eq
    have hc0 : 0 < c := by omega
    have hr1 : Room 1 _ := hr.mono (by decide)
    refine ⟨_, PSs.nox (pss_cons (ps_set (i := 2) nd rfl (Or.inl rfl) (pc (ok_lot T) hr (pa_cons (pv 0) (pa_cons (pv 1) (pa_cons pe_str (pa_cons pe_int (pa_cons pe_int pa_nil)))))))
      (pss_cons (ps_set (i := 3) nd rfl (Or.inl rfl) (pe_ix ix_list (pe_lst (pa_cons pe_str (pa_cons pe_str (pa_cons pe_str (pa_cons pe_str (pa_cons pe_str (pa_cons pe_str (pa_cons pe_str (pa_cons pe_str pa_nil))))))))) (pc (ok_draw T) hr1 (pa_cons (pv 0) (pa_cons pe_int pa_nil))) (fun _ _ => rfl)))
      (pss_cons (ps_dput hu (pv 2) (pv 3) (pe_op op_add pe_int (pc (ok_draw T) hr1 (pa_cons (pv 0) (pa_cons (pe_op op_sub (pv 1) pe_int) pa_nil)))) rfl)
      (pss_one (ps_ret (pv 2)))))), ?_⟩
    refine ⟨_, rfl, _, rfl, h, ca, c, "xyz", 2, 2, rfl, hh, hc2, hc7, by decide, by decide, by decide, by decide, by decide, fun H1 D l hh1 k1 nD eD vD => ?_⟩
    refine ⟨by show 8 ≤ sizeLine; omega, fun L hL => ?_⟩
    have hne : h ≠ L := by
      obtain ⟨xs, hx⟩ := hh1.lst
      exact ne_of_none hx hL
    have hDh : D ≠ h := fun z => by
      obtain ⟨xs, hx⟩ := hh.lst
      rw [z, hx] at nD
      cases nD
    have hDc : D ≠ ca := fun z => by
      obtain ⟨xs, hx⟩ := hh.cells
      rw [z, hx] at nD
      cases nD
    have eD1 := same_upd (o := .lst [.str "x", .str "y", .str "xy", .str "yx", .str "xx", .str "zx", .str "x", .str "y"]) hL _ _ eD
    refine ⟨_, rfl, h, ca, 8, rfl, by decide, by decide, hh1.same (same_upd hL), fun r H2 hr0 hr8 hh2 k2 => ?_⟩
    obtain ⟨n, rfl⟩ : ∃ n : Nat, r = n := ⟨r.toNat, (Int.toNat_of_nonneg hr0).symm⟩
    have hn : n < 8 := by omega
    have e : ∃ z : Str, xyz z ∧ z.length ≤ 2 ∧ 0 < z.length ∧ [V.str "x", .str "y", .str "xy", .str "yx", .str "xx", .str "zx", .str "x", .str "y"][n]? = some (V.str z) := by
      have : n = 0 ∨ n = 1 ∨ n = 2 ∨ n = 3 ∨ n = 4 ∨ n = 5 ∨ n = 6 ∨ n = 7 := by omega
      rcases this with rfl | rfl | rfl | rfl | rfl | rfl | rfl | rfl <;> exact ⟨_, by decide, by decide, by decide, rfl⟩
    obtain ⟨z, hz, hz2, hz0, ez⟩ := e
    refine ⟨L, _, _, _, rfl, rfl, .inl (.inl (k2 _ _ upd_same hne.symm)), atI_nat ez, ?_⟩
    refine ⟨_, rfl, _, rfl, _, _, rfl, rfl, h, ca, c - 1, rfl, by omega, by omega, hh2, fun r2 H4 g0 g1 hh4 k4 => ?_⟩
    have e4 := k4 _ _ (k2 _ _ eD1 hDh) hDh
    have hlen := vD.ln
    refine ⟨_, _, rfl, rfl, _, rfl, _, rfl, D, _, rfl, DPut.k (k := Sum.inr z) e4 (by rw [kv_len]; omega), ?_⟩
    have hv := vt_put vD hz hz2 (n := 1 + r2) (by omega) (by omega)
    refine ⟨_, rfl, q _ D (putT l z (1 + r2)) (hh4.off but_upd hDh.symm hDc.symm) (fun b o e n => ?_) nD (by rw [upd_same, putK_kv]) hv ?_⟩
    · rw [upd_ne (ne_of_none e nD)]
      exact k4 _ _ (k2 _ _ (same_upd hL _ _ (k1 _ _ e n)) n) n
    · have hm : z ∈ (putT l z (1 + r2)).map (·.1) := by
        rw [putT_keys]
        by_cases hz : has l z = true
        · rw [if_pos hz]
          exact has_iff.mp hz
        · rw [if_neg hz]
          exact List.mem_append_right _ (List.mem_singleton.mpr rfl)
      obtain ⟨p, hp, e⟩ := List.mem_map.mp hm
      exact ld_of_long hc0 hv hp (by rw [e]; exact hz0)
end
end Fp

set_option Elab.async false
set_option linter.all false
set_option maxRecDepth 100000
set_option maxHeartbeats 4000000
namespace Fp
open PySem PySem.Spec PyProof.Rows L2
theorem ev_one0 {c : Int} (g : Tb) {T : Tb} (h : Lk c T []) : Lk c [] (("", 0) :: prs g T) := (nil_ev g).trans (lk_cons (Lk.prs_r g h.symm))
theorem ev_mod {c : Int} (g : Tb) : ∀ ns : List Int, Lk c (Ev g ns) (Ev g (ns.map (· % c)))
  | [] => Lk.refl _ _
  | n :: ns => fun x => by
    have h := Lk.prs_r g (ev_mod (c := c) g ns) x
    show tot (("", n) :: prs g (Ev g ns)) x % c = tot (("", n % c) :: prs g (Ev g (ns.map (· % c)))) x % c
    rw [tot_cons, tot_cons, Int.add_emod, h]
    conv => rhs; rw [Int.add_emod]
    congr 2
    split
    · exact (Int.emod_emod_of_dvd _ (Int.dvd_refl c)).symm
    · rfl
theorem ev_strip {c : Int} (g : Tb) : ∀ ns : List Int, Lk c (Ev g (strip ns)) (Ev g ns)
  | [] => Lk.refl _ _
  | n :: ns => by
    have ih := ev_strip (c := c) g ns
    show Lk c (Ev g (match strip ns with | [] => if n = 0 then [] else [n] | r => n :: r)) (("", n) :: prs g (Ev g ns))
    cases e : strip ns with
    | nil =>
      rw [e] at ih
      by_cases h : n = 0
      · subst h
        show Lk c (Ev g (if (0 : Int) = 0 then [] else [0])) _
        rw [if_pos rfl]
        exact ev_one0 g ih.symm
      · show Lk c (Ev g (if n = 0 then [] else [n])) _
        rw [if_neg h]
        exact lk_cons (Lk.prs_r g ih)
    | cons a r =>
      rw [e] at ih
      exact lk_cons (Lk.prs_r g ih)
theorem rg_strip {c : Int} : ∀ ns : List Int, Rg c ns → Rg c (strip ns)
  | [], h => h
  | n :: ns, h => by
    have ih := rg_strip ns fun k hk => h k (List.mem_cons_of_mem _ hk)
    show Rg c (match strip ns with | [] => if n = 0 then [] else [n] | r => n :: r)
    cases e : strip ns with
    | nil =>
      show Rg c (if n = 0 then [] else [n])
      split
      · exact fun k hk => by cases hk
      · exact fun k hk => by rw [List.mem_singleton.mp hk]; exact h n List.mem_cons_self
    | cons a r =>
      rw [e] at ih
      intro k hk
      rcases List.mem_cons.mp hk with rfl | hk
      · exact h _ List.mem_cons_self
      · exact ih k hk
theorem nz_strip : ∀ ns : List Int, NZ (strip ns)
  | [] => fun n h => by cases h
  | n :: ns => by
    have ih := nz_strip ns
    show NZ (match strip ns with | [] => if n = 0 then [] else [n] | r => n :: r)
    cases e : strip ns with
    | nil =>
      show NZ (if n = 0 then [] else [n])
      split
      · exact fun n h => by cases h
      · rename_i h
        intro k hk
        cases Option.some.inj hk
        exact h
    | cons a r =>
      rw [e] at ih
      exact fun k hk => ih k (by rw [← hk]; exact (List.getLast?_cons_cons).symm)
theorem rep_norm {c : Int} (hc : 0 < c) (g : Tb) (zs : List Int) : ∃ ns, Lk c (Ev g zs) (Ev g ns) ∧ Rg c ns ∧ NZ ns :=
  ⟨strip (zs.map (· % c)), (ev_mod g zs).trans (ev_strip g _).symm, rg_strip _ fun k hk => by
    obtain ⟨n, _, rfl⟩ := List.mem_map.mp hk
    exact ⟨Int.emod_nonneg _ (by omega), Int.emod_lt_of_pos _ hc⟩, nz_strip _⟩
theorem pw_len {c : Int} {h : Str} {g : Tb} (hck : isCk c) (hg : Ld c g h) {j : Nat} {x : Str} (hx : tot (pw g j) x % c ≠ 0) : x.length ≤ j * h.length := by
  obtain ⟨u, h1, h2⟩ := ld_pw hck hg j
  have := leR_len' (h2.le x hx)
  omega
theorem ldpw_len {c : Int} {h u : Str} {g : Tb} (hck : isCk c) (hg : Ld c g h) {j : Nat} (hu : Ld c (pw g j) u) : u.length = j * h.length := by
  obtain ⟨u', h1, h2⟩ := ld_pw hck hg j
  rw [hu.uniq h2, h1]
theorem smP_key {c : Int} (g : Tb) {x : Str} : ∀ (ns : List Int) (i : Nat), tot (smP g i ns) x % c ≠ 0 → ∃ n, i ≤ n ∧ n < i + ns.length ∧ tot (pw g n) x % c ≠ 0
  | [], i, h => by
    have : tot (smP g i []) x = 0 := rfl
    rw [this, Int.zero_emod] at h
    exact absurd rfl h
  | k :: ns, i, h => by
    by_cases e : tot (pw g i) x % c = 0
    · have h2 : tot (smP g (i + 1) ns) x % c ≠ 0 := fun z => h (by
        show tot (scl k (pw g i) ++ smP g (i + 1) ns) x % c = 0
        rw [tot_app, tot_scl, Int.add_emod, Int.mul_emod, e, Int.mul_zero, Int.zero_emod, z, Int.zero_add, Int.zero_emod])
      obtain ⟨n, h3, h4, h5⟩ := smP_key g ns (i + 1) h2
      exact ⟨n, by omega, by rw [List.length_cons]; omega, h5⟩
    · exact ⟨i, Nat.le_refl _, by rw [List.length_cons]; omega, e⟩
theorem ev_add {c : Int} (g : Tb) (k : Int) : ∀ (j : Nat) (zs : List Int), ∃ zs', Lk c (Ev g zs') (Ev g zs ++ scl k (pw g j))
  | 0, [] => ⟨[k], fun x => by
    show tot (("", k) :: prs g []) x % c = tot ([] ++ [(("" : Str), k * 1)]) x % c
    rw [prs_nil_r, Int.mul_one]
    rfl⟩
  | 0, n :: r => ⟨(n + k) :: r, fun x => by
    show tot (("", n + k) :: prs g (Ev g r)) x % c = tot (((("" : Str), n) :: prs g (Ev g r)) ++ [(("" : Str), k * 1)]) x % c
    rw [tot_app, tot_cons, tot_cons, tot_cons, tot_nil, Int.mul_one]
    congr 1
    split <;> omega⟩
  | j + 1, zs => by
    obtain ⟨n, r, e⟩ : ∃ n r, Lk c (Ev g zs) (("", n) :: prs g (Ev g r)) := by
      cases zs with
      | nil => exact ⟨0, [], nil_ev g⟩
      | cons n r => exact ⟨n, r, Lk.refl _ _⟩
    obtain ⟨z', hz⟩ := ev_add g k j r
    refine ⟨n :: z', fun x => ?_⟩
    have h1 := Lk.prs_r g hz x
    have h2 := e x
    show tot (("", n) :: prs g (Ev g z')) x % c = _
    rw [tot_app, pw_front, tot_scl, Int.add_emod, h2, ← Int.add_emod, tot_cons, Int.add_emod, h1, ← Int.add_emod, tot_cons, prs_app_r, tot_app, tot_prs_scl]
    congr 1
    omega
/-- what is no more in it: the first words of the powers from the s-th one on -/
def JJ (c : Int) (g : Tb) (s : Nat) (T : Tb) : Prop := ∀ j u, s ≤ j → Ld c (pw g j) u → tot T u % c = 0
def Rep (c : Int) (g T : Tb) : Prop := ∃ zs, Lk c T (Ev g zs)
theorem mul_ne {c : Int} (hck : isCk c) {a b : Int} (ha : a % c ≠ 0) (hb : b % c ≠ 0) : (a * b) % c ≠ 0 := fun z => by
  obtain ⟨t, ht⟩ := inv_of hck ha
  refine hb ?_
  have h1 := Int.dvd_of_emod_eq_zero z
  have h2 : c ∣ a * t - 1 := by
    refine Int.dvd_of_emod_eq_zero ?_
    have := ck_range hck
    rw [Int.sub_emod, ht, Int.emod_eq_of_lt (by omega : (0 : Int) ≤ 1) (by omega)]
    rfl
  have h3 : c ∣ (a * b) * t - b * (a * t - 1) := Int.dvd_sub (Int.dvd_mul_of_dvd_left h1) (Int.dvd_mul_of_dvd_right h2)
  rw [show (a * b) * t - b * (a * t - 1) = b by grind] at h3
  exact Int.emod_eq_zero_of_dvd h3
theorem rep_short {c : Int} {h : Str} {g T : Tb} {s : Nat} (hck : isCk c) (hg : Ld c g h) (hh : 0 < h.length) (hj : JJ c g s T) (hr : Rep c g T) : ∃ ns, ns.length ≤ s ∧ Lk c T (Ev g ns) := by
  have hc0 : 0 < c := by have := ck_range hck; omega
  obtain ⟨zs, hz⟩ := hr
  obtain ⟨ns, h1, h2, h3⟩ := rep_norm hc0 g zs
  refine ⟨ns, ?_, hz.trans h1⟩
  rcases List.eq_nil_or_concat ns with e | ⟨pre, k, e⟩
  · rw [e]
    exact Nat.zero_le _
  · subst e
    rw [List.concat_eq_append] at *
    have hk0 := h3 k (by simp)
    have hkr := h2 k (by simp)
    obtain ⟨u, hu, hl⟩ := ld_pw hck hg pre.length
    rcases Nat.lt_or_ge pre.length s with hs | hs
    · rw [List.length_append]
      exact hs
    · exfalso
      have e1 := hj _ u hs hl
      rw [(hz.trans (h1.trans (smP_ev g _).symm)) u, smP_snoc, tot_app, Nat.zero_add, tot_scl] at e1
      have e2 : tot (smP g 0 pre) u % c = 0 := by
        by_cases z : tot (smP g 0 pre) u % c = 0
        · exact z
        · obtain ⟨n, _, y1, y2⟩ := smP_key g pre 0 z
          have := pw_len hck hg y2
          rw [hu] at this
          have := Nat.le_of_mul_le_mul_right this hh
          omega
      rw [Int.add_emod, e2, Int.zero_add, Int.emod_emod_of_dvd _ (Int.dvd_refl c)] at e1
      exact mul_ne hck (by rw [Int.emod_eq_of_lt hkr.1 hkr.2]; exact hk0) hl.ne e1
theorem rep_len {c : Int} {h x : Str} {g T : Tb} {s : Nat} (hck : isCk c) (hg : Ld c g h) (hh : 0 < h.length) (hj : JJ c g s T) (hr : Rep c g T) (hx : tot T x % c ≠ 0) : ∃ n, n < s ∧ x.length ≤ n * h.length := by
  obtain ⟨ns, h1, h2⟩ := rep_short hck hg hh hj hr
  have h3 : tot (smP g 0 ns) x % c ≠ 0 := by rw [smP_ev g ns x, ← h2 x]; exact hx
  obtain ⟨n, _, h4, h5⟩ := smP_key g ns 0 h3
  exact ⟨n, by omega, pw_len hck hg h5⟩
/-- one power taken off -/
theorem take_off {c k : Int} {h u : Str} {g l T T' t : Tb} {s : Nat} {fs : List Int} (hck : isCk c) (hg : Ld c g h) (hh : 0 < h.length) (hu : Ld c (pw g s) u) (ht : Lk c t (pw g s)) (hT : Lk c T' (T ++ scl (-k) t))
    (hk : (k * tot t u) % c = tot T u % c) (e : Lk c l (T ++ smP g (s + 1) fs)) (hr : Rep c g l → Rep c g T) (hj : JJ c g (s + 1) T) :
    Lk c l (T' ++ smP g s (k :: fs)) ∧ (Rep c g l → Rep c g T') ∧ JJ c g s T' := by
  have hT2 : Lk c T' (T ++ scl (-k) (pw g s)) := hT.trans (Lk.app (Lk.refl _ _) (Lk.scl (-k) ht))
  refine ⟨fun x => ?_, fun z => ?_, fun j v hj1 hv => ?_⟩
  · have h1 := mod_sub.mp (hT2 x)
    have h2 := mod_sub.mp (e x)
    rw [tot_app, tot_scl] at h1
    rw [tot_app] at h2
    refine mod_sub.mpr ?_
    show (tot l x - tot (T' ++ (scl k (pw g s) ++ smP g (s + 1) fs)) x) % c = 0
    rw [tot_app, tot_app, tot_scl]
    have h3 := Int.dvd_sub (Int.dvd_of_emod_eq_zero h2) (Int.dvd_of_emod_eq_zero h1)
    rw [show tot l x - (tot T x + tot (smP g (s + 1) fs) x) - (tot T' x - (tot T x + -k * tot (pw g s) x)) = tot l x - (tot T' x + (k * tot (pw g s) x + tot (smP g (s + 1) fs) x)) by grind] at h3
    exact Int.emod_eq_zero_of_dvd h3
  · obtain ⟨zs, hz⟩ := hr z
    obtain ⟨z', hz'⟩ := ev_add (c := c) g (-k) s zs
    exact ⟨z', hT2.trans ((Lk.app hz (Lk.refl _ _)).trans hz'.symm)⟩
  · rw [hT2 v, tot_app, tot_scl]
    rcases Nat.lt_or_ge s j with hs | hs
    · have h1 := hj j v hs hv
      have h2 : tot (pw g s) v % c = 0 := by
        by_cases z : tot (pw g s) v % c = 0
        · exact z
        · have h3 := pw_len hck hg z
          rw [ldpw_len hck hg hv] at h3
          have := Nat.le_of_mul_le_mul_right h3 hh
          omega
      rw [Int.add_emod, h1, Int.mul_emod, h2, Int.mul_zero, Int.zero_emod, Int.zero_add, Int.zero_emod]
    · have : j = s := by omega
      subst this
      have := hv.uniq hu
      subst this
      have h1 := mod_sub.mp hk
      have h2 := mod_sub.mp (Lk.scl k ht v)
      rw [tot_scl, tot_scl] at h2
      have h3 := Int.dvd_sub (Int.dvd_of_emod_eq_zero h2) (Int.dvd_of_emod_eq_zero h1)
      rw [show k * tot t v - k * tot (pw g j) v - (k * tot t v - tot T v) = tot T v + -k * tot (pw g j) v by grind] at h3
      exact Int.emod_eq_zero_of_dvd h3
/-- where it begins -/
theorem taken0 {c : Int} {h : Str} {g l : Tb} {m : Nat} (hck : isCk c) (hg : Ld c g h) (hh : 0 < h.length) (hl : ∀ x, tot l x % c ≠ 0 → x.length ≤ m) : JJ c g (m / h.length + 1) l := fun j u hj hu => by
  by_cases z : tot l u % c = 0
  · exact z
  · have h1 := hl u z
    rw [ldpw_len hck hg hu] at h1
    have h2 := (Nat.le_div_iff_mul_le hh).mpr h1
    omega
/-- where it ends -/
theorem taken_end {c : Int} {h : Str} {g l T : Tb} {fs : List Int} (hck : isCk c) (hg : Ld c g h) (hh : 0 < h.length) (tT : Tt c T) (e : Lk c l (T ++ smP g 0 fs)) (hr : Rep c g l → Rep c g T) (hj : JJ c g 0 T) (rg : Rg c fs) :
    Res c g l (if T = [] then some (strip fs) else none) := by
  by_cases z : T = []
  · rw [if_pos z]
    subst z
    exact ⟨e.trans ((smP_ev g fs).trans (ev_strip g fs).symm), rg_strip _ rg, nz_strip _⟩
  · rw [if_neg z]
    intro ns hn
    obtain ⟨p, hp⟩ := List.exists_mem_of_ne_nil _ z
    obtain ⟨n, h1, _⟩ := rep_len hck hg hh hj (hr ⟨ns, hn⟩) (tt_at tT hp)
    omega
/-- too long -/
theorem taken_long {c : Int} {h : Str} {g l T : Tb} {s : Nat} {p : Str × Int} (hck : isCk c) (hg : Ld c g h) (hh : 0 < h.length) (tT : Tt c T) (hr : Rep c g l → Rep c g T) (hj : JJ c g (s + 1) T) (hp : p ∈ T) (hl : s * h.length < p.1.length) : Res c g l none := fun ns hn => by
  obtain ⟨n, h1, h2⟩ := rep_len hck hg hh hj (hr ⟨ns, hn⟩) (tt_at tT hp)
  have := Nat.mul_le_mul_right h.length (show n ≤ s by omega)
  omega
end Fp

set_option Elab.async false
set_option linter.all false
set_option maxRecDepth 100000
set_option maxHeartbeats 4000000
namespace Fp
open PySem PySem.Spec PyProof.Rows L2
section
variable {P : Program} {w : World} {K : PySem.W.Frag} {mg : Str → Option Value} {base : Heap}
/-- the longest of a base -/
theorem long_base {c m : Int} {h : Str} {g : Tb} (tg : Tt c g) (hg : Ld c g h) (hm : LongOf g m) : m = h.length := by
  obtain ⟨p, hp, e⟩ := tt_key hg.ne
  have h1 := hm.le p hp
  rw [e] at h1
  rcases hm.at_ with z | ⟨q, hq, z⟩
  · omega
  · have := leR_len' (hg.le q.1 (tt_at tg hq))
    omega
theorem long_bag {m : Int} {l : Tb} (hm : LongOf l m) : ∃ M : Nat, (if m > 0 then m else 0) = M ∧ (∀ p ∈ l, p.1.length ≤ M) ∧ ∀ k : Nat, (∀ p ∈ l, p.1.length ≤ k) → M ≤ k := by
  refine ⟨m.toNat, ?_, fun p hp => ?_, fun k hk => ?_⟩
  · split <;> omega
  · have := hm.le p hp
    omega
  · rcases hm.at_ with z | ⟨q, hq, z⟩
    · omega
    · have := hk q hq
      omega
def spTaken (K : PySem.W.Frag) : Sp := fun vs H Q _ => ∃ (c : Int) (B G : Addr) (l g : Tb) (h : Str), vs = [.int c, .ref B, .ref G] ∧ isCk c ∧ H B = some (.dK (kv l)) ∧ H G = some (.dK (kv g)) ∧ VT c 4 500 l ∧ VT c 2 3 g ∧ Ld c g h ∧ 0 < h.length ∧
  ∀ H' x r, Same H H' → Res c g l r → OptT K H' x r → Q x H'
abbrev nTaken : List Str := ["_law_clock_here", "_law_bag", "_law_base_here", "_law_letters", "_law_most", "_law_powers_here", "_law_left", "_law_found", "_law_at", "_law_lead", "_law_number", "_law_k"]
theorem sc_taken : FnScope nTaken ["_law_clock_here", "_law_bag", "_law_base_here"] (defScope s__law_taken) := ⟨rfl, rfl, rfl, by decide +kernel, rfl, by decide +kernel, by decide +kernel⟩
/-- what stands ahead of each turn -/
structure TakAt (c : Int) (g l : Tb) (D Fd : Addr) (H H' : Hp) (most i : Nat) (T : Tb) (fs : List Int) : Prop where
  d : H' D = some (.dK (kv T))
  f : H' Fd = some (.lst (fs.map V.int))
  s : Same H H'
  v : VT c 8 (500 + 81 * i) T
  lk : Lk c l (T ++ smP g (most + 1 - i) fs)
  rp : Rep c g l → Rep c g T
  jj : JJ c g (most + 1 - i) T
  rg : Rg c fs
  ln : fs.length = i
theorem ok_taken (T : Top K mg) : Ok P w K mg base 4 "_law_taken" ["_law_clock_here", "_law_bag", "_law_base_here"] (spTaken K) := by
  obtain ⟨fd, F⟩ := fn__law_taken T
  refine ⟨⟨fd, ?_, F.bindsN fun _ _ _ _ _ _ us hl => match us, hl with | [_, _, _], _ => rfl⟩, g__law_taken T, F.kp⟩
  refine F.ok sc_taken (fun vs H Q E h => ?_) (fun cdv A outer s H vs Q E hr h => ?_)
  · obtain ⟨c, B, G, l, g, h, rfl, _⟩ := h
    rfl
  · obtain ⟨c, B, G, l, g, h, rfl, hck, hB, hG, vl, vg, hld, hh, q⟩ := h
    have nd := sc_taken.nd
    have hu := hu_of hr
    have hs : sizeLine = 16777216 := sizeLine_eq
    obtain ⟨hc2, hc7⟩ := ck_range hck
    have hc0 : 0 < c := by omega
    have hr1 : Room 1 _ := hr.mono (by decide)
    have hr2 : Room 2 _ := hr.mono (by decide)
    have tg : Tt c g := ⟨vg.nd, vg.nu⟩
    have tl : Tt c l := ⟨vl.nd, vl.nu⟩
    refine ⟨_, PSs.nox (pss_cons (ps_set (i := 3) nd rfl (Or.inl rfl) (pc (ok_lsize T) hr1 (pa_cons (pv 2) pa_nil)))
      (pss_cons (ps_set (i := 4) nd rfl (Or.inl rfl) (pe_op op_fdiv (pe_callB (call_max2 rfl) (by rfl) (f_max T) (by decide +kernel) (pa_cons pe_int (pa_cons (pc (ok_lsize T) hr1 (pa_cons (pv 1) pa_nil)) pa_nil))) (pv 3)))
      (pss_cons (ps_set (i := 5) nd rfl (Or.inr rfl) (pc (ok_pws T) hr (pa_cons (pv 0) (pa_cons (pv 2) (pa_cons (pv 4) pa_nil)))))
      (pss_cons (ps_set (i := 6) nd rfl (Or.inr rfl) (pe_callTy call_dictD (by rfl) (f_dict T) (by decide +kernel) (pa_cons (pv 1) pa_nil)))
      (pss_cons (ps_set (i := 7) nd rfl (Or.inl rfl) (pe_lst pa_nil))
      (pss_cons (ps_for PassesOwn.never rfl (pi_range3 (by rfl) (f_range T) (pa_cons (pv 4) (pa_cons (pe_un un_neg pe_int) (pa_cons (pe_un un_neg pe_int) pa_nil)))) (pg_name (i := 8) nd rfl (Or.inr rfl))
        (pss_cons (ps_set (i := 9) nd rfl (Or.inr rfl) (pe_ix ix_list (pc (ok_order T) hr2 (pa_cons (pe_ix ix_list (pv 5) (pv 8) (fun _ _ => rfl)) pa_nil)) pe_int (fun _ _ => rfl)))
        (pss_cons (ps_if (pt_cmpR op_gt (pc (ok_lsize T) hr1 (pa_cons (pv 6) pa_nil)) (pe_callB call_len_str (by rfl) (f_len T) PySem.boot_len (pa_cons (pv 9) pa_nil)) (nomark _)) (pss_one (ps_ret pe_non)) pss_nil)
        (pss_cons (ps_set (i := 10) nd rfl (Or.inl rfl) (pe_ix ix_list (pe_lc (own := [("_law_k", 11)]) (g := gName 11) (te := tVar 11) (tt := tTest (tOp rEq (tOp (rI (fun _ j => 0 < j) fun i j => .int (i % j)) (tCB (fun xs H Q => (∃ i, xs = [.int i] ∧ Q (.int i) H) ∨ ∃ k, xs = [.bl k] ∧ Q (.int (if k then 1 else 0)) H) (tCons (tOp (rI CMul fun i j => .int (i * j)) (tVar 11) (tDGet (tOp (rIxL K) (tVar 5) (tVar 8)) (tVar 9))) tNil)) (tVar 0)) (tDGet2 (tVar 6) (tVar 9) (tC (.int 0)))))
            rfl nd (pi_range1 (by rfl) (f_range T) (pa_cons (pv 0) pa_nil)) (blkOk_by (N := nTaken) (sc := defScope s__law_taken) (by decide +kernel)) (fun _ _ _ _ _ => pg_name (i := 11) nd rfl (Or.inl rfl))
            (fun _ _ _ _ _ => by exact pts_one (pt_cmpR op_eq (pe_op op_mod (pe_callTy call_int1 (by rfl) (f_int T) boot_int (pa_cons (pe_op op_mul (pv 11) (pe_dget hu (pe_ix ix_list (pv 5) (pv 8) (fun _ _ => rfl)) (pv 9) (fun _ _ => rfl))) pa_nil)) (pv 0)) (pe_dget2 hu (pv 6) (pv 9) pe_int ⟨rfl, rfl, rfl, rfl⟩) (nomark _)))
            (fun _ _ _ _ _ => pv 11)) pe_int (fun _ _ => rfl)))
        (pss_cons (ps_set (i := 7) nd rfl (Or.inl rfl) (pe_op op_cat (pe_lst (pa_cons (pv 10) pa_nil)) (pv 7)))
        (pss_one (ps_set (i := 6) nd rfl (Or.inr rfl) (pc (ok_plus T) hr2 (pa_cons (pv 0) (pa_cons (pv 6) (pa_cons (pe_ix ix_list (pv 5) (pv 8) (fun _ _ => rfl)) (pa_cons (pe_un un_neg (pv 10)) pa_nil))))))))))))
      (pss_cons (ps_if (pt_cmpR op_gt (pe_callB call_lenD (by rfl) (f_len T) PySem.boot_len (pa_cons (pv 6) pa_nil)) pe_int (nomark _)) (pss_one (ps_ret pe_non)) pss_nil)
      (pss_one (ps_ret (pc (ok_short T) hr1 (pa_cons (pv 7) pa_nil))))))))))), ?_⟩
    refine ⟨_, rfl, G, g, rfl, hG, fun p hp => Nat.le_trans (vg.wd p hp).2 (by decide), Nat.le_trans vg.ln (by decide), fun H1 m s1 lg => ?_⟩
    obtain rfl := long_base tg hld lg
    have hh2 : h.length ≤ 2 := by
      obtain ⟨p, hp, e⟩ := tt_key hld.ne
      rw [← e]
      exact (vg.wd p hp).2
    refine ⟨_, rfl, B, l, rfl, s1 _ _ hB, fun p hp => Nat.le_trans (vl.wd p hp).2 (by decide), Nat.le_trans vl.ln (by decide), fun H2 m2 s2 lb => ?_⟩
    obtain ⟨M, eM, hM, hMk⟩ := long_bag lb
    have hM4 := hMk 4 fun p hp => (vl.wd p hp).2
    replace s1 := s1.trans s2
    refine ⟨0, m2, rfl, _, rfl, _, _, rfl, rfl, ⟨by omega, by omega⟩, ?_⟩
    rw [eM]
    dsimp only
    have hj0 : JJ c g (M / h.length + 1) l := taken0 hck hld hh fun x hx => by
      obtain ⟨p, hp, rfl⟩ := tt_key hx
      exact hM p hp
    have hmost : M / h.length ≤ 4 := Nat.le_trans (Nat.div_le_self _ _) hM4
    rw [show (M : Int) / (h.length : Int) = ((M / h.length : Nat) : Int) from rfl]
    generalize M / h.length = most at hj0 hmost ⊢
    refine ⟨_, rfl, _, rfl, _, rfl, c, G, most, g, rfl, hc2, hc7, hmost, s1 _ _ hG, vg, fun H3 L ds s3 _ eL dl hpw _ => ?_⟩
    replace s1 := s1.trans s3
    refine ⟨_, rfl, B, kv l, rfl, .inl (s1 _ _ hB), fun D0 nD => ?_⟩
    have s4 := same_upd (o := .dK (kv l)) nD
    have e4 : (upd H3 D0 (.dK (kv l))) D0 = some (.dK (kv l)) := upd_same
    generalize upd H3 D0 (.dK (kv l)) = H4 at s4 e4 ⊢
    refine ⟨by show 0 ≤ sizeLine; omega, fun F0 nF => ?_⟩
    have s5 := same_upd (o := .lst []) nF
    have e5 : (upd H4 F0 (.lst [])) F0 = some (.lst []) := upd_same
    replace e4 := s5 _ _ e4
    replace s4 := s4.trans s5
    replace s1 := s1.trans s4
    replace eL := s4 _ _ eL
    replace hpw := hpw.same s4
    generalize upd H4 F0 (.lst []) = H5 at s1 e4 e5 eL hpw ⊢
    have hR : RgC (most : Int) (-1) (-1) (most + 1) := by
      have := RgC.neg (i := (most : Int)) (j := -1) (by omega) (by omega) (by decide) (by decide)
      rwa [show ((most : Int) - -1).toNat = most + 1 by omega] at this
    refine ⟨_, rfl, 1, rfl, 1, rfl, (most : Int), -1, -1, most + 1, rfl, hR, ?_⟩
    refine for_it walk_rangeC (fun i σ H' => ∃ (D Fd : Addr) (T : Tb) (fs : List Int) (v8 v9 v10 : Option V), σ = [some (.int c), some (.ref B), some (.ref G), some (.int h.length), some (.int most), some (.ref L), some (.ref D), some (.ref Fd), v8, v9, v10, none] ∧ TakAt c g l D Fd H5 H' most i T fs)
      ⟨D0, F0, l, [], none, none, none, rfl, e4, e5, Same.refl _, vl.mono (by decide) (by omega), fun x => by
        show _ = tot (l ++ []) x % c
        rw [List.append_nil], fun z => z, hj0, (fun k hk => by cases hk), rfl⟩ (fun _ _ _ _ _ => trivial) ?_ ?_
    · rintro i x σ Ha Hb hi ⟨D, Fd, T1, fs, v8, v9, v10, rfl, P1⟩ ⟨rfl, hx⟩
      have ex : (most : Int) + (i : Int) * -1 = ((most - i : Nat) : Int) := by omega
      obtain rfl : x = V.int ((most - i : Nat) : Int) := hx.trans (congrArg V.int ex)
      clear hx
      have hat : most - i + 1 = most + 1 - i := by omega
      have hat4 : most - i ≤ 4 := by omega
      obtain ⟨d, hd⟩ : ∃ d, ds[most - i]? = some d := ⟨ds[most - i]'(by omega), List.getElem?_eq_getElem _⟩
      obtain ⟨t, t1, t2, t3⟩ := hpw _ d hd
      have lkk := P1.lk
      have hjj := P1.jj
      rw [← hat] at lkk hjj
      have et : most + 1 - (i + 1) = most - i := by omega
      generalize most - i = at_ at hd t2 t3 lkk hjj hat4 et ⊢
      have hk81 : (3 : Nat) ^ at_ ≤ 81 := by
        have : at_ = 0 ∨ at_ = 1 ∨ at_ = 2 ∨ at_ = 3 ∨ at_ = 4 := by omega
        rcases this with rfl | rfl | rfl | rfl | rfl <;> decide
      have eLd : (ds.map V.ref)[at_]? = some (.ref d) := by rw [List.getElem?_map, hd]; rfl
      have tt : Tt c t := ⟨t2.nd, t2.nu⟩
      have hlen := t2.ln
      obtain ⟨u0, _, hu0⟩ := ld_pw hck hld at_
      have htne : t ≠ [] := fun z => by
        have := (hu0.lk t3.symm).ne
        rw [z, tot_nil, Int.zero_emod] at this
        exact this rfl
      obtain ⟨u, tl', eo, hu1, hu2⟩ := ord_first htne
      have hut : Ld c t u := by
        obtain ⟨p, hp, e⟩ := List.mem_map.mp hu1
        refine ⟨by rw [← e]; exact tt_at tt hp, fun y hy => ?_⟩
        obtain ⟨r, hr', e'⟩ := tt_key hy
        exact hu2 y (List.mem_map.mpr ⟨r, hr', e'⟩)
      have hup := hut.lk t3
      have hul := ldpw_len hck hld hup
      have hul8 : u.length ≤ 8 := by
        have := Nat.mul_le_mul hat4 hh2
        omega
      refine ⟨_, rfl, _, rfl, L, _, _, _, rfl, rfl, SqL.of (P1.s _ _ eL), atI_nat eLd, ?_⟩
      refine ⟨d, t, rfl, P1.s _ _ t1, fun p hp => by have := (t2.wd p hp).2; omega, by omega, fun H6 O s6 nO eO => ?_⟩
      rw [eo] at eO
      refine ⟨O, _, 0, _, rfl, rfl, SqL.of eO, atI_nat (j := 0) rfl, ?_⟩
      have sH6 := P1.s.trans s6
      have hvl := P1.v.ln
      refine ⟨_, rfl, D, T1, rfl, s6 _ _ P1.d, fun p hp => Nat.le_trans (P1.v.wd p hp).2 (by decide), by omega, fun H7 m s7 lm => ?_⟩
      refine ⟨_, rfl, u, rfl, by omega, _, _, rfl, rfl, _, rfl, ?_⟩
      have sH7 := sH6.trans s7
      have tT : Tt c T1 := ⟨P1.v.nd, P1.v.nu⟩
      by_cases hm : (u.length : Int) < m
      · rw [decide_eq_true hm]
        refine iteT ?_
        refine q _ _ none (s1.trans sH7) ?_ rfl
        rcases lm.at_ with z | ⟨p, hp, z⟩
        · omega
        · exact taken_long hck hld hh tT P1.rp hjj hp (by omega)
      rw [decide_eq_false hm]
      refine iteF ?_
      have eD7 := s7 _ _ (s6 _ _ P1.d)
      have eF7 := s7 _ _ (s6 _ _ P1.f)
      have eL7 := sH7 _ _ eL
      have ed7 := sH7 _ _ t1
      -- the number
      have hnu : 1 ≤ num t u ∧ num t u < c := by
        obtain ⟨p, hp, e⟩ := List.mem_map.mp hu1
        obtain ⟨j, ej⟩ := List.getElem?_of_mem hp
        have := num_of tt.nd ej
        rw [e] at this
        rw [this]
        exact tt.rg p hp
      have hTu : 0 ≤ num T1 u ∧ num T1 u < c := by
        by_cases hm' : u ∈ T1.map (·.1)
        · obtain ⟨p, hp, e⟩ := List.mem_map.mp hm'
          obtain ⟨j, ej⟩ := List.getElem?_of_mem hp
          have := num_of tT.nd ej
          rw [e] at this
          have := tT.rg p hp
          omega
        · have := tot_num tT.nd u
          rw [tot_not hm'] at this
          omega
      obtain ⟨k0, hk0, hk1, hk2⟩ : ∃ k0 : Int, 0 ≤ k0 ∧ k0 < c ∧ (k0 * num t u) % c = num T1 u := by
        obtain ⟨z, hz⟩ := inv_of hck (n := num t u) (by rw [Int.emod_eq_of_lt (by omega) hnu.2]; omega)
        refine ⟨(num T1 u * z) % c, Int.emod_nonneg _ (by omega), Int.emod_lt_of_pos _ hc0, ?_⟩
        rw [Int.mul_emod, Int.emod_emod_of_dvd _ (Int.dvd_refl c), ← Int.mul_emod, show num T1 u * z * num t u = num T1 u * (num t u * z) by grind, Int.mul_emod, hz, Int.mul_one, Int.emod_emod_of_dvd _ (Int.dvd_refl c), Int.emod_eq_of_lt hTu.1 hTu.2]
      refine ⟨_, rfl, c, rfl, by omega, by omega, fun Kd nK => ?_⟩
      refine lc_it walk_range (fun j H' => ∃ ks : List Int, H' Kd = some (.lst (ks.map V.int)) ∧ Same H7 H' ∧ ks.length ≤ j ∧ (∀ k ∈ ks, 0 ≤ k ∧ k < c ∧ (k * num t u) % c = num T1 u) ∧ (k0 < j → ks ≠ []))
        ⟨[], upd_same, same_upd nK, Nat.le_refl _, (fun k hk => by cases hk), fun z => by omega⟩ (fun _ _ _ _ => trivial) ?_ ?_
      · rintro j x Hc Hd hj ⟨ks, p1, p2, p3, p4, p5⟩ ⟨rfl, rfl⟩
        have hjc : (j : Int) < c := by omega
        refine ⟨rfl, ?_⟩
        refine ⟨_, rfl, _, rfl, _, rfl, L, _, _, _, rfl, rfl, SqL.of (p2 _ _ eL7), atI_nat eLd, ?_⟩
        refine ⟨_, rfl, d, .int (num t u), rfl, .inl ⟨kv t, Sum.inr u, .inl (p2 _ _ ed7), rfl, by rw [valV_yes (has_iff.mpr hu1)]⟩, ?_⟩
        refine ⟨_, _, rfl, rfl, .inl ⟨by omega, by omega⟩, ?_⟩
        refine .inl ⟨_, rfl, _, rfl, _, _, rfl, rfl, hc0, ?_⟩
        refine ⟨_, rfl, D, rfl, .inl ⟨_, .inl (p2 _ _ eD7)⟩, _, rfl, _, DGet.k (k := Sum.inr u) (p2 _ _ eD7), ?_⟩
        rw [num_eq]
        refine ⟨rfl, _, rfl, ?_⟩
        dsimp only
        rw [show ((0 : Int) + (j : Int)) = (j : Int) by omega]
        refine ite2 (fun z => ?_) (fun z => ?_)
        · have hjk : ((j : Int) * num t u) % c = num T1 u := by
            have := of_decide_eq_true z
            injection this
          refine ⟨_, rfl, _, p1, by rw [List.length_map]; omega, ks ++ [(j : Int)], ?_, fun a o z => ?_, by rw [List.length_append]; show ks.length + 1 ≤ _; omega, fun k hk => ?_, fun _ z => by simp at z⟩
          · rw [upd_same, List.map_append]
            rfl
          · rw [upd_ne (ne_of_none z nK)]
            exact p2 _ _ z
          · rcases List.mem_append.mp hk with hk | hk
            · exact p4 k hk
            · rw [List.mem_singleton.mp hk]
              exact ⟨by omega, hjc, hjk⟩
        · have hjk : ¬ ((j : Int) * num t u) % c = num T1 u := fun e => z (decide_eq_true (congrArg V.int e))
          refine ⟨ks, p1, p2, by omega, p4, fun z => p5 ?_⟩
          by_cases e : k0 = j
          · rw [e] at hk2
            exact absurd hk2 hjk
          · omega
      · rintro H8 ⟨ks, p1, s8, p3, p4, p5⟩
        have hks := p5 (by omega)
        obtain ⟨k, kr, rfl⟩ : ∃ k kr, ks = k :: kr := by
          cases ks with
          | nil => exact absurd rfl hks
          | cons k kr => exact ⟨k, kr, rfl⟩
        obtain ⟨g0, g1, g2⟩ := p4 k List.mem_cons_self
        refine ⟨Kd, _, 0, _, rfl, rfl, SqL.of p1, atI_nat (j := 0) rfl, ?_⟩
        refine ⟨_, rfl, by show 1 ≤ sizeLine; omega, fun L0 nL0 => ?_⟩
        have s9 := same_upd (o := .lst [.int k]) nL0
        have e9 : (upd H8 L0 (.lst [.int k])) L0 = some (.lst [.int k]) := upd_same
        generalize upd H8 L0 (.lst [.int k]) = H9 at s9 e9 ⊢
        have s79 := s8.trans s9
        refine ⟨_, rfl, L0, Fd, _, _, rfl, rfl, e9, s79 _ _ eF7, by show 1 + _ ≤ sizeLine; rw [List.length_map, P1.ln]; omega, fun L2 nL2 => ?_⟩
        have s10 := same_upd (o := .lst ([.int k] ++ fs.map V.int)) nL2
        have e10 : (upd H9 L2 (.lst ([.int k] ++ fs.map V.int))) L2 = some (.lst ((k :: fs).map V.int)) := upd_same
        generalize upd H9 L2 (.lst ([.int k] ++ fs.map V.int)) = H10 at s10 e10 ⊢
        replace s79 := s79.trans s10
        refine ⟨_, rfl, _, rfl, _, rfl, _, rfl, L, _, _, _, rfl, rfl, SqL.of (s79 _ _ eL7), atI_nat eLd, ?_⟩
        refine ⟨_, rfl, k, rfl, ?_⟩
        refine ⟨c, D, d, -k, T1, t, rfl, hc0, hc7, s79 _ _ eD7, s79 _ _ ed7, t2.nd, t2.nu, by omega, by omega, fun H11 D11 s11 n11 e11 => ?_⟩
        have v8t := t2.mono (m' := 8) (by omega) (Nat.le_refl _)
        obtain ⟨a1, a2, a3⟩ := take_off (T' := plusM c T1 t (-k)) hck hld hh hup t3 (lk_plus (m' := 0) hc0 P1.v v8t) (by
          rw [tot_num tt.nd, tot_num tT.nd, g2, Int.emod_eq_of_lt hTu.1 hTu.2]) lkk P1.rp hjj
        refine ⟨D11, L2, _, k :: fs, _, _, _, rfl, e11, s11 _ _ e10, sH7.trans (s79.trans s11), (vt_plusM hc0 P1.v v8t (-k)).mono (Nat.le_refl _) (by omega), ?_, a2, ?_, fun z hz => ?_, by rw [List.length_cons, P1.ln]⟩
        · rw [et]
          exact a1
        · rw [et]
          exact a3
        · rcases List.mem_cons.mp hz with rfl | hz
          · exact ⟨g0, g1⟩
          · exact P1.rg z hz
    · rintro σ Ha ⟨D, Fd, T1, fs, v8, v9, v10, rfl, P1⟩
      have lkk := P1.lk
      have hjj := P1.jj
      rw [Nat.sub_self] at lkk hjj
      have tT : Tt c T1 := ⟨P1.v.nd, P1.v.nu⟩
      have res := taken_end hck hld hh tT lkk P1.rp hjj P1.rg
      refine ⟨_, rfl, D, kv T1, rfl, P1.d, _, _, rfl, rfl, _, rfl, ?_⟩
      by_cases hT : T1 = []
      · rw [if_pos hT] at res
        rw [decide_eq_false (by rw [hT]; decide)]
        refine iteF ?_
        refine ⟨_, rfl, Fd, fs, rfl, P1.f, by rw [P1.ln]; omega, fun H' t s' n' e' => ?_⟩
        exact q _ _ (some (strip fs)) (s1.trans (P1.s.trans s')) res ⟨t, rfl, e'⟩
      · rw [if_neg hT] at res
        rw [decide_eq_true (by
          rw [kv_len]
          have := List.length_pos_iff.mpr hT
          omega)]
        refine iteT ?_
        exact q _ _ none (s1.trans P1.s) res rfl
end
end Fp

set_option Elab.async false
set_option linter.all false
set_option maxRecDepth 100000
set_option maxHeartbeats 4000000
namespace Fp
open PySem PySem.Spec PyProof.Rows L2
theorem nodup_len {α : Type} [BEq α] [LawfulBEq α] : ∀ {l m : List α}, l.Nodup → (∀ x ∈ l, x ∈ m) → l.length ≤ m.length
  | [], _, _, _ => Nat.zero_le _
  | x :: l, m, hn, hs => by
    obtain ⟨h1, h2⟩ := List.nodup_cons.mp hn
    have hx := hs x List.mem_cons_self
    have h3 := nodup_len (l := l) (m := m.erase x) h2 fun y hy => (List.mem_erase_of_ne (fun e => h1 (by rw [← e]; exact hy))).mpr (hs y (List.mem_cons_of_mem _ hy))
    rw [List.length_erase_of_mem hx] at h3
    have := List.length_pos_of_mem hx
    rw [List.length_cons]
    omega
/-- all words of at most so many letters, as lists -/
def allL : Nat → List (List Nat)
  | 0 => [[]]
  | n + 1 => [] :: (((allL n).map (120 :: ·)) ++ ((allL n).map (121 :: ·)) ++ ((allL n).map (122 :: ·)))
theorem allL_len : ∀ n, (allL (n + 1)).length = 1 + 3 * (allL n).length := fun n => by
  show ([] :: (((allL n).map (120 :: ·)) ++ ((allL n).map (121 :: ·)) ++ ((allL n).map (122 :: ·)))).length = _
  rw [List.length_cons, List.length_append, List.length_append, List.length_map, List.length_map, List.length_map]
  omega
theorem allL_mem : ∀ (n : Nat) (x : List Nat), (∀ c ∈ x, c = 120 ∨ c = 121 ∨ c = 122) → x.length ≤ n → x ∈ allL n
  | 0, x, _, h => by
    have : x = [] := List.length_eq_zero_iff.mp (by omega)
    subst this
    exact List.mem_singleton.mpr rfl
  | n + 1, [], _, _ => List.mem_cons_self
  | n + 1, c :: x, hx, h => by
    have ih := allL_mem n x (fun d hd => hx d (List.mem_cons_of_mem _ hd)) (by rw [List.length_cons] at h; omega)
    refine List.mem_cons_of_mem _ ?_
    rcases hx c List.mem_cons_self with rfl | rfl | rfl
    · exact List.mem_append_left _ (List.mem_append_left _ (List.mem_map.mpr ⟨x, ih, rfl⟩))
    · exact List.mem_append_left _ (List.mem_append_right _ (List.mem_map.mpr ⟨x, ih, rfl⟩))
    · exact List.mem_append_right _ (List.mem_map.mpr ⟨x, ih, rfl⟩)
theorem nodup_map_inj {α β : Type} {f : α → β} (hf : ∀ a b, f a = f b → a = b) : ∀ {l : List α}, l.Nodup → (l.map f).Nodup
  | [], _ => List.nodup_nil
  | x :: l, h => by
    obtain ⟨h1, h2⟩ := List.nodup_cons.mp h
    refine List.nodup_cons.mpr ⟨fun z => ?_, nodup_map_inj hf h2⟩
    obtain ⟨y, hy, e⟩ := List.mem_map.mp z
    exact h1 (hf _ _ e ▸ hy)
theorem few_words {T : Tb} {n : Nat} (hn : Nd T) (h : ∀ p ∈ T, xyz p.1 ∧ p.1.length ≤ n) : T.length ≤ (allL n).length := by
  have h1 : ((T.map (·.1)).map fun x : Str => x.cps.toList).Nodup := nodup_map_inj (fun a b e => PySem.W.str_of_cps e) hn
  have h2 := nodup_len h1 (m := allL n) fun x hx => by
    obtain ⟨z, hz, rfl⟩ := List.mem_map.mp hx
    obtain ⟨p, hp, rfl⟩ := List.mem_map.mp hz
    exact allL_mem n _ (h p hp).1 (by rw [Array.length_toList]; exact (h p hp).2)
  rw [List.length_map, List.length_map] at h2
  exact h2
theorem all4 : (allL 4).length = 121 := rfl
theorem vt_few {c : Int} {n : Nat} {T : Tb} (t : Tt c T) (h : ∀ p ∈ T, xyz p.1 ∧ p.1.length ≤ n) : VT c n (allL n).length T := ⟨t.nd, t.rg, h, few_words t.nd h⟩
/-- the sizes while a short bag is divided -/
theorem hsz_short {c : Int} {h : Str} {g l : Tb} {mg kg : Nat} (hck : isCk c) (hg : Ld c g h) (hh : 0 < h.length) (vg : VT c mg kg g) (hkg : kg ≤ 1000) (hl : ∀ x, tot l x % c ≠ 0 → x.length ≤ 4) :
    ∀ (fs : List Int) (T : Tb), Tt c T → (∀ p ∈ T, xyz p.1) → T ≠ [] → Lk c l (EvT g fs T) → ∃ m k M U, VT c m k T ∧ k ≤ 2500 ∧ UW (canon g) T M U := fun fs T t x _ e => by
  have v : VT c 4 121 T := by
    have := vt_few (n := 4) t fun p hp => ⟨x p hp, by
      have := evT_short hck hg hh e hl (tt_at t hp)
      omega⟩
    rwa [all4] at this
  refine ⟨4, 121, 4, _, v, by decide, uw_suf v (vt_canon vg) (by decide) ?_⟩
  have : 121 * ((4 + 1) * (kg + 1)) ≤ 121 * ((4 + 1) * (1000 + 1)) := Nat.mul_le_mul_left _ (Nat.mul_le_mul_left _ (by omega))
  omega
/-- what is shown -/
theorem show_ok {c : Int} {ns : List Int} (hc : c ≤ 7) (h : Rg c ns) (hl : ns.length ≤ 1000) : (PyData.tuple (ns.map PyData.int)).showable = true ∧ (shownT (some ns)).length ≤ sizeLine := by
  have hs : sizeLine = 16777216 := sizeLine_eq
  have key : ∀ ns : List Int, Rg c ns → PyData.showableAll (ns.map PyData.int) = true ∧ ((PyData.shownAll (ns.map PyData.int)).map (·.length)).sum ≤ 13 * ns.length := by
    intro ns
    induction ns with
    | nil => exact fun _ => ⟨rfl, Nat.le_refl _⟩
    | cons n r ih =>
      intro h
      obtain ⟨i1, i2⟩ := ih fun k hk => h k (List.mem_cons_of_mem _ hk)
      have hn := h n List.mem_cons_self
      refine ⟨?_, ?_⟩
      · show (decide (n.natAbs.log2 < 1920) && PyData.showableAll (r.map PyData.int)) = true
        rw [i1, Bool.and_true]
        have h1 : n.natAbs.log2 ≤ n.natAbs := Nat.log2_le_self _
        exact decide_eq_true (by omega)
      · have h1 := PyData.shown_int_le (i := n) (by omega)
        show ((PyData.shown (.int n)).length :: (PyData.shownAll (r.map PyData.int)).map (·.length)).sum ≤ _
        rw [List.sum_cons, List.length_cons]
        omega
  obtain ⟨k1, k2⟩ := key ns h
  refine ⟨k1, ?_⟩
  have h1 := tupleText_len_le (PyData.shownAll (ns.map PyData.int))
  have h2 := PyData.shownAll_length (ns.map PyData.int)
  rw [List.length_map] at h2
  show (tupleText (PyData.shownAll (ns.map PyData.int))).length ≤ sizeLine
  omega
theorem res_show {c : Int} {g l : Tb} {r : Option (List Int)} (hc : c ≤ 7) (h : Res c g l r) (hl : ∀ ns, r = some ns → ns.length ≤ 1000) : ∀ ns, r = some ns → (PyData.tuple (ns.map PyData.int)).showable = true ∧ (shownT (some ns)).length ≤ sizeLine := fun ns e => by
  subst e
  exact show_ok hc h.2.1 (hl ns rfl)
section
variable {P : Program} {w : World} {K : PySem.W.Frag} {mg : Str → Option Value} {base : Heap}
theorem sqt_same {K : PySem.W.Frag} {H H' : Hp} {a : Addr} {xs : List V} (e : Same H H') (h : SqT K H a xs) : SqT K H' a xs := by
  rcases h with (h | ⟨o, h⟩) | h
  · exact .inl (.inl (e _ _ h))
  · exact .inl (.inr ⟨o, e _ _ h⟩)
  · exact .inr h
theorem opt_rd {K : PySem.W.Frag} {H : Hp} {x : V} : ∀ {r : Option (List Int)}, OptT K H x r → (match r with
  | none => x = .non
  | some ns => ∃ t, x = .ref t ∧ SqT K H t (ns.map V.int))
  | none, h => h
  | some _, h => h
theorem OptT.same {K : PySem.W.Frag} {H H' : Hp} {x : V} {r : Option (List Int)} (h : OptT K H x r) (e : Same H H') : OptT K H' x r := by
  cases r with
  | none => exact h
  | some ns =>
    obtain ⟨t, h1, h2⟩ := h
    exact ⟨t, h1, sqt_same e h2⟩
def spTold (K : PySem.W.Frag) : Sp := fun vs H Q _ => ∃ (c : Int) (B G : Addr) (due : V) (l g : Tb) (h : Str) (r : Option (List Int)), vs = [.int c, .ref B, .ref G, due] ∧ isCk c ∧ H B = some (.dK (kv l)) ∧ H G = some (.dK (kv g)) ∧ VT c 4 121 l ∧ VT c 2 3 g ∧ Ld c g h ∧ 0 < h.length ∧
  OptT K H due r ∧ Res c g l r ∧ (∀ ns, r = some ns → ns.length ≤ 1000) ∧ ∀ H', Same H H' → Q (.bl true) H'
abbrev nTold : List Str := ["_law_clock_here", "_law_bag", "_law_base_here", "_law_due", "_law_one", "_law_other", "_law_told_here"]
theorem sc_told : FnScope nTold ["_law_clock_here", "_law_bag", "_law_base_here", "_law_due"] (defScope s__law_told) := ⟨rfl, rfl, rfl, by decide +kernel, rfl, by decide +kernel, by decide +kernel⟩
theorem ok_told (T : Top K mg) : ∃ fd, FnG P w K mg base 10 (He.fAd K ("_law_told", none)) fd ["_law_clock_here", "_law_bag", "_law_base_here", "_law_due"] (spTold K) ∧ Binds K fd ["_law_clock_here", "_law_bag", "_law_base_here", "_law_due"] [] ∧ PySem.W.keepIn K (.ref (He.fAd K ("_law_told", none))) = true := by
  obtain ⟨fd, F⟩ := fn__law_told T
  refine ⟨fd, ?_, F.bindsN fun _ _ _ _ _ _ us hl => match us, hl with | [_, _, _, _], _ => rfl, F.kp⟩
  refine F.okG sc_told (fun vs H Q E h => ?_) (fun cdv A outer s H vs Q E hG hr h => ?_)
  · obtain ⟨c, B, G, due, l, g, h, r, rfl, _⟩ := h
    rfl
  · obtain ⟨c, B, G, due, l, g, h, r, rfl, hck, hB, hG', vl, vg, hld, hh, hdue, hres, hlen, q⟩ := h
    have nd := sc_told.nd
    have hs : sizeLine = 16777216 := sizeLine_eq
    obtain ⟨hc2, hc7⟩ := ck_range hck
    have hc0 : 0 < c := by omega
    have hr6 : Room 6 _ := hr.mono (by decide)
    have hr7 : Room 7 _ := hr.mono (by decide)
    have tl : Tt c l := ⟨vl.nd, vl.nu⟩
    refine ⟨_, PSs.nox (pss_cons (ps_set (i := 4) nd rfl (Or.inl rfl) (pbag T hr6 (pa_cons (pv 0) (pa_cons (pv 1) pa_nil))))
      (pss_cons (ps_set (i := 5) nd rfl (Or.inl rfl) (pbag T hr6 (pa_cons (pv 0) (pa_cons (pv 2) pa_nil))))
      (pss_cons (ps_set (i := 6) nd rfl (Or.inl rfl) (pc (ok_inp T) hr7 (pa_cons (pv 4) (pa_cons (pv 5) pa_nil))))
      (pss_cons (ps_if (PW.pt (pw_or (pt_cmpR op_ne (pe_callB (cr_repr hG hr.units) (by rfl) (f_repr T) (by decide +kernel) (pa_cons (pv 6) pa_nil)) (pe_callB (cr_repr hG hr.units) (by rfl) (f_repr T) (by decide +kernel) (pa_cons (pv 3) pa_nil)) (nomark _))
          (pw_or1 (pt_cmpR op_ne (pe_callB (cr_repr hG hr.units) (by rfl) (f_repr T) (by decide +kernel) (pa_cons (pc (ok_inp T) hr7 (pa_cons (pv 4) (pa_cons (pv 5) pa_nil))) pa_nil)) (pe_callB (cr_repr hG hr.units) (by rfl) (f_repr T) (by decide +kernel) (pa_cons (pv 3) pa_nil)) (nomark _))))) (pss_one (ps_ret pe_bl)) pss_nil)
      (pss_one (ps_ret (pe_or (pe_cmp (pc_isN (pv 6))) (pe_one (pc (ok_cp T) hr (pa_cons (pv 4) (pa_cons (pv 5) pa_nil))))))))))), ?_⟩
    refine ⟨_, rfl, _, rfl, fun b1 dx hb1 hdx ne => ?_⟩
    refine ⟨b1, B, dx, c, l, rfl, upd_same, hck, made_dict hB hb1 hdx, vl.mono (by decide) (by decide), fun H2 k2 hB2 => ⟨rfl, ?_⟩⟩
    have s2 := made_same k2 hb1 hdx
    refine ⟨_, rfl, _, rfl, fun b2 dx2 hb2 hdx2 ne2 => ?_⟩
    refine ⟨b2, G, dx2, c, g, rfl, upd_same, hck, made_dict (s2 _ _ hG') hb2 hdx2, vg.mono (by decide) (by decide), fun H3 k3 hB3 => ⟨rfl, ?_⟩⟩
    have s3 := made_same k3 hb2 hdx2
    have g1 : Bg K H3 b1 c 4 121 l := ⟨hB2.same s3, vl⟩
    have g2 : Bg K H3 b2 c 2 3 g := ⟨hB3, vg⟩
    have hl4 : ∀ x, tot l x % c ≠ 0 → x.length ≤ 4 := fun x hx => by
      obtain ⟨p, hp, rfl⟩ := tt_key hx
      exact (vl.wd p hp).2
    have hsz := hsz_short hck hld hh vg (by decide) hl4
    have s03 := s2.trans s3
    refine ⟨_, rfl, _, rfl, b1, b2, c, 4, 121, 2, 3, l, g, rfl, g1, g2, hck, ⟨h, hld, hh⟩, by decide, by decide, by decide, by decide, hsz, fun H4 x r1 s4 res1 opt1 => ?_⟩
    have e1 : r1 = r := res_uniq hck hld hh res1 hres
    subst e1
    have shw := res_show hc7 hres hlen
    refine ⟨_, rfl, x, r1, rfl, opt_rd opt1, shw, ?_⟩
    refine ⟨_, rfl, due, r1, rfl, opt_rd (hdue.same (s03.trans s4)), shw, ?_⟩
    refine ⟨rfl, _, rfl, ?_⟩
    rw [decide_eq_true rfl]
    refine ite2 (fun z => absurd z (by decide)) (fun _ => ?_)
    refine ⟨_, rfl, _, rfl, b1, b2, c, 4, 121, 2, 3, l, g, rfl, g1.same s4, g2.same s4, hck, ⟨h, hld, hh⟩, by decide, by decide, by decide, by decide, hsz, fun H5 x2 r2 s5 res2 opt2 => ?_⟩
    have e2 : r2 = r1 := res_uniq hck hld hh res2 hres
    subst e2
    refine ⟨x2, r2, rfl, opt_rd opt2, shw, ?_⟩
    refine ⟨_, rfl, due, r2, rfl, opt_rd (hdue.same (s03.trans (s4.trans s5))), shw, ?_⟩
    refine ⟨rfl, _, rfl, ?_⟩
    rw [decide_eq_true rfl]
    refine iteF ?_
    refine ⟨_, rfl, _, rfl, ?_⟩
    have sE := s03.trans (s4.trans s5)
    cases r2 with
    | none =>
      have hx : x = .non := opt1
      subst hx
      rw [decide_eq_true rfl]
      exact iteT (q _ sE)
    | some ns =>
      obtain ⟨t, rfl, _⟩ := opt1
      rw [decide_eq_false (by intro z; cases z)]
      refine iteF ?_
      have s45 := s4.trans s5
      refine ⟨_, rfl, _, rfl, b1, b2, c, 4, 121, 2, 3, l, g, rfl, g1.same s45, g2.same s45, hck, by decide, by decide, by decide, ?_, fun H6 s6 => q _ (sE.trans s6)⟩
      have h1 := hres.1
      exact (Lk.prs h1 (Lk.refl _ _)).trans ((ev_comm g ns).trans (Lk.prs_r g h1.symm))
end
end Fp

set_option Elab.async false
set_option linter.all false
set_option maxRecDepth 100000
set_option maxHeartbeats 4000000
namespace Fp
open PySem PySem.Spec PyProof.Rows L2
/-- numbers added -/
def addL (c : Int) : List Int → List Int → List Int
  | os, [] => os
  | [], _ :: _ => []
  | o :: os, n :: ns => (o + n) % c :: addL c os ns
theorem addL_len (c : Int) : ∀ os ns : List Int, (addL c os ns).length = os.length
  | [], [] => rfl
  | _ :: _, [] => rfl
  | [], _ :: _ => rfl
  | o :: os, n :: ns => by
    show (addL c os ns).length + 1 = os.length + 1
    rw [addL_len c os ns]
theorem addL_at (c : Int) : ∀ (i : Nat) (os ns : List Int), (addL c os (ns.take i))[i]? = os[i]?
  | 0, os, ns => by
    rw [List.take_zero]
    cases os <;> rfl
  | i + 1, [], [] => rfl
  | i + 1, _ :: _, [] => rfl
  | i + 1, [], _ :: _ => rfl
  | i + 1, o :: os, n :: ns => addL_at c i os ns
theorem addL_set (c : Int) : ∀ (i : Nat) (os ns : List Int) (o n : Int), os[i]? = some o → ns[i]? = some n → (addL c os (ns.take i)).set i ((o + n) % c) = addL c os (ns.take (i + 1))
  | _, _, [], _, _, _, h => by simp at h
  | _, [], _ :: _, _, _, h, _ => by simp at h
  | 0, o' :: os, n' :: ns, o, n, h1, h2 => by
    cases Option.some.inj h1
    cases Option.some.inj h2
    show (addL c (o' :: os) []).set 0 ((o' + n') % c) = (o' + n') % c :: addL c os []
    cases os <;> rfl
  | i + 1, o' :: os, n' :: ns, o, n, h1, h2 => by
    have ih := addL_set c i os ns o n h1 h2
    show ((o' + n') % c :: (addL c os (ns.take i)).set i ((o + n) % c)) = (o' + n') % c :: addL c os (ns.take (i + 1))
    rw [ih]
theorem addL_sm {c : Int} (g : Tb) : ∀ (os ns : List Int) (i : Nat), ns.length ≤ os.length → Lk c (smP g i ns ++ smP g i os) (smP g i (addL c os ns))
  | [], [], i, _ => Lk.refl _ _
  | o :: os, [], i, _ => Lk.refl _ _
  | [], _ :: _, i, h => absurd h (by simp)
  | o :: os, n :: ns, i, h => fun x => by
    have ih := addL_sm (c := c) g os ns (i + 1) (by simpa using h) x
    show tot ((scl n (pw g i) ++ smP g (i + 1) ns) ++ (scl o (pw g i) ++ smP g (i + 1) os)) x % c = tot (scl ((o + n) % c) (pw g i) ++ smP g (i + 1) (addL c os ns)) x % c
    rw [tot_app, tot_app, tot_app, tot_app, tot_scl, tot_scl, tot_scl]
    rw [tot_app] at ih
    refine mod_sub.mpr ?_
    have h1 := Int.dvd_of_emod_eq_zero (mod_sub.mp ih)
    have h2 : c ∣ (o + n) - (o + n) % c := Int.dvd_self_sub_emod
    have h3 := Int.dvd_add h1 ((show c ∣ ((o + n) - (o + n) % c) * tot (pw g i) x from Int.dvd_trans h2 (Int.dvd_mul_right _ _)))
    rw [show tot (smP g (i + 1) ns) x + tot (smP g (i + 1) os) x - tot (smP g (i + 1) (addL c os ns)) x + ((o + n) - (o + n) % c) * tot (pw g i) x = n * tot (pw g i) x + tot (smP g (i + 1) ns) x + (o * tot (pw g i) x + tot (smP g (i + 1) os) x) - ((o + n) % c * tot (pw g i) x + tot (smP g (i + 1) (addL c os ns)) x) by grind] at h3
    exact Int.emod_eq_zero_of_dvd h3
theorem rg_addL {c : Int} (hc : 0 < c) : ∀ os ns : List Int, Rg c os → Rg c (addL c os ns)
  | [], [], h => h
  | _ :: _, [], h => h
  | [], _ :: _, h => h
  | o :: os, n :: ns, h => fun k hk => by
    rcases List.mem_cons.mp hk with rfl | hk
    · exact ⟨Int.emod_nonneg _ (by omega), Int.emod_lt_of_pos _ hc⟩
    · exact rg_addL hc os ns (fun z hz => h z (List.mem_cons_of_mem _ hz)) k hk
theorem strip_len : ∀ ns : List Int, (strip ns).length ≤ ns.length
  | [] => Nat.le_refl _
  | n :: ns => by
    have ih := strip_len ns
    show (match strip ns with | [] => if n = 0 then [] else [n] | r => n :: r).length ≤ _
    cases e : strip ns with
    | nil =>
      show (if n = 0 then [] else [n]).length ≤ ns.length + 1
      split
      · exact Nat.zero_le _
      · exact Nat.succ_le_succ (Nat.zero_le _)
    | cons a r =>
      rw [e] at ih
      exact Nat.succ_le_succ ih
theorem res_sm {c : Int} {g t : Tb} {ns : List Int} (h : Lk c t (smP g 0 ns)) (r : Rg c ns) : Res c g t (some (strip ns)) := ⟨h.trans ((smP_ev g ns).trans (ev_strip g ns).symm), rg_strip _ r, nz_strip _⟩
theorem sm_words {c : Int} {h : Str} {g t : Tb} {ns : List Int} {most : Nat} (hck : isCk c) (hg : Ld c g h) (tt : Tt c t) (e : Lk c t (smP g 0 ns)) (hl : ns.length ≤ most + 1) (hm : most * h.length ≤ 4) : ∀ p ∈ t, p.1.length ≤ 4 := fun p hp => by
  have h1 := tt_at tt hp
  rw [e p.1] at h1
  obtain ⟨n, _, h2, h3⟩ := smP_key g ns 0 h1
  have h4 := pw_len hck hg h3
  have := Nat.mul_le_mul_right h.length (show n ≤ most by omega)
  omega
/-- how many numbers there can be -/
theorem res_len {c : Int} {h : Str} {g l : Tb} {m : Nat} {r : Option (List Int)} (hck : isCk c) (hg : Ld c g h) (hh : 0 < h.length) (hl : ∀ x, tot l x % c ≠ 0 → x.length ≤ m) (hr : Res c g l r) : ∀ ns, r = some ns → ns.length ≤ m + 1 := fun ns e => by
  subst e
  obtain ⟨h1, h2, h3⟩ := hr
  rcases List.eq_nil_or_concat ns with e | ⟨pre, k, e⟩
  · rw [e]
    exact Nat.zero_le _
  · subst e
    rw [List.concat_eq_append] at *
    have hk0 := h3 k (by simp)
    have hkr := h2 k (by simp)
    have h4 : Lk c l (EvT g pre [("", k)]) := by
      have : Ev g (pre ++ [k]) = EvT g pre (("", k) :: prs g []) := evT_snoc g k [] pre
      rw [this, prs_nil_r] at h1
      exact h1
    have := evT_short hck hg hh h4 hl (y := "") (by rw [num_at0, Int.emod_eq_of_lt hkr.1 hkr.2]; exact hk0)
    have h5 : pre.length * 1 ≤ pre.length * h.length := Nat.mul_le_mul_left _ hh
    rw [List.length_append]
    show pre.length + 1 ≤ m + 1
    omega
end Fp

set_option Elab.async false
set_option linter.all false
set_option maxRecDepth 100000
set_option maxHeartbeats 4000000
namespace Fp
open PySem PySem.Spec PyProof.Rows L2
/-- what stands while the law draws -/
structure SP (ca h G L : Addr) (c : Int) (g : Tb) (ds : List Addr) (H0 H : Hp) : Prop where
  hh : HandAt ca H h
  k : But h H0 H
  eG : H G = some (.dK (kv g))
  eL : H L = some (.lst (ds.map V.ref))
  pw : PwAt H c g ds
  nL : L ≠ h
  nd : ∀ d ∈ ds, d ≠ h
theorem SP.same {ca h G L : Addr} {c : Int} {g : Tb} {ds : List Addr} {H0 H H' : Hp} (z : SP ca h G L c g ds H0 H) (e : Same H H') : SP ca h G L c g ds H0 H' :=
  ⟨z.hh.same e, fun b o q n => e _ _ (z.k b o q n), e _ _ z.eG, e _ _ z.eL, z.pw.same e, z.nL, z.nd⟩
theorem SP.but {ca h G L : Addr} {c : Int} {g : Tb} {ds : List Addr} {H0 H H' : Hp} (z : SP ca h G L c g ds H0 H) (hh : HandAt ca H' h) (e : But h H H') : SP ca h G L c g ds H0 H' :=
  ⟨hh, fun b o q n => e _ _ (z.k b o q n) n, e _ _ z.eG (z.hh.neD z.eG), e _ _ z.eL z.nL, fun i d hd => by
    obtain ⟨t, h1, h2⟩ := z.pw i d hd
    exact ⟨t, e _ _ h1 (z.nd d (List.mem_of_getElem? hd)), h2⟩, z.nL, z.nd⟩
theorem vt4 {c : Int} {h : Str} {g t : Tb} {ns : List Int} {most m k : Nat} (hck : isCk c) (hg : Ld c g h) (v : VT c m k t) (e : Lk c t (smP g 0 ns)) (hl : ns.length ≤ most + 1) (hm : most * h.length ≤ 4) : VT c 4 121 t := by
  have := vt_few (n := 4) ⟨v.nd, v.nu⟩ fun p hp => ⟨(v.wd p hp).1, sm_words hck hg ⟨v.nd, v.nu⟩ e hl hm p hp⟩
  rwa [all4] at this
section
variable {P : Program} {w : World} {K : PySem.W.Frag} {mg : Str → Option Value} {base : Heap}
/-- the law's own test, called -/
theorem pc_told {X : Cx} {p pos : Pos} {e1 e2 e3 e4 : Expr} {t : TA} (T : Top X.K X.mg) (hG : Gd X.A) (hr : Room 10 X.A) (ha : PA X [e1, e2, e3, e4] t) (hg : Gl X "_law_told" := by rfl)
    (he : starEach [e1, e2, e3, e4] X.env = (false, eval e1 X.env) :: starEach [e2, e3, e4] X.env := by rfl) (hpl : (backTo pos (starEach [e2, e3, e4] X.env)).any (·.1) = false := by rfl) : PE X (.Call (.Name "_law_told" p) [e1, e2, e3, e4] [] pos) (tCall (spTold X.K) [] E0 t) := by
  obtain ⟨fd, F, b, k⟩ := ok_told (P := X.prog) (w := X.w) (base := X.base) T
  exact pe_callG F hG hr hg (g__law_told T) k b ha (by decide) he hpl
def spSums : Sp := fun vs H Q _ => ∃ (h ca G : Addr) (c : Int) (g : Tb) (u : Str), vs = [.ref h, .int c, .ref G] ∧ HandAt ca H h ∧ isCk c ∧ H G = some (.dK (kv g)) ∧ VT c 2 3 g ∧ Ld c g u ∧ 0 < u.length ∧
  ∀ H', HandAt ca H' h → But h H H' → Q (.bl true) H'
abbrev nSums : List Str := ["_law_hand_here", "_law_clock_here", "_law_base_here", "_law_powers_here", "_law_most", "_law_numbers", "_law_others", "_law_one", "_law_other", "_law_both", "_law_at", "_law_told_here", "_law_more", "_law_number"]
theorem sc_sums : FnScope nSums ["_law_hand_here", "_law_clock_here", "_law_base_here"] (defScope s__law_sums) := ⟨rfl, rfl, rfl, by decide +kernel, rfl, by decide +kernel, by decide +kernel⟩
theorem ok_sums (T : Top K mg) : ∃ fd, FnG P w K mg base 11 (He.fAd K ("_law_sums", none)) fd ["_law_hand_here", "_law_clock_here", "_law_base_here"] spSums ∧ Binds K fd ["_law_hand_here", "_law_clock_here", "_law_base_here"] [] ∧ PySem.W.keepIn K (.ref (He.fAd K ("_law_sums", none))) = true := by
  obtain ⟨fd, F⟩ := fn__law_sums T
  refine ⟨fd, ?_, F.bindsN fun _ _ _ _ _ _ us hl => match us, hl with | [_, _, _], _ => rfl, F.kp⟩
  refine F.okG sc_sums (fun vs H Q E h => ?_) (fun cdv A outer s H vs Q E hG hr h => ?_)
  · obtain ⟨h, ca, G, c, g, u, rfl, _⟩ := h
    rfl
  · obtain ⟨h, ca, G, c, g, u, rfl, hh, hck, eG, vg, hld, hu0, q⟩ := h
    have nd := sc_sums.nd
    have hu := hu_of hr
    have hs : sizeLine = 16777216 := sizeLine_eq
    obtain ⟨hc2, hc7⟩ := ck_range hck
    have hc0 : 0 < c := by omega
    have hr1 : Room 1 _ := hr.mono (by decide)
    have hr2 : Room 2 _ := hr.mono (by decide)
    have hr3 : Room 3 _ := hr.mono (by decide)
    have hr4 : Room 4 _ := hr.mono (by decide)
    have hr6 : Room 6 _ := hr.mono (by decide)
    have hr7 : Room 7 _ := hr.mono (by decide)
    have hr8 : Room 8 _ := hr.mono (by decide)
    have tg : Tt c g := ⟨vg.nd, vg.nu⟩
    refine ⟨_, PSs.nox (pss_cons (ps_set (i := 3) nd rfl (Or.inl rfl) (pc (ok_pws T) hr3 (pa_cons (pv 1) (pa_cons (pv 2) (pa_cons pe_int pa_nil)))))
      (pss_cons (ps_set (i := 4) nd rfl (Or.inl rfl) (pe_op op_sub pe_int (pe_op op_mul (pe_op op_fdiv (pc (ok_lsize T) hr1 (pa_cons (pv 2) pa_nil)) pe_int) pe_int)))
      (pss_cons (ps_setLc (i := 5) (own := [("_law_at", 10)]) (g := gName 10) (tt := tYes) (te := tCall spDraw [] E0 (tCons (tVar 0) (tCons (tVar 1) tNil))) (by rfl) nd rfl rfl (sw_true rfl rfl rfl (by decide +kernel)) (pi_range1 (by rfl) (f_range T) (pa_cons (pc (ok_draw T) hr1 (pa_cons (pv 0) (pa_cons (pe_op op_add (pv 4) pe_int) pa_nil))) pa_nil)) (blkOk_by (N := nSums) (sc := defScope s__law_sums) (by decide +kernel))
        (fun _ _ _ _ _ => pg_name (i := 10) nd rfl (Or.inl rfl)) (fun _ _ _ _ _ => pts_nil) (fun _ _ _ _ _ => by exact pc (t := tCons (tVar 0) (tCons (tVar 1) tNil)) (ok_draw T) hr1 (pa_cons (pv 0) (pa_cons (pv 1) pa_nil))))
      (pss_cons (ps_setLc (i := 6) (own := [("_law_at", 10)]) (g := gName 10) (tt := tYes) (te := tCall spDraw [] E0 (tCons (tVar 0) (tCons (tVar 1) tNil))) (by rfl) nd rfl rfl (sw_true rfl rfl rfl (by decide +kernel)) (pi_range1 (by rfl) (f_range T) (pa_cons (pe_op op_add (pv 4) pe_int) pa_nil)) (blkOk_by (N := nSums) (sc := defScope s__law_sums) (by decide +kernel))
        (fun _ _ _ _ _ => pg_name (i := 10) nd rfl (Or.inl rfl)) (fun _ _ _ _ _ => pts_nil) (fun _ _ _ _ _ => by exact pc (t := tCons (tVar 0) (tCons (tVar 1) tNil)) (ok_draw T) hr1 (pa_cons (pv 0) (pa_cons (pv 1) pa_nil))))
      (pss_cons (ps_set (i := 7) nd rfl (Or.inl rfl) (pc (ok_sumOf T) hr3 (pa_cons (pv 1) (pa_cons (pv 3) (pa_cons (pv 5) pa_nil)))))
      (pss_cons (ps_set (i := 8) nd rfl (Or.inl rfl) (pc (ok_sumOf T) hr3 (pa_cons (pv 1) (pa_cons (pv 3) (pa_cons (pv 6) pa_nil)))))
      (pss_cons (ps_if (PW.pt (pw_or (pt_not (pt_val (pc_told T hG hr (pa_cons (pv 1) (pa_cons (pv 7) (pa_cons (pv 2) (pa_cons (pc (ok_short T) hr1 (pa_cons (pv 5) pa_nil)) pa_nil)))))))
          (pw_or1 (pt_not (pt_val (pc_told T hG hr (pa_cons (pv 1) (pa_cons (pv 8) (pa_cons (pv 2) (pa_cons (pc (ok_short T) hr1 (pa_cons (pv 6) pa_nil)) pa_nil)))))))))) (pss_one (ps_ret pe_bl)) pss_nil)
      (pss_cons (ps_setLc (i := 9) (own := [("_law_number", 13)]) (g := gName 13) (tt := tYes) (te := tCB (fun xs H Q => (∃ i, xs = [.int i] ∧ Q (.int i) H) ∨ ∃ k, xs = [.bl k] ∧ Q (.int (if k then 1 else 0)) H) (tCons (tVar 13) tNil)) (by rfl) nd rfl rfl (sw_true rfl rfl rfl (by decide +kernel)) (pi_list (pv 6)) (blkOk_by (N := nSums) (sc := defScope s__law_sums) (by decide +kernel))
        (fun _ _ _ _ _ => pg_name (i := 13) nd rfl (Or.inl rfl)) (fun _ _ _ _ _ => pts_nil) (fun _ _ _ _ _ => by exact pe_callTy call_int1 (by rfl) (f_int T) boot_int (pa_cons (pv 13) pa_nil)))
      (pss_cons (ps_for PassesOwn.never rfl (pi_range1 (by rfl) (f_range T) (pa_cons (pe_callB call_len (by rfl) (f_len T) PySem.boot_len (pa_cons (pv 5) pa_nil)) pa_nil)) (pg_name (i := 10) nd rfl (Or.inl rfl))
        (pss_one (ps_if (pt_cmpR op_lt (pv 10) (pe_callB call_len (by rfl) (f_len T) PySem.boot_len (pa_cons (pv 9) pa_nil)) (nomark _))
          (pss_one (ps_asg (pe_op op_mod (pe_callTy call_int1 (by rfl) (f_int T) boot_int (pa_cons (pe_op op_add (pe_ix ix_list (pv 9) (pv 10) (fun _ _ => rfl)) (pe_ix ix_list (pv 5) (pv 10) (fun _ _ => rfl))) pa_nil)) (pv 1)) (pg_sub (pv 9) (pv 10) set_list))) pss_nil)))
      (pss_cons (ps_set (i := 11) nd rfl (Or.inl rfl) (pc (ok_inp T) hr7 (pa_cons (pcL (ok_together T) hr8 (pa_cons (pbag T hr6 (pa_cons (pv 1) (pa_cons (pv 7) pa_nil))) (pa_cons (pbag T hr6 (pa_cons (pv 1) (pa_cons (pv 8) pa_nil))) pa_nil))) (pa_cons (pbag T hr6 (pa_cons (pv 1) (pa_cons (pv 2) pa_nil))) pa_nil))))
      (pss_cons (ps_if (PW.pt (pw_and (pt_cmpR op_le (pe_callB call_len (by rfl) (f_len T) PySem.boot_len (pa_cons (pv 5) pa_nil)) (pe_callB call_len (by rfl) (f_len T) PySem.boot_len (pa_cons (pv 9) pa_nil)) (nomark _))
          (pw_and1 (pt_cmpR op_ne (pe_callB (cr_repr hG hr.units) (by rfl) (f_repr T) (by decide +kernel) (pa_cons (pv 11) pa_nil)) (pe_callB (cr_repr hG hr.units) (by rfl) (f_repr T) (by decide +kernel) (pa_cons (pc (ok_short T) hr1 (pa_cons (pv 9) pa_nil)) pa_nil)) (nomark _))))) (pss_one (ps_ret pe_bl)) pss_nil)
      (pss_cons (ps_set (i := 12) nd rfl (Or.inl rfl) (pc (ok_plus T) hr2 (pa_cons (pv 1) (pa_cons (pv 7) (pa_cons (pe_disp (pps_cons (pc (ok_wrd T) hr3 (pa_cons (pv 0) (pa_cons pe_str (pa_cons pe_int pa_nil)))) pe_int pps_nil) (by rfl) (by rfl) (fun z => by cases z) (by decide)) (pa_cons (pe_op op_add pe_int (pc (ok_draw T) hr1 (pa_cons (pv 0) (pa_cons (pe_op op_sub (pv 1) pe_int) pa_nil)))) pa_nil))))))
      (pss_one (ps_ret (pc_told T hG hr (pa_cons (pv 1) (pa_cons (pv 12) (pa_cons (pv 2) (pa_cons (pc (ok_taken T) hr4 (pa_cons (pv 1) (pa_cons (pv 12) (pa_cons (pv 2) pa_nil)))) pa_nil))))))))))))))))))), ?_⟩
    refine ⟨_, rfl, _, rfl, c, G, 4, g, rfl, hc2, hc7, by decide, eG, vg, fun H1 L ds s1 nL eL dl hpw hdn => ?_⟩
    obtain ⟨hx0, ehx⟩ := hh.lst
    have nLh : L ≠ h := fun z => by
      rw [z, ehx] at nL
      cases nL
    have Z0 : SP ca h G L c g ds H H1 := ⟨hh.same s1, But.of s1, s1 _ _ eG, eL, hpw, nLh, fun d hd z => by
      have := hdn d hd
      rw [z, ehx] at this
      cases this⟩
    clear hpw hdn eL s1 ehx
    refine ⟨_, rfl, G, g, rfl, Z0.eG, fun p hp => Nat.le_trans (vg.wd p hp).2 (by decide), Nat.le_trans vg.ln (by decide), fun H2 m s2 lg => ?_⟩
    obtain rfl := long_base tg hld lg
    replace Z0 := Z0.same s2
    have hu2 : u.length ≤ 2 := by
      obtain ⟨p, hp, e⟩ := tt_key hld.ne
      rw [← e]
      exact (vg.wd p hp).2
    obtain ⟨most, em, hmu, hm4⟩ : ∃ most : Nat, (4 : Int) - (u.length : Int) / 2 * 2 = most ∧ most * u.length ≤ 4 ∧ most ≤ 4 := by
      have : u.length = 1 ∨ u.length = 2 := by omega
      rcases this with e | e
      · exact ⟨4, by rw [e]; decide, by rw [e]; decide, by decide⟩
      · exact ⟨2, by rw [e]; decide, by rw [e]; decide, by decide⟩
    refine ⟨_, _, rfl, rfl, ⟨by decide, by decide⟩, _, _, rfl, rfl, .inl ⟨by omega, by omega⟩, _, _, rfl, rfl, ?_⟩
    dsimp only
    rw [em]
    refine ⟨_, rfl, _, rfl, _, _, rfl, rfl, h, ca, (most : Int) + 2, rfl, by omega, by omega, Z0.hh, fun r1 H3 hr0 hr2' hh3 k3 => ?_⟩
    replace Z0 := Z0.but hh3 k3
    refine ⟨r1, rfl, by omega, by omega, fun N nN => ?_⟩
    refine lc_it walk_range (fun i H' => (∃ ns : List Int, H' N = some (.lst (ns.map V.int)) ∧ ns.length = i ∧ Rg c ns) ∧ HandAt ca H' h ∧ But h H3 H')
      ⟨⟨[], upd_same, rfl, fun k hk => by cases hk⟩, Z0.hh.same (same_upd nN), But.of (same_upd nN)⟩ (fun _ _ _ _ => trivial) ?_ ?_
    · rintro i x Ha Hb hi ⟨⟨ns, p1, p2, p3⟩, p4, p5⟩ ⟨rfl, rfl⟩
      have nhN : N ≠ h := fun z => by
        obtain ⟨xs, hx⟩ := Z0.hh.lst
        rw [z, hx] at nN
        cases nN
      have ncN : N ≠ ca := fun z => by
        obtain ⟨xs, hx⟩ := Z0.hh.cells
        rw [z, hx] at nN
        cases nN
      refine ⟨rfl, _, rfl, _, rfl, h, ca, c, rfl, hc0, by omega, p4, fun r2 Hc g0 g1 hhc kc => ?_⟩
      refine ⟨_, kc _ _ p1 nhN, by rw [List.length_map]; omega, ⟨ns ++ [r2], ?_, by rw [List.length_append, p2]; rfl, fun k hk => ?_⟩, hhc.off (d := N) but_upd nhN.symm ncN.symm, fun b o z n => ?_⟩
      · rw [upd_same, List.map_append]
        rfl
      · rcases List.mem_append.mp hk with hk | hk
        · exact p3 k hk
        · rw [List.mem_singleton.mp hk]
          exact ⟨g0, g1⟩
      · rw [upd_ne (ne_of_none z nN)]
        exact kc _ _ (p5 _ _ z n) n
    rintro H4 ⟨⟨ns, eN, hnl, rN⟩, hh4, k4⟩
    have nNh : N ≠ h := fun z => by
      obtain ⟨xs, hx⟩ := Z0.hh.lst
      rw [z, hx] at nN
      cases nN
    replace Z0 := Z0.but hh4 k4
    refine ⟨_, rfl, _, _, rfl, rfl, (most : Int) + 1, rfl, by omega, by omega, fun O nO => ?_⟩
    refine lc_it walk_range (fun i H' => (∃ ns : List Int, H' O = some (.lst (ns.map V.int)) ∧ ns.length = i ∧ Rg c ns) ∧ HandAt ca H' h ∧ But h H4 H')
      ⟨⟨[], upd_same, rfl, fun k hk => by cases hk⟩, Z0.hh.same (same_upd nO), But.of (same_upd nO)⟩ (fun _ _ _ _ => trivial) ?_ ?_
    · rintro i x Ha Hb hi ⟨⟨ns, p1, p2, p3⟩, p4, p5⟩ ⟨rfl, rfl⟩
      have nhN : O ≠ h := fun z => by
        obtain ⟨xs, hx⟩ := Z0.hh.lst
        rw [z, hx] at nO
        cases nO
      have ncN : O ≠ ca := fun z => by
        obtain ⟨xs, hx⟩ := Z0.hh.cells
        rw [z, hx] at nO
        cases nO
      refine ⟨rfl, _, rfl, _, rfl, h, ca, c, rfl, hc0, by omega, p4, fun r2 Hc g0 g1 hhc kc => ?_⟩
      refine ⟨_, kc _ _ p1 nhN, by rw [List.length_map]; omega, ⟨ns ++ [r2], ?_, by rw [List.length_append, p2]; rfl, fun k hk => ?_⟩, hhc.off (d := O) but_upd nhN.symm ncN.symm, fun b o z n => ?_⟩
      · rw [upd_same, List.map_append]
        rfl
      · rcases List.mem_append.mp hk with hk | hk
        · exact p3 k hk
        · rw [List.mem_singleton.mp hk]
          exact ⟨g0, g1⟩
      · rw [upd_ne (ne_of_none z nO)]
        exact kc _ _ (p5 _ _ z n) n
    rintro H5 ⟨⟨os, eO, hol0, rO⟩, hh5, k5⟩
    replace eN := k5 _ _ eN nNh
    replace Z0 := Z0.but hh5 k5
    have hml : ns.length ≤ most + 1 := by omega
    have hol : os.length = most + 1 := by omega
    refine ⟨_, rfl, _, rfl, _, rfl, c, L, N, g, ds, ns, rfl, hc2, hc7, Z0.eL, eN, by omega, by omega, Z0.pw, fun H7 d1 t1 s7 n7 e1 v1 _ lk1 => ?_⟩
    replace Z0 := Z0.same s7
    replace eN := s7 _ _ eN
    replace eO := s7 _ _ eO
    refine ⟨_, rfl, _, rfl, _, rfl, c, L, O, g, ds, os, rfl, hc2, hc7, Z0.eL, eO, by omega, by omega, Z0.pw, fun H8 d2 t2 s8 n8 e2 v2 _ lk2 => ?_⟩
    replace Z0 := Z0.same s8
    replace eN := s8 _ _ eN
    replace eO := s8 _ _ eO
    replace e1 := s8 _ _ e1
    replace v1 := vt4 hck hld v1 lk1 hml hmu
    replace v2 := vt4 hck hld v2 lk2 (by omega) hmu
    -- told
    refine ⟨_, rfl, _, rfl, _, rfl, _, rfl, N, ns, rfl, eN, by omega, fun H9 ta s9 na sq1 => ?_⟩
    have lenS : ∀ ks : List Int, ks.length ≤ 1000 → ∀ zs, some (strip ks) = some zs → zs.length ≤ 1000 := fun ks hk zs e => by
      cases Option.some.inj e
      exact Nat.le_trans (strip_len ks) hk
    replace Z0 := Z0.same s9
    refine ⟨c, d1, G, .ref ta, t1, g, u, some (strip ns), rfl, hck, s9 _ _ e1, Z0.eG, v1, vg, hld, hu0, ⟨ta, rfl, sq1⟩, res_sm lk1 rN, lenS ns (by omega), fun H10 s10 => ⟨true, rfl, iteF ?_⟩⟩
    have s90 := s9.trans s10
    replace Z0 := Z0.same s10
    replace eN := s90 _ _ eN
    replace eO := s90 _ _ eO
    replace e1 := s90 _ _ e1
    replace e2 := s90 _ _ e2
    refine ⟨_, rfl, _, rfl, _, rfl, _, rfl, O, os, rfl, eO, by omega, fun H11 tb s11 nb sq2 => ?_⟩
    replace Z0 := Z0.same s11
    refine ⟨c, d2, G, .ref tb, t2, g, u, some (strip os), rfl, hck, s11 _ _ e2, Z0.eG, v2, vg, hld, hu0, ⟨tb, rfl, sq2⟩, res_sm lk2 rO, lenS os (by omega), fun H12 s12 => ⟨true, rfl, iteF ?_⟩⟩
    have s112 := s11.trans s12
    replace Z0 := Z0.same s12
    replace eN := s112 _ _ eN
    replace eO := s112 _ _ eO
    replace e1 := s112 _ _ e1
    replace e2 := s112 _ _ e2
    -- both
    refine ⟨_, rfl, O, rfl, ⟨_, SqL.of eO⟩, fun B nB => ?_⟩
    have nNB : N ≠ B := ne_of_none eN nB
    refine lc_it (walk_list (xs := os.map V.int)) (fun i H' => H' B = some (.lst ((os.take i).map V.int)) ∧ Same H12 H') ⟨upd_same, same_upd nB⟩ (fun i H' _ hP => SqL.of (hP.2 _ _ eO)) ?_ ?_
    · rintro i x Ha Hb hi ⟨p1, p2⟩ ⟨rfl, hx⟩
      rw [List.length_map] at hi
      have hx' : x = .int os[i] := by
        rw [List.getElem?_map, List.getElem?_eq_getElem hi] at hx
        exact (Option.some.inj hx).symm
      subst hx'
      refine ⟨rfl, _, rfl, .inl ⟨_, rfl, _, p1, by rw [List.length_map, List.length_take]; omega, ?_, fun a o z => ?_⟩⟩
      · rw [upd_same, List.take_add_one, List.getElem?_eq_getElem hi, List.map_append]
        rfl
      · rw [upd_ne (ne_of_none z nB)]
        exact p2 _ _ z
    rintro H13 ⟨eB, s13⟩
    rw [List.length_map, List.take_length] at eB
    -- the numbers added
    refine ⟨_, rfl, .ref N, ns.length, rfl, .inl ⟨_, SqL.of (s13 _ _ eN), by rw [List.length_map]⟩, (ns.length : Int), rfl, by omega, by omega, ?_⟩
    refine for_it walk_range (fun i σ H' => ∃ v10 : Option V, σ = [some (.ref h), some (.int c), some (.ref G), some (.ref L), some (.int most), some (.ref N), some (.ref O), some (.ref d1), some (.ref d2), some (.ref B), v10, none, none, none] ∧ H' B = some (.lst ((addL c os (ns.take i)).map V.int)) ∧ But B H13 H')
      ⟨none, rfl, by rw [List.take_zero]; cases os <;> exact eB, But.refl _ _⟩ (fun _ _ _ _ _ => trivial) ?_ ?_
    · rintro i x σ Ha Hb hi ⟨v10, rfl, p1, p2⟩ ⟨rfl, hx⟩
      obtain rfl : x = V.int (i : Int) := hx.trans (congrArg V.int (by omega))
      clear hx
      have hi' : i < ns.length := hi
      have eNa := p2 _ _ (s13 _ _ eN) nNB
      obtain ⟨o, eo⟩ : ∃ o, os[i]? = some o := ⟨os[i]'(by omega), List.getElem?_eq_getElem _⟩
      obtain ⟨n, en⟩ : ∃ n, ns[i]? = some n := ⟨ns[i], List.getElem?_eq_getElem _⟩
      have ea : ((addL c os (ns.take i)).map V.int)[i]? = some (.int o) := by rw [List.getElem?_map, addL_at, eo]; rfl
      have eb : (ns.map V.int)[i]? = some (.int n) := by rw [List.getElem?_map, en]; rfl
      have hal := addL_len c os (ns.take i)
      refine ⟨_, rfl, _, rfl, .ref B, os.length, rfl, .inl ⟨_, SqL.of p1, by rw [List.length_map, hal]⟩, _, _, rfl, rfl, _, rfl, ?_⟩
      rw [decide_eq_true (show (i : Int) < (os.length : Int) by omega)]
      refine iteT ?_
      refine ⟨_, rfl, _, rfl, B, _, _, _, rfl, rfl, SqL.of p1, atI_nat ea, ?_⟩
      refine ⟨_, rfl, _, rfl, N, _, _, _, rfl, rfl, SqL.of eNa, atI_nat eb, _, _, rfl, rfl, ?_⟩
      refine .inl ⟨_, rfl, _, rfl, _, _, rfl, rfl, hc0, ?_⟩
      refine ⟨_, rfl, _, rfl, B, _, _, i, rfl, rfl, p1, ?_, ?_⟩
      · unfold ixN
        rw [if_pos (by omega), if_pos (by rw [List.length_map, hal]; omega)]
        simp
      · refine ⟨_, rfl, ?_, p2.trans but_upd⟩
        rw [upd_same, ← addL_set c i os ns o n eo en, List.map_set]
    rintro σ H14 ⟨v10, rfl, p1, k14⟩
    have hnl' : ((ns.length : Int)).toNat = ns.length := rfl
    rw [hnl', List.take_length] at p1
    have s14 : Same H12 H14 := fun a o z => k14 _ _ (s13 _ _ z) (ne_of_none z nB)
    replace Z0 := Z0.same s14
    replace eN := s14 _ _ eN
    replace e1 := s14 _ _ e1
    replace e2 := s14 _ _ e2
    clear s13 k14 s14 nB
    -- together
    refine ⟨_, rfl, _, rfl, fun b1 dx1 hb1 hdx1 ne1 => ?_⟩
    refine ⟨b1, d1, dx1, c, t1, rfl, upd_same, hck, made_dict e1 hb1 hdx1, v1.mono (by decide) (by decide), fun H15 k15 hB1 => ⟨rfl, ?_⟩⟩
    have s15 := made_same k15 hb1 hdx1
    refine ⟨_, rfl, _, rfl, fun b2 dx2 hb2 hdx2 ne2 => ?_⟩
    refine ⟨b2, d2, dx2, c, t2, rfl, upd_same, hck, made_dict (s15 _ _ e2) hb2 hdx2, v2.mono (by decide) (by decide), fun H16 k16 hB2 => ⟨rfl, ?_⟩⟩
    have s16 := made_same k16 hb2 hdx2
    refine ⟨b1, b2, c, c, 4, 121, 4, 121, t1, t2, rfl, ⟨hB1.same s16, v1⟩, ⟨hB2, v2⟩, hck, by decide, by decide, by decide, fun _ H17 r t s17 _ gT lkT => ?_, fun z => absurd rfl z⟩
    have s147 := s15.trans (s16.trans s17)
    refine ⟨_, rfl, _, rfl, fun b3 dx3 hb3 hdx3 ne3 => ?_⟩
    refine ⟨b3, G, dx3, c, g, rfl, upd_same, hck, made_dict (s147 _ _ Z0.eG) hb3 hdx3, vg.mono (by decide) (by decide), fun H18 k18 hB3 => ⟨rfl, ?_⟩⟩
    have s18 := made_same k18 hb3 hdx3
    have hl4 : ∀ x, tot t x % c ≠ 0 → x.length ≤ 4 := fun x hx => by
      obtain ⟨p, hp, rfl⟩ := tt_key (T := t) hx
      exact (gT.2.wd p hp).2
    refine ⟨r, b3, c, max 4 4, 121 + 121, 2, 3, t, g, rfl, gT.same s18, ⟨hB3, vg⟩, hck, ⟨u, hld, hu0⟩, by decide, by decide, by decide, by decide, hsz_short hck hld hu0 vg (by decide) hl4, fun H19 x r1 s19 res1 opt1 => ?_⟩
    have sA := s147.trans (s18.trans s19)
    replace Z0 := Z0.same sA
    replace eN := sA _ _ eN
    replace e1 := sA _ _ e1
    replace p1 := sA _ _ p1
    have rB := rg_addL hc0 os ns rO
    have resB : Res c g t (some (strip (addL c os ns))) := res_sm (lkT.trans ((Lk.app lk1 lk2).trans (addL_sm g os ns 0 (by omega)))) rB
    have er : r1 = some (strip (addL c os ns)) := res_uniq hck hld hu0 res1 resB
    subst er
    have hbl := addL_len c os ns
    have shw := res_show hc7 resB (lenS (addL c os ns) (by omega))
    refine ⟨_, rfl, .ref N, ns.length, rfl, .inl ⟨_, SqL.of eN, by rw [List.length_map]⟩, _, rfl, .ref B, os.length, rfl, .inl ⟨_, SqL.of p1, by rw [List.length_map, hbl]⟩, _, _, rfl, rfl, _, rfl, ?_⟩
    rw [decide_eq_true (show (ns.length : Int) ≤ (os.length : Int) by omega)]
    refine iteT ?_
    refine ⟨_, rfl, x, _, rfl, opt_rd opt1, shw, ?_⟩
    refine ⟨_, rfl, B, addL c os ns, rfl, p1, by omega, fun H20 tc s20 nc sq3 => ?_⟩
    refine ⟨.ref tc, some (strip (addL c os ns)), rfl, ⟨tc, rfl, sq3⟩, shw, ?_⟩
    refine ⟨rfl, _, rfl, ?_⟩
    rw [decide_eq_true rfl]
    refine iteF ?_
    replace Z0 := Z0.same s20
    replace e1 := s20 _ _ e1
    -- a word more
    refine ⟨_, rfl, _, rfl, fun D nD => ?_⟩
    have sD := same_upd (o := .dK []) nD
    have eD : (upd H20 D (.dK [])) D = some (.dK []) := upd_same
    have nDh : D ≠ h := fun z => by
      obtain ⟨xs, hx⟩ := Z0.hh.lst
      rw [z, hx] at nD
      cases nD
    have nDc : D ≠ ca := fun z => by
      obtain ⟨xs, hx⟩ := Z0.hh.cells
      rw [z, hx] at nD
      cases nD
    refine ⟨_, rfl, h, ca, "xy", 4, rfl, Z0.hh.same sD, by decide, by decide, by decide, by decide, fun H21 wd hh21 k21 xw lw => ?_⟩
    refine ⟨k21 _ _ eD nDh, kv [(wd, 1)], rfl, Nat.le_of_ble_eq_true rfl, ?_⟩
    have vW : VT c 4 1 [(wd, (1 : Int))] := ⟨by show [wd].Nodup; simp, fun p hp => by rw [List.mem_singleton.mp hp]; exact ⟨Int.le_refl 1, by show (1 : Int) < c; omega⟩, fun p hp => by rw [List.mem_singleton.mp hp]; exact ⟨xw, lw⟩, Nat.le_refl _⟩
    rw [merge_kv vW.nd]
    have k22 : But h H20 (upd H21 D (.dK (kv [(wd, 1)]))) := fun a o z n => by
      rw [upd_ne (ne_of_none z nD)]
      exact k21 _ _ (sD _ _ z) n
    have hh22 : HandAt ca (upd H21 D (.dK (kv [(wd, 1)]))) h := hh21.off but_upd nDh.symm nDc.symm
    have eD22 : (upd H21 D (.dK (kv [(wd, 1)]))) D = some (.dK (kv [(wd, 1)])) := upd_same
    replace e1 := k22 _ _ e1 (Z0.hh.neD e1)
    replace Z0 := Z0.but hh22 k22
    generalize upd H21 D (.dK (kv [(wd, 1)])) = H22 at Z0 e1 eD22 ⊢
    refine ⟨_, rfl, _, rfl, _, _, rfl, rfl, h, ca, c - 1, rfl, by omega, by omega, Z0.hh, fun r2 H23 g0 g1 hh23 k23 => ⟨_, _, rfl, rfl, ?_⟩⟩
    replace e1 := k23 _ _ e1 (Z0.hh.neD e1)
    replace eD22 := k23 _ _ eD22 nDh
    replace Z0 := Z0.but hh23 k23
    refine ⟨c, d1, D, 1 + r2, t1, [(wd, 1)], rfl, hc0, hc7, e1, eD22, vW.nd, vW.nu, by have := v1.ln; omega, (by show 1 ≤ 100000; decide), fun H24 M s24 nM eM => ?_⟩
    have vM0 := vt_plusM hc0 v1 vW (1 + r2)
    have vM : VT c 4 121 (plusM c t1 [(wd, 1)] (1 + r2)) := by
      have := vt_few (n := 4) (T := plusM c t1 [(wd, 1)] (1 + r2)) ⟨vM0.nd, vM0.nu⟩ vM0.wd
      rwa [all4] at this
    generalize plusM c t1 [(wd, 1)] (1 + r2) = tm at eM vM
    clear vM0
    replace Z0 := Z0.same s24
    refine ⟨_, rfl, _, rfl, _, rfl, _, rfl, _, rfl, _, rfl, c, M, G, tm, g, u, rfl, hck, eM, Z0.eG, vM.mono (by decide) (by decide), vg, hld, hu0, fun H25 x r s25 res opt => ?_⟩
    replace Z0 := Z0.same s25
    have hl4m : ∀ x, tot tm x % c ≠ 0 → x.length ≤ 4 := fun x hx => by
      obtain ⟨p, hp, rfl⟩ := tt_key (T := tm) hx
      exact (vM.wd p hp).2
    refine ⟨c, M, G, x, tm, g, u, r, rfl, hck, s25 _ _ eM, Z0.eG, vM, vg, hld, hu0, opt, res, fun zs e => Nat.le_trans (res_len hck hld hu0 hl4m res zs e) (by decide), fun H26 s26 => ?_⟩
    exact q H26 (Z0.same s26).hh (Z0.same s26).k
end
end Fp

set_option Elab.async false
set_option linter.all false
set_option maxRecDepth 100000
set_option maxHeartbeats 4000000
namespace Fp
open PySem PySem.Spec PyProof.Rows L2
/-- where a sum of powers leads -/
theorem rep_lead {c : Int} {h w : Str} {g l : Tb} (hck : isCk c) (hg : Ld c g h) (hh : 0 < h.length) (hl : Ld c l w) (hr : Rep c g l) : ∃ j : Nat, w.length = j * h.length := by
  have hc0 : 0 < c := by have := ck_range hck; omega
  obtain ⟨zs, hz⟩ := hr
  obtain ⟨ns, h1, h2, h3⟩ := rep_norm hc0 g zs
  have h4 := hz.trans h1
  rcases List.eq_nil_or_concat ns with e | ⟨pre, k, e⟩
  · exfalso
    subst e
    have := hl.ne
    rw [h4 w] at this
    exact this (Int.zero_emod c)
  · subst e
    rw [List.concat_eq_append] at *
    have hk0 := h3 k (by simp)
    have hkr := h2 k (by simp)
    have e1 : Ev g (pre ++ [k]) = EvT g pre (("", k) :: prs g []) := evT_snoc g k [] pre
    rw [e1, prs_nil_r] at h4
    have hk : Ld c [(("" : Str), k)] "" := ⟨by rw [num_at0, Int.emod_eq_of_lt hkr.1 hkr.2]; exact hk0, fun x hx => by
      by_cases e : x = ""
      · rw [e]
        exact leR_self _
      · rw [num_at e, Int.zero_emod] at hx
        exact absurd rfl hx⟩
    obtain ⟨u, h5, h6⟩ := ld_evT hck hg hh hk pre
    have e2 := hl.uniq (h6.lk h4.symm)
    refine ⟨pre.length, ?_⟩
    rw [e2, h5]
    rfl
theorem ev_adds {c : Int} (g : Tb) (k : Int) : ∀ (b : List Int) (i : Nat) (a : List Int), ∃ zs, Lk c (Ev g zs) (Ev g a ++ scl k (smP g i b))
  | [], i, a => ⟨a, fun x => by
    show _ = tot (Ev g a ++ []) x % c
    rw [List.append_nil]⟩
  | n :: b, i, a => by
    obtain ⟨z1, h1⟩ := ev_add (c := c) g (k * n) i a
    obtain ⟨z2, h2⟩ := ev_adds (c := c) g k b (i + 1) z1
    refine ⟨z2, fun x => ?_⟩
    have e1 := mod_sub.mp (h1 x)
    have e2 := mod_sub.mp (h2 x)
    rw [tot_app, tot_scl] at e1
    rw [tot_app, tot_scl] at e2
    refine mod_sub.mpr ?_
    show (tot (Ev g z2) x - tot (Ev g a ++ scl k (scl n (pw g i) ++ smP g (i + 1) b)) x) % c = 0
    rw [tot_app, tot_scl, tot_app, tot_scl]
    have e3 := Int.dvd_add (Int.dvd_of_emod_eq_zero e1) (Int.dvd_of_emod_eq_zero e2)
    rw [show tot (Ev g z1) x - (tot (Ev g a) x + k * n * tot (pw g i) x) + (tot (Ev g z2) x - (tot (Ev g z1) x + k * tot (smP g (i + 1) b) x)) = tot (Ev g z2) x - (tot (Ev g a) x + k * (n * tot (pw g i) x + tot (smP g (i + 1) b) x)) by grind] at e3
    exact Int.emod_eq_zero_of_dvd e3
/-- what is left of a sum is a sum -/
theorem evT_sub {c : Int} (g : Tb) : ∀ (fs ns : List Int) (T : Tb), ∃ zs, zs.length = fs.length ∧ Lk c (EvT g zs (T ++ scl (-1) (Ev g (ns.drop fs.length)))) (EvT g fs T ++ scl (-1) (Ev g ns))
  | [], ns, T => ⟨[], rfl, Lk.refl _ _⟩
  | f :: fs, [], T => by
    obtain ⟨zs, h1, h2⟩ := evT_sub (c := c) g fs [] T
    refine ⟨f :: zs, by rw [List.length_cons, h1, List.length_cons], fun x => ?_⟩
    rw [List.drop_nil] at h2 ⊢
    have h3 := Lk.prs_r g h2 x
    show tot (("", f) :: prs g (EvT g zs (T ++ scl (-1) (Ev g [])))) x % c = tot (((("" : Str), f) :: prs g (EvT g fs T)) ++ []) x % c
    rw [List.append_nil, tot_cons, tot_cons, Int.add_emod, h3, ← Int.add_emod]
    have e : EvT g fs T ++ scl (-1) (Ev g []) = EvT g fs T := List.append_nil _
    rw [e]
  | f :: fs, n :: ns, T => by
    obtain ⟨zs, h1, h2⟩ := evT_sub (c := c) g fs ns T
    refine ⟨(f - n) :: zs, by rw [List.length_cons, h1, List.length_cons], fun x => ?_⟩
    have h3 := Lk.prs_r g h2 x
    show tot (("", f - n) :: prs g (EvT g zs (T ++ scl (-1) (Ev g (ns.drop fs.length))))) x % c = tot ((("" : Str), f) :: prs g (EvT g fs T) ++ scl (-1) (("", n) :: prs g (Ev g ns))) x % c
    rw [tot_cons, Int.add_emod, h3, ← Int.add_emod, prs_app_r, tot_app, tot_prs_scl]
    have e : (("" : Str), f) :: prs g (EvT g fs T) ++ scl (-1) (("", n) :: prs g (Ev g ns)) = [(("" : Str), f)] ++ prs g (EvT g fs T) ++ scl (-1) (("", n) :: prs g (Ev g ns)) := rfl
    rw [e, tot_app, tot_app, tot_scl, tot_cons, tot_cons, tot_nil]
    congr 1
    show (if ("" : Str) = x then f - n else 0) + _ = (if ("" : Str) = x then f else 0) + 0 + _ + -1 * ((if ("" : Str) = x then n else 0) + _)
    split <;> grind
theorem pw_cnt (g : Tb) : ∀ i, (pw g i).length = g.length ^ i
  | 0 => rfl
  | i + 1 => by
    show (prs (pw g i) g).length = _
    rw [prs_len, pw_cnt g i, Nat.pow_succ]
/-- the words of a sum of powers: so many at most -/
theorem smP_cnt (g : Tb) : ∀ (ns : List Int) (i : Nat), (smP g i ns).length = ((List.range ns.length).map fun j => g.length ^ (i + j)).sum
  | [], i => rfl
  | n :: ns, i => by
    have ih := smP_cnt g ns (i + 1)
    show (scl n (pw g i) ++ smP g (i + 1) ns).length = _
    have e : (scl n (pw g i)).length = g.length ^ i := by
      unfold scl
      rw [List.length_map, pw_cnt]
    rw [List.length_append, e, ih, List.length_cons, List.range_succ_eq_map, List.map_cons, List.sum_cons, List.map_map]
    congr 2
    refine List.map_congr_left fun j _ => ?_
    show g.length ^ (i + 1 + j) = g.length ^ (i + (j + 1))
    rw [Nat.add_assoc, Nat.add_comm 1 j]
theorem tot_key {l : Tb} {x : Str} (h : tot l x ≠ 0) : x ∈ l.map (·.1) := by
  by_cases e : x ∈ l.map (·.1)
  · exact e
  · exact absurd (tot_not e) h
/-- no more words than there are in what makes it -/
theorem len_keys {c : Int} {T : Tb} {ks : List Str} (t : Tt c T) (h : ∀ x, tot T x % c ≠ 0 → x ∈ ks) : T.length ≤ ks.length := by
  have := nodup_len (l := T.map (fun p : Str × Int => p.1)) (m := ks) t.nd fun x hx => by
    obtain ⟨p, hp, rfl⟩ := List.mem_map.mp hx
    exact h _ (tt_at t hp)
  rwa [List.length_map] at this
end Fp

set_option Elab.async false
set_option linter.all false
set_option maxRecDepth 100000
set_option maxHeartbeats 4000000
namespace Fp
open PySem PySem.Spec PyProof.Rows L2
theorem smP_81 {g : Tb} (hg : g.length ≤ 3) : ∀ (ns : List Int) (i : Nat), i + ns.length ≤ 5 → (smP g i ns).length ≤ 81 * ns.length
  | [], _, _ => Nat.le_refl _
  | n :: ns, i, h => by
    have ih := smP_81 hg ns (i + 1) (by rw [List.length_cons] at h; omega)
    show (scl n (pw g i) ++ smP g (i + 1) ns).length ≤ 81 * (ns.length + 1)
    have e : (scl n (pw g i)).length = g.length ^ i := by
      unfold scl
      rw [List.length_map, pw_cnt]
    have h1 : g.length ^ i ≤ 3 ^ i := Nat.pow_le_pow_left hg i
    have h2 : (3 : Nat) ^ i ≤ 81 := by
      rw [List.length_cons] at h
      have : i = 0 ∨ i = 1 ∨ i = 2 ∨ i = 3 ∨ i = 4 := by omega
      rcases this with rfl | rfl | rfl | rfl | rfl <;> decide
    rw [List.length_append, e]
    omega
theorem ev_key {c : Int} (g : Tb) {ns : List Int} {x : Str} (h : tot (Ev g ns) x % c ≠ 0) : x ∈ (smP g 0 ns).map (·.1) := tot_key fun z => by
  rw [← smP_ev g ns x, z, Int.zero_emod] at h
  exact h rfl
theorem ev_wlen {c : Int} {h : Str} {g : Tb} {ns : List Int} {x : Str} {m : Nat} (hck : isCk c) (hg : Ld c g h) (hl : ns.length ≤ m + 1) (hx : tot (Ev g ns) x % c ≠ 0) : x.length ≤ m * h.length := by
  rw [← smP_ev g ns x] at hx
  obtain ⟨n, _, h1, h2⟩ := smP_key g ns 0 hx
  have h3 := pw_len hck hg h2
  have := Nat.mul_le_mul_right h.length (show n ≤ m by omega)
  omega
/-- the sizes while a long sum is divided -/
theorem hsz_sum {c : Int} {h : Str} {g l : Tb} {ns : List Int} (hck : isCk c) (hg : Ld c g h) (hh : 0 < h.length) (h7 : h.length ≤ 7) (vg : VT c 7 3 g) (hl : Lk c l (Ev g ns)) (hn : ns.length ≤ 5) :
    ∀ (fs : List Int) (T : Tb), Tt c T → (∀ p ∈ T, xyz p.1) → T ≠ [] → Lk c l (EvT g fs T) → ∃ m k M U, VT c m k T ∧ k ≤ 2500 ∧ UW (canon g) T M U := fun fs T t x _ e => by
  have h1 := peel hck hg hh fs ns (e.symm.trans hl)
  have hk : (ns.drop fs.length).length ≤ 5 := by rw [List.length_drop]; omega
  generalize ns.drop fs.length = ks at h1 hk
  have h2 : T.length ≤ 405 := by
    have h3 := len_keys t (ks := (smP g 0 ks).map (·.1)) fun y hy => ev_key g (by rw [← h1 y]; exact hy)
    have h4 := smP_81 vg.ln ks 0 (by omega)
    rw [List.length_map] at h3
    omega
  have v : VT c 28 405 T := ⟨t.nd, t.rg, fun p hp => ⟨x p hp, by
    have h3 := tt_at t hp
    rw [h1 p.1] at h3
    have := ev_wlen (m := 4) hck hg (by omega) h3
    have := Nat.mul_le_mul_left 4 h7
    omega⟩, h2⟩
  exact ⟨28, 405, 28, _, v, by decide, uw_suf v (vt_canon vg) (by decide) (by decide)⟩
theorem ld_one {c : Int} (hck : isCk c) (v : Str) : Ld c [(v, (1 : Int))] v := by
  have := ck_range hck
  exact ld_of (by decide) (by omega) fun p hp => by cases hp
theorem one_at {v x : Str} {c : Int} (h : tot [(v, (1 : Int))] x % c ≠ 0) : x = v := by
  have := tot_key (l := [(v, (1 : Int))]) (x := x) fun z => by rw [z, Int.zero_emod] at h; exact h rfl
  simpa using this
theorem one_of {c : Int} {g l : Tb} {v : Str} {ns : List Int} (hl : Lk c l (Ev g ns ++ [(v, 1)])) : Lk c [(v, (1 : Int))] (l ++ scl (-1) (Ev g ns)) := fun x => by
  have h1 := mod_sub.mp (hl x)
  rw [tot_app] at h1
  refine mod_sub.mpr ?_
  rw [tot_app, tot_scl]
  have h2 := Int.dvd_neg.mpr (Int.dvd_of_emod_eq_zero h1)
  rw [show -(tot l x - (tot (Ev g ns) x + tot [(v, (1 : Int))] x)) = tot [(v, (1 : Int))] x - (tot l x + -1 * tot (Ev g ns) x) by grind] at h2
  exact Int.emod_eq_zero_of_dvd h2
/-- the same where a word of twelve letters is added -/
theorem hsz_more {c : Int} {h v : Str} {g l : Tb} {ns : List Int} (hck : isCk c) (hg : Ld c g h) (h7 : h.length = 7) (hv : v.length = 12) (vg : VT c 7 3 g) (hl : Lk c l (Ev g ns ++ [(v, 1)])) (hn : ns.length ≤ 3) :
    ∀ (fs : List Int) (T : Tb), Tt c T → (∀ p ∈ T, xyz p.1) → T ≠ [] → Lk c l (EvT g fs T) → ∃ m k M U, VT c m k T ∧ k ≤ 2500 ∧ UW (canon g) T M U := fun fs T t x _ e => by
  have hh : 0 < h.length := by omega
  obtain ⟨zs, z1, z2⟩ := evT_sub (c := c) g fs ns T
  have h1 : Lk c [(v, (1 : Int))] (EvT g zs (T ++ scl (-1) (Ev g (ns.drop fs.length)))) := (one_of hl).trans ((Lk.app e (Lk.refl c (scl (-1) (Ev g ns)))).trans z2.symm)
  have hk : (ns.drop fs.length).length ≤ 3 := by rw [List.length_drop]; omega
  generalize ns.drop fs.length = ks at h1 hk
  have key : ∀ y, tot T y % c ≠ 0 → tot (Ev g ks) y % c ≠ 0 ∨ y = v ∨ y.length ≤ 5 := fun y hy => by
    by_cases a : tot (Ev g ks) y % c = 0
    · right
      have h2 : tot (T ++ scl (-1) (Ev g ks)) y % c ≠ 0 := by
        rw [tot_app, tot_scl, Int.add_emod, Int.mul_emod, a, Int.mul_zero, Int.zero_emod, Int.add_zero, Int.emod_emod_of_dvd _ (Int.dvd_refl c)]
        exact hy
      cases zs with
      | nil =>
        left
        refine one_at (c := c) ?_
        rw [h1 y]
        exact h2
      | cons z r =>
        right
        have := evT_short hck hg hh h1 (m := 12) (fun w hw => by rw [one_at hw, hv]; exact Nat.le_refl _) h2
        rw [h7, List.length_cons] at this
        omega
    · exact .inl a
  have h2 : T.length ≤ 608 := by
    have h3 := len_keys t (ks := (smP g 0 ks).map (·.1) ++ v :: (allL 5).map fun z => (⟨z.toArray⟩ : Str)) fun y hy => by
      rcases key y hy with a | a | a
      · exact List.mem_append_left _ (ev_key g a)
      · exact List.mem_append_right _ (by rw [a]; exact List.mem_cons_self)
      · refine List.mem_append_right _ (List.mem_cons_of_mem _ (List.mem_map.mpr ⟨y.cps.toList, allL_mem 5 _ ?_ ?_, PySem.W.str_of_cps rfl⟩))
        · obtain ⟨p, hp, rfl⟩ := tt_key hy
          exact x p hp
        · rw [Array.length_toList]
          exact a
    have h4 := smP_81 vg.ln ks 0 (by omega)
    have h5 : (allL 5).length = 364 := rfl
    rw [List.length_append, List.length_map, List.length_cons, List.length_map, h5] at h3
    omega
  have v' : VT c 14 608 T := ⟨t.nd, t.rg, fun p hp => ⟨x p hp, by
    rcases key p.1 (tt_at t hp) with a | a | a
    · have := ev_wlen (m := 2) hck hg (by omega) a
      omega
    · rw [a, hv]
      decide
    · omega⟩, h2⟩
  exact ⟨14, 608, 14, _, v', by decide, uw_suf v' (vt_canon vg) (by decide) (by decide)⟩
theorem none_more {c : Int} {h v : Str} {g l : Tb} {ns : List Int} {r : Option (List Int)} (hck : isCk c) (hg : Ld c g h) (h7 : h.length = 7) (hv : v.length = 12) (hl : Lk c l (Ev g ns ++ [(v, 1)])) (hr : Res c g l r) : r = none := by
  cases r with
  | none => rfl
  | some ks =>
    exfalso
    obtain ⟨zs, hz⟩ := ev_adds (c := c) g (-1) ns 0 ks
    have h1 : Rep c g [(v, 1)] := ⟨zs, (one_of hl).trans ((Lk.app hr.1 (Lk.scl (-1) (smP_ev g ns).symm)).trans hz.symm)⟩
    obtain ⟨j, hj⟩ := rep_lead hck hg (by omega) (ld_one hck v) h1
    rw [hv, h7] at hj
    omega
/-- the base in a longer bag -/
theorem hsz_base {c : Int} {h w : Str} {g l : Tb} (hck : isCk c) (hg : Ld c g h) (h14 : h.length = 14) (hl : Ld c l w) (h7 : w.length = 7) (vg : VT c 14 13 g) (vl : VT c 7 3 l) :
    ∀ (fs : List Int) (T : Tb), Tt c T → (∀ p ∈ T, xyz p.1) → T ≠ [] → Lk c l (EvT g fs T) → ∃ m k M U, VT c m k T ∧ k ≤ 2500 ∧ UW (canon g) T M U := fun fs T t x hT e => by
  have hw : ∀ x, tot l x % c ≠ 0 → x.length ≤ 7 := fun x hx => by
    obtain ⟨p, hp, rfl⟩ := tt_key hx
    exact (vl.wd p hp).2
  obtain ⟨p0, hp0⟩ := List.exists_mem_of_ne_nil _ hT
  have h1 := evT_short hck hg (by omega) e hw (tt_at t hp0)
  cases fs with
  | cons f fs =>
    rw [h14, List.length_cons] at h1
    omega
  | nil =>
    have e' : Lk c l T := e
    have h2 : T.length ≤ 3 := by
      have h3 := len_keys t (ks := l.map (·.1)) fun y hy => tot_key fun z => by
        rw [← e' y, z, Int.zero_emod] at hy
        exact hy rfl
      rw [List.length_map] at h3
      exact Nat.le_trans h3 vl.ln
    have v : VT c 7 3 T := ⟨t.nd, t.rg, fun p hp => ⟨x p hp, hw p.1 (by rw [e' p.1]; exact tt_at t hp)⟩, h2⟩
    exact ⟨7, 3, 7, _, v, by decide, uw_suf v (vt_canon vg) (by decide) (by decide)⟩
theorem none_base {c : Int} {h w : Str} {g l : Tb} {r : Option (List Int)} (hck : isCk c) (hg : Ld c g h) (h14 : h.length = 14) (hl : Ld c l w) (h7 : w.length = 7) (hr : Res c g l r) : r = none := by
  cases r with
  | none => rfl
  | some ks =>
    exfalso
    obtain ⟨j, hj⟩ := rep_lead hck hg (by omega) hl ⟨ks, hr.1⟩
    rw [h7, h14] at hj
    omega
/-- the fourth power -/
theorem pw4 {c : Int} (g : Tb) : Lk c (pw g 4) (Ev g [0, 0, 0, 0, 1]) := Lk.trans (fun x => by
  show tot (pw g 4) x % c = tot (scl 0 (pw g 0) ++ (scl 0 (pw g 1) ++ (scl 0 (pw g 2) ++ (scl 0 (pw g 3) ++ (scl 1 (pw g 4) ++ []))))) x % c
  rw [tot_app, tot_app, tot_app, tot_app, tot_app, tot_scl, tot_scl, tot_scl, tot_scl, tot_scl, tot_nil]
  congr 1
  omega) (smP_ev g [0, 0, 0, 0, 1])
theorem ld_three {c n : Int} {w v : Str} (hck : isCk c) (hw : w.length = 7) (hv : v.length = 2) : Ld c [(w, 1), (v, n), (("" : Str), 1)] w := by
  have := ck_range hck
  refine ld_of (by decide) (by omega) fun p hp => ?_
  have hp' : p = (v, n) ∨ p = (("" : Str), 1) := by simpa using hp
  rcases hp' with rfl | rfl
  · show v.length < w.length
    omega
  · rw [hw]
    decide
theorem vt_three {c n : Int} {w v : Str} (hck : isCk c) (hw : w.length = 7) (hv : v.length = 2) (xw : xyz w) (xv : xyz v) (h1 : 1 ≤ n) (h2 : n < c) : VT c 7 3 [(w, 1), (v, n), (("" : Str), 1)] := by
  have := ck_range hck
  have h0 : ("" : Str).length = 0 := rfl
  refine ⟨?_, fun p hp => ?_, fun p hp => ?_, Nat.le_refl _⟩
  · show [w, v, ("" : Str)].Nodup
    have a1 : w ≠ v := fun e => by rw [e] at hw; omega
    have a2 : w ≠ "" := fun e => by rw [e] at hw; omega
    have a3 : v ≠ "" := fun e => by rw [e] at hv; omega
    simp [a1, a2, a3]
  all_goals
    have hp' : p = (w, 1) ∨ p = (v, n) ∨ p = (("" : Str), 1) := by simpa using hp
    rcases hp' with rfl | rfl | rfl
  · exact ⟨Int.le_refl 1, by show (1 : Int) < c; omega⟩
  · exact ⟨h1, h2⟩
  · exact ⟨Int.le_refl 1, by show (1 : Int) < c; omega⟩
  · exact ⟨xw, by show w.length ≤ 7; omega⟩
  · exact ⟨xv, by show v.length ≤ 7; omega⟩
  · exact ⟨by decide, by decide⟩
theorem ld_bag {c n0 n1 n2 : Int} {h : Str} {g l : Tb} (hck : isCk c) (hg : Ld c g h) (hh : h.length = 7) (h1 : 1 ≤ n2) (h2 : n2 < c) (hl : Lk c l (Ev g [n0, n1, n2])) : ∃ u, Ld c l u ∧ u.length = 14 := by
  have hk : Ld c [(("" : Str), n2)] "" := ld_of h1 h2 fun p hp => by cases hp
  obtain ⟨u, h3, h4⟩ := ld_evT hck hg (by omega) hk [n0, n1]
  refine ⟨u, h4.lk ?_, ?_⟩
  · have e : Ev g [n0, n1, n2] = EvT g [n0, n1] [(("" : Str), n2)] := by
      show (("" : Str), n0) :: prs g ((("" : Str), n1) :: prs g ((("" : Str), n2) :: prs g [])) = (("" : Str), n0) :: prs g ((("" : Str), n1) :: prs g [(("" : Str), n2)])
      rw [prs_nil_r]
    rw [← e]
    exact hl.symm
  · rw [h3, hh]
    rfl
theorem cut24 {z : Str} (h : z.length = 7) (x : xyz z) : (cutS z (some 2) (some 4)).length = 2 ∧ xyz (cutS z (some 2) (some 4)) := by
  have e : (cutS z (some 2) (some 4)).cps.toList = (z.cps.toList.drop 2).take 2 := by
    unfold cutS
    rw [show HT.sIx z.length 0 (some 2) = min 2 z.length from HT.sIx_nat _ _ 2, show HT.sIx z.length z.length (some 4) = min 4 z.length from HT.sIx_nat _ _ 4, h]
    rfl
  refine ⟨?_, fun k hk => x k ?_⟩
  · have := congrArg List.length e
    rw [List.length_take, List.length_drop, Array.length_toList, Array.length_toList] at this
    have h7 : z.cps.size = 7 := h
    show (cutS z (some 2) (some 4)).cps.size = 2
    omega
  · rw [e] at hk
    exact List.mem_of_mem_drop (List.mem_of_mem_take hk)
theorem cut1 {z : Str} (h : z.length = 7) (x : xyz z) : (cutS z (some 1) none).length = 6 ∧ xyz (cutS z (some 1) none) := by
  have e : (cutS z (some 1) none).cps.toList = z.cps.toList.drop 1 := cut_back_list (k := 1) (by omega)
  refine ⟨?_, fun k hk => x k ?_⟩
  · have := congrArg List.length e
    rw [List.length_drop, Array.length_toList, Array.length_toList] at this
    have h7 : z.cps.size = 7 := h
    show (cutS z (some 1) none).cps.size = 6
    omega
  · rw [e] at hk
    exact List.mem_of_mem_drop hk
end Fp

set_option Elab.async false
set_option linter.all false
set_option maxRecDepth 100000
set_option maxHeartbeats 4000000
namespace Fp
open PySem PySem.Spec PyProof.Rows L2
section
variable {P : Program} {w : World} {K : PySem.W.Frag} {mg : Str → Option Value} {base : Heap}
def spLng : Sp := fun vs H Q _ => ∃ (h ca : Addr) (c : Int), vs = [.ref h, .int c] ∧ HandAt ca H h ∧ isCk c ∧ ∀ H', HandAt ca H' h → But h H H' → Q (.bl true) H'
abbrev nLng : List Str := ["_law_hand_here", "_law_clock_here", "_law_word_here", "_law_base_here", "_law_numbers", "_law_bag", "_law_at", "_law_more", "_law_step"]
theorem sc_lng : FnScope nLng ["_law_hand_here", "_law_clock_here"] (defScope s__law_long) := ⟨rfl, rfl, rfl, by decide +kernel, rfl, by decide +kernel, by decide +kernel⟩
theorem ok_lng (T : Top K mg) : ∃ fd, FnG P w K mg base 9 (He.fAd K ("_law_long", none)) fd ["_law_hand_here", "_law_clock_here"] spLng ∧ Binds K fd ["_law_hand_here", "_law_clock_here"] [] ∧ PySem.W.keepIn K (.ref (He.fAd K ("_law_long", none))) = true := by
  obtain ⟨fd, F⟩ := fn__law_long T
  refine ⟨fd, ?_, F.bindsN fun _ _ _ _ _ _ us hl => match us, hl with | [_, _], _ => rfl, F.kp⟩
  refine F.okG sc_lng (fun vs H Q E h => ?_) (fun cdv A outer s H vs Q E hG hr h => ?_)
  · obtain ⟨h, ca, c, rfl, _⟩ := h
    rfl
  · obtain ⟨h, ca, c, rfl, hh, hck, q⟩ := h
    have nd := sc_lng.nd
    have hu := hu_of hr
    have hs : sizeLine = 16777216 := sizeLine_eq
    obtain ⟨hc2, hc7⟩ := ck_range hck
    have hc0 : 0 < c := by omega
    have hr1 : Room 1 _ := hr.mono (by decide)
    have hr6 : Room 6 _ := hr.mono (by decide)
    have hr7 : Room 7 _ := hr.mono (by decide)
    refine ⟨_, PSs.nox (pss_cons (ps_set (i := 2) nd rfl (Or.inl rfl) (pe_join pe_str (pe_lc (own := [("_law_step", 8)]) (g := gName 8) (tt := tYes) rfl nd (pi_range1 (by rfl) (f_range T) (pa_cons pe_int pa_nil))
        (blkOk_by (N := nLng) (sc := defScope s__law_long) (by decide +kernel)) (fun _ _ _ _ _ => pg_name (i := 8) nd rfl (Or.inl rfl)) (fun _ _ _ _ _ => pts_nil)
        (fun _ _ _ _ _ => pe_item_str pe_str (pc (ok_draw T) hr1 (pa_cons (pv 0) (pa_cons pe_int pa_nil))) (fun _ _ => rfl)))))
      (pss_cons (ps_set (i := 3) nd rfl (Or.inl rfl) (pbag T hr6 (pa_cons (pv 1) (pa_cons (pe_disp (pps_cons (pv 2) pe_int (pps_cons (pe_slice sl_str (pv 2) (po_some pe_int) (po_some pe_int)) (pe_op op_add pe_int (pc (ok_draw T) hr1 (pa_cons (pv 0) (pa_cons (pe_op op_sub (pv 1) pe_int) pa_nil)))) (pps_cons pe_str pe_int pps_nil))) (by rfl) (by rfl) (fun z => by cases z) (by decide)) pa_nil))))
      (pss_cons (ps_set (i := 4) nd rfl (Or.inl rfl) (pe_lst (pa_cons (pc (ok_draw T) hr1 (pa_cons (pv 0) (pa_cons (pv 1) pa_nil))) (pa_cons (pc (ok_draw T) hr1 (pa_cons (pv 0) (pa_cons (pv 1) pa_nil))) (pa_cons (pe_op op_add pe_int (pc (ok_draw T) hr1 (pa_cons (pv 0) (pa_cons (pe_op op_sub (pv 1) pe_int) pa_nil)))) pa_nil)))))
      (pss_cons (ps_set (i := 5) nd rfl (Or.inl rfl) (pbag T hr6 (pa_cons (pv 1) (pa_cons pe_dnewK pa_nil))))
      (pss_cons (ps_for PassesOwn.never rfl (pi_range1 (by rfl) (f_range T) (pa_cons pe_int pa_nil)) (pg_name (i := 6) nd rfl (Or.inl rfl))
        (pss_one (ps_set (i := 5) nd rfl (Or.inl rfl) (pcL (ok_together T) hr (pa_cons (pv 5) (pa_cons (pc (ok_times T) hr (pa_cons (pc (ok_power T) hr (pa_cons (pv 3) (pa_cons (pv 6) pa_nil))) (pa_cons (pe_ix ix_list (pv 4) (pv 6) (fun _ _ => rfl)) pa_nil))) pa_nil))))))
      (pss_cons (ps_set (i := 7) nd rfl (Or.inl rfl) (pcL (ok_together T) hr (pa_cons (pv 5) (pa_cons (pcL (ok_behind T) hr
          (pa_cons (pbag T hr6 (pa_cons (pv 1) (pa_cons (pe_disp (pps_cons (pe_slice sl_str (pv 2) (po_some pe_int) po_none) pe_int pps_nil) (by rfl) (by rfl) (fun z => by cases z) (by decide)) pa_nil)))
          (pa_cons (pbag T hr6 (pa_cons (pv 1) (pa_cons (pe_disp (pps_cons (pe_slice sl_str (pv 2) (po_some pe_int) po_none) pe_int pps_nil) (by rfl) (by rfl) (fun z => by cases z) (by decide)) pa_nil))) pa_nil))) pa_nil))))
      (pss_cons (ps_if (PW.pt (pw_or (pt_cmpR op_ne (pe_callB (cr_repr hG hr.units) (by rfl) (f_repr T) (by decide +kernel) (pa_cons (pc (ok_inp T) hr7 (pa_cons (pv 5) (pa_cons (pv 3) pa_nil))) pa_nil)) (pe_callB (cr_repr hG hr.units) (by rfl) (f_repr T) (by decide +kernel) (pa_cons (pe_callTy call_tupleF (by rfl) (f_tuple T) (by decide +kernel) (pa_cons (pv 4) pa_nil)) pa_nil)) (nomark _))
          (pw_or1 (pt_cmpR op_ne (pe_callB (cr_repr hG hr.units) (by rfl) (f_repr T) (by decide +kernel) (pa_cons (pc (ok_inp T) hr7 (pa_cons (pc (ok_power T) hr (pa_cons (pv 3) (pa_cons pe_int pa_nil))) (pa_cons (pv 3) pa_nil))) pa_nil)) (pe_callB (cr_repr hG hr.units) (by rfl) (f_repr T) (by decide +kernel) (pa_cons (pe_tup (pa_cons pe_int (pa_cons pe_int (pa_cons pe_int (pa_cons pe_int (pa_cons pe_int pa_nil)))))) pa_nil)) (nomark _))))) (pss_one (ps_ret pe_bl)) pss_nil)
      (pss_one (ps_ret (pe_and (pe_cmp (pc_isN (pc (ok_inp T) hr7 (pa_cons (pv 7) (pa_cons (pv 3) pa_nil))))) (pe_one (pe_cmp (pc_isN (pc (ok_inp T) hr7 (pa_cons (pv 3) (pa_cons (pv 5) pa_nil)))))))))))))))), ?_⟩
    refine ⟨⟨_, rfl⟩, ?_⟩
    refine ⟨7, rfl, by omega, by omega, fun D hD => ?_⟩
    have nhD : h ≠ D := by
      obtain ⟨xs, hx⟩ := hh.lst
      exact ne_of_none hx hD
    have ncD : ca ≠ D := by
      obtain ⟨xs, hx⟩ := hh.cells
      exact ne_of_none hx hD
    have hz : xyz "xyz" := by decide
    refine lc_it walk_range (fun i H' => (∃ ys : List Str, H' D = some (.lst (ys.map V.str)) ∧ ys.length = i ∧ ∀ y ∈ ys, ∃ c, y = ⟨#[c]⟩ ∧ (c = 120 ∨ c = 121 ∨ c = 122)) ∧ HandAt ca H' h ∧ But h H H')
      ⟨⟨[], upd_same, rfl, fun y hy => (by cases hy)⟩, hh.same (same_upd hD), But.of (same_upd hD)⟩ (fun _ _ _ _ => trivial) ?_ ?_
    · rintro i x H2 H3 hi ⟨⟨ys, p1, p2, p3⟩, p4, p5⟩ ⟨rfl, rfl⟩
      have hi7 : i < 7 := hi
      refine ⟨rfl, ?_⟩
      refine ⟨_, rfl, h, ca, 3, rfl, by decide, by decide, p4, fun r2 H4 hr3 hr4 hh4 k4 => ?_⟩
      obtain ⟨n, rfl⟩ : ∃ n : Nat, r2 = n := ⟨r2.toNat, (Int.toNat_of_nonneg hr3).symm⟩
      have hn : n < ("xyz" : Str).cps.size := by
        have : ("xyz" : Str).cps.size = 3 := rfl
        omega
      refine ⟨"xyz", _, ("xyz" : Str).cps[n], rfl, rfl, by omega, by omega, hr4, ?_, ?_⟩
      · rw [Int.toNat_natCast, Array.getElem?_eq_getElem hn]
      · refine ⟨_, k4 _ _ p1 nhD.symm, ?_, ⟨ys ++ [⟨#[("xyz" : Str).cps[n]]⟩], ?_, ?_, ?_⟩, ?_, ?_⟩
        · rw [List.length_map]
          omega
        · rw [upd_same, List.map_append]
          rfl
        · rw [List.length_append, p2]
          rfl
        · intro y hy
          rcases List.mem_append.mp hy with hy | hy
          · exact p3 y hy
          · have : y = ⟨#[("xyz" : Str).cps[n]]⟩ := by simpa using hy
            exact ⟨_, this, hz _ (by simp)⟩
        · exact hh4.off (d := D) but_upd nhD ncD
        · intro b o z' n'
          have nb : b ≠ D := ne_of_none z' hD
          rw [upd_ne nb]
          exact k4 b o (p5 b o z' n') n'
    rintro H1 ⟨⟨ys, p1, p2, p3⟩, hh1, k1⟩
    obtain ⟨j1, j2⟩ := join_signs ys p3
    have p2' : ys.length = 7 := p2
    refine ⟨_, D, ys, rfl, rfl, .inl (.inl (.inl p1)), ?_, ?_⟩
    · have e : (ys.map (·.length)).sum = ys.length := by
        clear p1 p2 j1 j2 p2'
        induction ys with
        | nil => rfl
        | cons y r ih =>
          obtain ⟨c, rfl, _⟩ := p3 y List.mem_cons_self
          rw [List.map_cons, List.sum_cons, ih fun w hw => p3 w (List.mem_cons_of_mem _ hw), List.length_cons]
          show 1 + r.length = _
          omega
      rw [e]
      show ys.length + ys.length * 0 ≤ _
      omega
    have w7 : (PySem.Txt.join "" ys).length = 7 := j2.trans p2'
    generalize PySem.Txt.join "" ys = wd at j1 w7 ⊢
    clear p1 p2 p3 j2 p2' hD nhD ncD ys
    obtain ⟨v2l, v2x⟩ := cut24 w7 j1
    obtain ⟨v1l, v1x⟩ := cut1 w7 j1
    -- the base
    refine ⟨_, rfl, fun p np => ?_⟩
    have nhp : h ≠ p := by
      obtain ⟨xs, hx⟩ := hh1.lst
      exact ne_of_none hx np
    have ncp : ca ≠ p := by
      obtain ⟨xs, hx⟩ := hh1.cells
      exact ne_of_none hx np
    refine ⟨_, rfl, _, rfl, 2, rfl, 4, rfl, wd, rfl, by omega, ?_⟩
    refine ⟨_, rfl, _, rfl, _, _, rfl, rfl, h, ca, c - 1, rfl, by omega, by omega, hh1.same (same_upd np), fun r0 H2 g0 g1 hh2 k2 => ⟨_, _, rfl, rfl, ?_⟩⟩
    have vg : VT c 7 3 [(wd, 1), (cutS wd (some 2) (some 4), 1 + r0), (("" : Str), 1)] := vt_three hck w7 v2l j1 v2x (by omega) (by omega)
    have hld : Ld c [(wd, 1), (cutS wd (some 2) (some 4), 1 + r0), (("" : Str), 1)] wd := ld_three hck w7 v2l
    refine ⟨k2 _ _ upd_same nhp.symm, kv [(wd, 1), (cutS wd (some 2) (some 4), 1 + r0), (("" : Str), 1)], rfl, Nat.le_of_ble_eq_true rfl, ?_⟩
    rw [merge_kv vg.nd]
    generalize [(wd, (1 : Int)), (cutS wd (some 2) (some 4), 1 + r0), (("" : Str), 1)] = g at vg hld ⊢
    have kb : But h H (upd H2 p (.dK (kv g))) := fun y o zz n => by
      have := k1 _ _ zz n
      rw [upd_ne (ne_of_none this np)]
      exact k2 _ _ (same_upd np _ _ this) n
    replace hh2 : HandAt ca (upd H2 p (.dK (kv g))) h := hh2.off but_upd nhp ncp
    have ep : (upd H2 p (.dK (kv g))) p = some (.dK (kv g)) := upd_same
    generalize upd H2 p (.dK (kv g)) = H3 at kb hh2 ep ⊢
    refine fun b1 dx1 hb1 hdx1 ne1 => ?_
    refine ⟨b1, p, dx1, c, g, rfl, upd_same, hck, made_dict ep hb1 hdx1, vg.mono (by decide) (by decide), fun H4 k4 hB1 => ⟨rfl, ?_⟩⟩
    have s4 := made_same k4 hb1 hdx1
    have g1' : Bg K H4 b1 c 7 3 g := ⟨hB1, vg⟩
    replace hh2 := hh2.same s4
    replace kb : But h H H4 := fun y o zz n => s4 _ _ (kb _ _ zz n)
    clear hB1 k4 s4 ep
    -- the numbers
    refine ⟨_, rfl, _, rfl, h, ca, c, rfl, hc0, by omega, hh2, fun n0 H5 a0 a1 hh5 k5 => ?_⟩
    replace g1' := g1'.but k5 hh2.lst
    refine ⟨_, rfl, _, rfl, h, ca, c, rfl, hc0, by omega, hh5, fun n1 H6 a2 a3 hh6 k6 => ?_⟩
    replace g1' := g1'.but k6 hh5.lst
    refine ⟨_, rfl, _, rfl, _, _, rfl, rfl, h, ca, c - 1, rfl, by omega, by omega, hh6, fun n2 H7 a4 a5 hh7 k7 => ⟨_, _, rfl, rfl, ?_⟩⟩
    replace g1' := g1'.but k7 hh6.lst
    replace kb := kb.trans (k5.trans (k6.trans k7))
    have rg : Rg c [n0, n1, 1 + n2] := fun k hk => by
      have hk' : k = n0 ∨ k = n1 ∨ k = 1 + n2 := by simpa using hk
      rcases hk' with rfl | rfl | rfl <;> omega
    have hnz : NZ [n0, n1, 1 + n2] := fun k hk => by
      have e : 1 + n2 = k := Option.some.inj hk
      omega
    refine ⟨by show 3 ≤ sizeLine; omega, fun N nN => ?_⟩
    have s8 := same_upd (o := .lst [.int n0, .int n1, .int (1 + n2)]) nN
    have eN : (upd H7 N (.lst [.int n0, .int n1, .int (1 + n2)])) N = some (.lst ([n0, n1, 1 + n2].map V.int)) := upd_same
    replace hh7 := hh7.same s8
    replace kb : But h H (upd H7 N (.lst [.int n0, .int n1, .int (1 + n2)])) := fun y o zz n => s8 _ _ (kb _ _ zz n)
    replace g1' := g1'.same s8
    generalize upd H7 N (.lst [.int n0, .int n1, .int (1 + n2)]) = H8 at hh7 kb g1' eN ⊢
    have hlz : ∀ l, Lk c l (Ev g [n0, n1, 1 + n2]) → ∃ u, Ld c l u ∧ u.length = 14 := fun l hl => ld_bag hck hld w7 (by omega) (by omega) hl
    have hl3 : [n0, n1, 1 + n2].length = 3 := rfl
    generalize [n0, n1, 1 + n2] = ns at rg hnz eN hlz hl3
    clear k5 k6 k7 s8 nN hh5 hh6 hh1 k1 k2 np nhp ncp
    -- the bag
    refine ⟨_, rfl, fun D0 nD0 => ?_⟩
    refine fun b2 dx2 hb2 hdx2 ne2 => ?_
    refine ⟨b2, D0, dx2, c, [], rfl, upd_same, hck, made_dict upd_same hb2 hdx2, (vt_nil c 12).mono (Nat.le_refl _) (by decide), fun H9 k9 hB2 => ⟨rfl, ?_⟩⟩
    have s9 := (same_upd nD0).trans (made_same k9 hb2 hdx2)
    refine ⟨3, rfl, by omega, by omega, ?_⟩
    refine for_it walk_range (fun i σ H' => ∃ (b : Addr) (l : Tb) (k : Nat) (v6 : Option V), σ = [some (.ref h), some (.int c), some (.str wd), some (.ref b1), some (.ref N), some (.ref b), v6, none, none] ∧ Bg K H' b c 14 k l ∧ 2 * k + 1 = 3 ^ i ∧ Lk c l (smP g 0 (ns.take i)) ∧ Same H8 H')
      ⟨b2, [], 0, none, rfl, ⟨hB2, vt_nil c 14⟩, rfl, Lk.refl _ _, s9⟩ (fun _ _ _ _ _ => trivial) ?_ ?_
    · rintro i x σ Ha Hb hi ⟨b, l, k, v6, rfl, gB, hk, lk, sa⟩ ⟨rfl, hx⟩
      obtain rfl : x = V.int (i : Int) := hx.trans (congrArg V.int (by omega))
      clear hx
      have hi3 : i < 3 := hi
      have h3i : (3 : Nat) ^ i ≤ 9 := by
        have : i = 0 ∨ i = 1 ∨ i = 2 := by omega
        rcases this with rfl | rfl | rfl <;> decide
      have hin : i < ns.length := by omega
      have en : (ns.map V.int)[i]? = some (.int ns[i]) := by rw [List.getElem?_map, List.getElem?_eq_getElem hin]; rfl
      refine ⟨_, rfl, _, rfl, _, rfl, b1, c, i, 7, 3, g, rfl, g1'.same sa, hck, by omega, by decide, by decide, by omega, fun Hc r1 t1 sc _ gp lp => ?_⟩
      refine ⟨_, rfl, _, rfl, N, _, _, _, rfl, rfl, SqL.of (sc _ _ (sa _ _ eN)), atI_nat en, ?_⟩
      refine ⟨r1, ns[i], c, 7 * i, 3 ^ i, t1, rfl, gp, hck, by omega, by omega, fun Hd r2 t2 sd _ gt lt => ?_⟩
      refine ⟨b, r2, c, c, 14, k, 7 * i, 3 ^ i, l, t2, rfl, gB.same (sc.trans sd), gt, hck, by decide, by omega, by omega, fun _ He r3 t3 se _ gt3 lt3 => ?_, fun z => absurd rfl z⟩
      refine ⟨r3, t3, k + 3 ^ i, _, rfl, gt3.mono (Nat.max_le.mpr ⟨Nat.le_refl _, by omega⟩) (Nat.le_refl _), by rw [Nat.pow_succ]; omega, fun y => ?_, sa.trans (sc.trans (sd.trans se))⟩
      rw [smP_take (c := c) g ns hin y]
      exact (lt3.trans (Lk.app lk (lt.trans (Lk.scl ns[i] lp)))) y
    rintro σ H10 ⟨b, lb, k, v6, rfl, gB, hk, lk, s10⟩
    have hk13 : k = 13 := by
      have : 2 * k + 1 = 27 := hk
      omega
    subst hk13
    rw [List.take_of_length_le (by rw [hl3]; exact Nat.le_refl _)] at lk
    replace lk := lk.trans (smP_ev g ns)
    replace g1' := g1'.same s10
    replace eN := s10 _ _ eN
    replace hh7 := hh7.same s10
    replace kb : But h H H10 := fun y o zz n => s10 _ _ (kb _ _ zz n)
    clear s10 s9 hk hB2 k9 hb2 hdx2 nD0
    -- more
    have vW : VT c 6 1 [(cutS wd (some 1) none, (1 : Int))] := ⟨by show [cutS wd (some 1) none].Nodup; simp, fun p hp => by rw [List.mem_singleton.mp hp]; exact ⟨Int.le_refl 1, by show (1 : Int) < c; omega⟩, fun p hp => by rw [List.mem_singleton.mp hp]; exact ⟨v1x, by show (cutS wd (some 1) none).length ≤ 6; omega⟩, Nat.le_refl _⟩
    refine ⟨_, rfl, _, rfl, fun p np => ?_⟩
    refine ⟨_, rfl, 1, rfl, wd, rfl, by omega, ?_⟩
    refine ⟨upd_same, kv [(cutS wd (some 1) none, 1)], rfl, Nat.le_of_ble_eq_true rfl, ?_⟩
    rw [upd_upd, merge_kv vW.nd]
    refine fun b3 dx3 hb3 hdx3 ne3 => ?_
    refine ⟨b3, p, dx3, c, _, rfl, upd_same, hck, made_dict upd_same hb3 hdx3, vW.mono (by decide) (by decide), fun H11 k11 hB3 => ⟨rfl, ?_⟩⟩
    have s11 := (same_upd np).trans (made_same k11 hb3 hdx3)
    refine ⟨_, rfl, fun p2 np2 => ?_⟩
    refine ⟨_, rfl, 1, rfl, wd, rfl, by omega, ?_⟩
    refine ⟨upd_same, kv [(cutS wd (some 1) none, 1)], rfl, Nat.le_of_ble_eq_true rfl, ?_⟩
    rw [upd_upd, merge_kv vW.nd]
    refine fun b4 dx4 hb4 hdx4 ne4 => ?_
    refine ⟨b4, p2, dx4, c, _, rfl, upd_same, hck, made_dict upd_same hb4 hdx4, vW.mono (by decide) (by decide), fun H12 k12 hB4 => ⟨rfl, ?_⟩⟩
    have s12 := (same_upd np2).trans (made_same k12 hb4 hdx4)
    refine ⟨b3, b4, c, c, 6, 1, 6, 1, _, _, rfl, ⟨hB3.same s12, vW⟩, ⟨hB4, vW⟩, hck, by decide, by decide, by decide, fun _ H13 r5 t5 s13 _ g5 l5 => ?_, fun z => absurd rfl z⟩
    have s1013 := s11.trans (s12.trans s13)
    refine ⟨b, r5, c, c, 14, 13, 6 + 6, 1 * 1, lb, t5, rfl, gB.same s1013, g5, hck, by decide, by decide, by decide, fun _ H14 m tm s14 _ gM lM => ?_, fun z => absurd rfl z⟩
    have s1014 := s1013.trans s14
    replace gB := gB.same s1014
    replace g1' := g1'.same s1014
    replace eN := s1014 _ _ eN
    replace hh7 := hh7.same s1014
    replace kb : But h H H14 := fun y o zz n => s1014 _ _ (kb _ _ zz n)
    have lM2 : Lk c tm (Ev g ns ++ [(cutS wd (some 1) none ++ cutS wd (some 1) none, 1)]) := lM.trans (Lk.app lk l5)
    have vv12 : (cutS wd (some 1) none ++ cutS wd (some 1) none).length = 12 := by rw [len_app]; omega
    generalize cutS wd (some 1) none ++ cutS wd (some 1) none = vv at lM2 vv12
    clear s1013 s1014 s14 s13 s12 s11 hB3 hB4 k11 k12 lM l5 g5
    have hw0 : 0 < wd.length := by omega
    have hex : ∃ h, Ld c g h ∧ 0 < h.length := ⟨wd, hld, hw0⟩
    -- told
    refine ⟨_, rfl, _, rfl, b, b1, c, 14, 13, 7, 3, lb, g, rfl, gB, g1', hck, hex, by decide, by decide, by decide, by decide, hsz_sum hck hld hw0 (by omega) vg lk (by omega), fun H15 x r s15 res opt => ?_⟩
    have er : r = some ns := res_uniq hck hld hw0 res ⟨lk, rg, hnz⟩
    subst er
    have shw := res_show hc7 res fun zs e => by
      cases Option.some.inj e
      omega
    refine ⟨x, some ns, rfl, opt_rd opt, shw, ?_⟩
    refine ⟨_, rfl, N, _, rfl, SqL.of (s15 _ _ eN), fun t o nt _ => ?_⟩
    refine ⟨.ref t, some ns, rfl, ⟨t, rfl, .inl (.inr ⟨o, upd_same⟩)⟩, shw, ?_⟩
    refine ⟨rfl, _, rfl, ?_⟩
    rw [decide_eq_true rfl]
    refine ite2 (fun z => absurd z (by decide)) (fun _ => ?_)
    have s16 : Same H14 (upd H15 t (.frz o (.tup (ns.map V.int)))) := s15.trans (same_upd nt)
    replace gB := gB.same s16
    replace gM := gM.same s16
    replace g1' := g1'.same s16
    replace hh7 := hh7.same s16
    replace kb := fun y o zz n => s16 _ _ (kb y o zz n)
    generalize upd H15 t (.frz o (.tup (ns.map V.int))) = H16 at gB gM g1' hh7 kb ⊢
    clear s16 s15 nt opt
    refine ⟨_, rfl, b1, c, 4, 7, 3, g, rfl, g1', hck, by decide, by decide, by decide, by decide, fun H17 r6 t6 s17 _ g6 l6 => ?_⟩
    refine ⟨_, rfl, r6, b1, c, 7 * 4, 3 ^ 4, 7, 3, t6, g, rfl, g6, g1'.same s17, hck, hex, by decide, by decide, by decide, by decide, hsz_sum hck hld hw0 (by omega) vg (l6.trans (pw4 g)) (by decide), fun H18 x2 r2 s18 res2 opt2 => ?_⟩
    have rg4 : Rg c [0, 0, 0, 0, 1] := fun k hk => by
      have hk' : k = 0 ∨ k = 1 := by simpa using hk
      rcases hk' with rfl | rfl <;> omega
    have er2 : r2 = some [0, 0, 0, 0, 1] := res_uniq hck hld hw0 res2 ⟨l6.trans (pw4 g), rg4, fun k hk => by
      cases Option.some.inj hk
      decide⟩
    subst er2
    have shw2 := res_show hc7 res2 fun zs e => by
      cases Option.some.inj e
      decide
    refine ⟨x2, some [0, 0, 0, 0, 1], rfl, opt_rd opt2, shw2, ?_⟩
    refine ⟨by show 5 ≤ sizeLine; omega, fun t2 nt2 => ?_⟩
    refine ⟨.ref t2, some [0, 0, 0, 0, 1], rfl, ⟨t2, rfl, SqT.of upd_same⟩, shw2, ?_⟩
    refine ⟨rfl, _, rfl, ?_⟩
    rw [decide_eq_true rfl]
    refine iteF ?_
    have s19 := s17.trans (s18.trans (same_upd (o := .tup [.int 0, .int 0, .int 0, .int 0, .int 1]) nt2))
    replace gB := gB.same s19
    replace gM := gM.same s19
    replace g1' := g1'.same s19
    replace hh7 := hh7.same s19
    replace kb := fun y o zz n => s19 _ _ (kb y o zz n)
    -- none
    refine ⟨_, rfl, _, rfl, m, b1, c, max 14 (6 + 6), 13 + 1 * 1, 7, 3, tm, g, rfl, gM, g1', hck, hex, by decide, by decide, by decide, by decide, hsz_more hck hld w7 vv12 vg lM2 (by omega), fun H20 x3 r3 s20 res3 opt3 => ?_⟩
    have er3 := none_more hck hld w7 vv12 lM2 res3
    subst er3
    have ex3 : x3 = .non := opt3
    subst ex3
    refine ⟨_, rfl, ?_⟩
    rw [decide_eq_true rfl]
    refine iteT ?_
    obtain ⟨ub, hub, hub14⟩ := hlz lb lk
    refine ⟨_, rfl, _, rfl, b1, b, c, 7, 3, 14, 13, g, lb, rfl, g1'.same s20, gB.same s20, hck, ⟨ub, hub, by omega⟩, by decide, by decide, by decide, by decide, hsz_base hck hub hub14 hld w7 gB.2 vg, fun H21 x4 r4 s21 res4 opt4 => ?_⟩
    have er4 := none_base hck hub hub14 hld w7 res4
    subst er4
    have ex4 : x4 = .non := opt4
    subst ex4
    have s2021 := s20.trans s21
    show Q (.bl (decide (V.non = V.non))) H21
    rw [decide_eq_true (show V.non = V.non from rfl)]
    exact q H21 (hh7.same s2021) (fun y o zz n => s2021 _ _ (kb y o zz n))
end
end Fp

set_option Elab.async false
set_option linter.all false
set_option maxRecDepth 100000
set_option maxHeartbeats 4000000
namespace Fp
open PySem PySem.Spec PyProof.Rows L2
theorem res_self {c : Int} (g : Tb) (hc : 2 ≤ c) : Res c g g (some [0, 1]) := by
  refine ⟨fun x => ?_, fun k hk => ?_, fun k hk => ?_⟩
  · show tot g x % c = tot (("", 0) :: prs g (("", 1) :: prs g [])) x % c
    rw [prs_nil_r, prs_one_r, tot_cons]
    congr 1
    split <;> omega
  · have hk' : k = 0 ∨ k = 1 := by simpa using hk
    rcases hk' with rfl | rfl <;> omega
  · have e : (1 : Int) = k := Option.some.inj hk
    omega
theorem res_nil {c : Int} (g : Tb) : Res c g [] (some []) := ⟨Lk.refl _ _, (fun k hk => by cases hk), (fun k hk => by cases hk)⟩
theorem res_num {c n : Int} (g : Tb) (h1 : 1 ≤ n) (h2 : n < c) : Res c g [("", n)] (some [n]) := by
  refine ⟨fun x => ?_, fun k hk => ?_, fun k hk => ?_⟩
  · show tot [(("" : Str), n)] x % c = tot (("", n) :: prs g []) x % c
    rw [prs_nil_r]
  · rw [List.mem_singleton.mp hk]
    omega
  · have e : n = k := Option.some.inj hk
    omega
section
variable {P : Program} {w : World} {K : PySem.W.Frag} {mg : Str → Option Value} {base : Heap}
theorem pc_sums {X : Cx} {p pos : Pos} {e1 e2 e3 : Expr} {t : TA} (T : Top X.K X.mg) (hG : Gd X.A) (hr : Room 11 X.A) (ha : PA X [e1, e2, e3] t) (hg : Gl X "_law_sums" := by rfl)
    (he : starEach [e1, e2, e3] X.env = (false, eval e1 X.env) :: starEach [e2, e3] X.env := by rfl) (hpl : (backTo pos (starEach [e2, e3] X.env)).any (·.1) = false := by rfl) : PE X (.Call (.Name "_law_sums" p) [e1, e2, e3] [] pos) (tCall spSums [] E0 t) := by
  obtain ⟨fd, F, b, k⟩ := ok_sums (P := X.prog) (w := X.w) (base := X.base) T
  exact pe_callG F hG hr hg (g__law_sums T) k b ha (by decide) he hpl
theorem pc_lng {X : Cx} {p pos : Pos} {e1 e2 : Expr} {t : TA} (T : Top X.K X.mg) (hG : Gd X.A) (hr : Room 9 X.A) (ha : PA X [e1, e2] t) (hg : Gl X "_law_long" := by rfl)
    (he : starEach [e1, e2] X.env = (false, eval e1 X.env) :: starEach [e2] X.env := by rfl) (hpl : (backTo pos (starEach [e2] X.env)).any (·.1) = false := by rfl) : PE X (.Call (.Name "_law_long" p) [e1, e2] [] pos) (tCall spLng [] E0 t) := by
  obtain ⟨fd, F, b, k⟩ := ok_lng (P := X.prog) (w := X.w) (base := X.base) T
  exact pe_callG F hG hr hg (g__law_long T) k b ha (by decide) he hpl
def spLaw (K : PySem.W.Frag) : Sp := fun vs H Q _ => ∃ (a : Addr) (ns : List Int), vs = [.ref a] ∧ SqL K H a (ns.map V.int) ∧ ∀ H', Q (.bl true) H'
abbrev nLaw : List Str := ["_law_script", "_law_hand_here", "_law_turn", "_law_clock_here", "_law_base_here", "_law_bag", "_law_number"]
theorem sc_law : FnScope nLaw ["_law_script"] (defScope s_law) := ⟨rfl, rfl, rfl, by decide +kernel, rfl, by decide +kernel, by decide +kernel⟩
theorem ok_law (T : Top K mg) {fd : FuncData} (F : FnP K "law" "law" s_law (He.fAd K ("law", none)) fd) : FnG P w K mg base 12 (He.ga K "law") fd ["_law_script"] (spLaw K) := by
  refine F.okG sc_law (fun vs H Q E h => ?_) (fun cdv A outer s H vs Q E hG hr h => ?_)
  · obtain ⟨a, ns, rfl, _⟩ := h
    rfl
  · obtain ⟨a, ns, rfl, hS, q⟩ := h
    have nd := sc_law.nd
    have hs : sizeLine = 16777216 := sizeLine_eq
    have hr1 : Room 1 _ := hr.mono (by decide)
    have hr2 : Room 2 _ := hr.mono (by decide)
    have hr4 : Room 4 _ := hr.mono (by decide)
    have hr5 : Room 5 _ := hr.mono (by decide)
    have hr9 : Room 9 _ := hr.mono (by decide)
    have hr10 : Room 10 _ := hr.mono (by decide)
    refine ⟨_, PSs.nox (pss_cons (ps_set (i := 1) nd rfl (Or.inl rfl) (pc (ok_hand T) hr1 (pa_cons (pv 0) pa_nil)))
      (pss_cons (ps_if (pt_not (pt_val (pc_lng T hG hr9 (pa_cons (pv 1) (pa_cons (pc (ok_ck T) hr2 (pa_cons (pv 1) pa_nil)) pa_nil))))) (pss_one (ps_ret pe_bl)) pss_nil)
      (pss_cons (ps_for PassesOwn.never rfl (pi_range1 (by rfl) (f_range T) (pa_cons pe_int pa_nil)) (pg_name (i := 2) nd rfl (Or.inl rfl))
        (pss_cons (ps_set (i := 3) nd rfl (Or.inl rfl) (pc (ok_ck T) hr2 (pa_cons (pv 1) pa_nil)))
        (pss_cons (ps_set (i := 4) nd rfl (Or.inl rfl) (pc (ok_base T) hr5 (pa_cons (pv 1) (pa_cons (pv 3) pa_nil))))
        (pss_cons (ps_if (PW.pt (pw_or (pt_not (pt_val (pc_sums T hG hr (pa_cons (pv 1) (pa_cons (pv 3) (pa_cons (pv 4) pa_nil))))))
            (pw_or1 (pt_not (pt_val (pc_told T hG hr10 (pa_cons (pv 3) (pa_cons (pv 4) (pa_cons (pv 4) (pa_cons (pe_tup (pa_cons pe_int (pa_cons pe_int pa_nil))) pa_nil)))))))))) (pss_one (ps_ret pe_bl)) pss_nil)
        (pss_cons (ps_set (i := 5) nd rfl (Or.inl rfl) (pc (ok_lot T) hr4 (pa_cons (pv 1) (pa_cons (pv 3) (pa_cons pe_str (pa_cons pe_int (pa_cons pe_int pa_nil)))))))
        (pss_cons (ps_if (PW.pt (pw_or (pt_not (pt_val (pc_told T hG hr10 (pa_cons (pv 3) (pa_cons (pv 5) (pa_cons (pv 4) (pa_cons (pc (ok_taken T) hr4 (pa_cons (pv 3) (pa_cons (pv 5) (pa_cons (pv 4) pa_nil)))) pa_nil)))))))
            (pw_or1 (pt_not (pt_val (pc_told T hG hr10 (pa_cons (pv 3) (pa_cons pe_dnewK (pa_cons (pv 4) (pa_cons (pe_tup pa_nil) pa_nil)))))))))) (pss_one (ps_ret pe_bl)) pss_nil)
        (pss_cons (ps_set (i := 6) nd rfl (Or.inl rfl) (pe_op op_add pe_int (pc (ok_draw T) hr1 (pa_cons (pv 1) (pa_cons (pe_op op_sub (pv 3) pe_int) pa_nil)))))
        (pss_one (ps_if (pt_not (pt_val (pc_told T hG hr10 (pa_cons (pv 3) (pa_cons (pe_disp (pps_cons pe_str (pv 6) pps_nil) (by rfl) (by rfl) (fun z => by cases z) (by decide)) (pa_cons (pv 4) (pa_cons (pe_tup (pa_cons (pv 6) pa_nil)) pa_nil))))))) (pss_one (ps_ret pe_bl)) pss_nil)))))))))
      (pss_one (ps_ret pe_bl))))), ?_⟩
    refine ⟨_, rfl, a, ns, rfl, hS, fun H1 h ca _ _ hh => ?_⟩
    refine ⟨_, rfl, _, rfl, h, ca, rfl, hh, fun H2 c0 hh2 _ hck0 => ?_⟩
    refine ⟨h, ca, c0, rfl, hh2, hck0, fun H3 hh3 _ => ⟨true, rfl, iteF ?_⟩⟩
    refine ⟨3, rfl, by omega, by omega, ?_⟩
    refine for_it walk_range (fun i σ H' => (∃ v2 v3 v4 v5 v6 : Option V, σ = [some (.ref a), some (.ref h), v2, v3, v4, v5, v6]) ∧ HandAt ca H' h)
      ⟨⟨none, none, none, none, none, rfl⟩, hh3⟩ (fun _ _ _ _ _ => trivial) ?_ ?_
    · rintro i x σ Ha Hb hi ⟨⟨v2, v3, v4, v5, v6, rfl⟩, hha⟩ ⟨rfl, rfl⟩
      refine ⟨_, rfl, h, ca, rfl, hha, fun H4 c hh4 _ hck => ?_⟩
      obtain ⟨hc2, hc7⟩ := ck_range hck
      have hc0 : 0 < c := by omega
      refine ⟨_, rfl, _, rfl, h, ca, c, rfl, hh4, hc2, hc7, fun H5 G g hh5 _ _ eG vg ⟨u, hld, hu0⟩ => ?_⟩
      refine ⟨_, rfl, _, rfl, _, rfl, h, ca, G, c, g, u, rfl, hh5, hck, eG, vg, hld, hu0, fun H6 hh6 k6 => ⟨true, rfl, iteF ?_⟩⟩
      replace eG := k6 _ _ eG (hh5.neD eG)
      refine ⟨_, rfl, _, rfl, _, rfl, by show 2 ≤ sizeLine; omega, fun t nt => ?_⟩
      have st := same_upd (o := .tup [.int 0, .int 1]) nt
      refine ⟨c, G, G, .ref t, g, g, u, some [0, 1], rfl, hck, st _ _ eG, st _ _ eG, vg.mono (by decide) (by decide), vg, hld, hu0, ⟨t, rfl, SqT.of upd_same⟩, res_self g hc2, fun zs e => by cases Option.some.inj e; decide, fun H7 s7 => ⟨true, rfl, iteF ?_⟩⟩
      replace s7 := st.trans s7
      replace eG := s7 _ _ eG
      have hh7 := hh6.same s7
      refine ⟨_, rfl, _, rfl, h, ca, c, "xyz", 4, 4, rfl, hh7, hc2, hc7, by decide, by decide, by decide, by decide, by decide, fun H8 B l hh8 k8 _ eB vB => ?_⟩
      replace eG := k8 _ _ eG (hh7.neD eG)
      have v4' : VT c 4 121 l := vB.mono (Nat.le_refl _) (by decide)
      have hl4 : ∀ x, tot l x % c ≠ 0 → x.length ≤ 4 := fun x hx => by
        obtain ⟨p, hp, rfl⟩ := tt_key (T := l) hx
        exact (vB.wd p hp).2
      refine ⟨_, rfl, _, rfl, _, rfl, _, rfl, _, rfl, _, rfl, c, B, G, l, g, u, rfl, hck, eB, eG, vB.mono (Nat.le_refl _) (by decide), vg, hld, hu0, fun H9 x r s9 res opt => ?_⟩
      refine ⟨c, B, G, x, l, g, u, r, rfl, hck, s9 _ _ eB, s9 _ _ eG, v4', vg, hld, hu0, opt, res, fun zs e => Nat.le_trans (res_len hck hld hu0 hl4 res zs e) (by decide), fun H10 s10 => ⟨true, rfl, iteF ?_⟩⟩
      have s810 := s9.trans s10
      replace eG := s810 _ _ eG
      have hh10 := hh8.same s810
      refine ⟨_, rfl, fun D nD => ?_⟩
      have sD := same_upd (o := .dK []) nD
      have eD : (upd H10 D (.dK [])) D = some (.dK (kv [])) := upd_same
      generalize upd H10 D (.dK []) = H11 at sD eD ⊢
      refine ⟨_, rfl, by show 0 ≤ sizeLine; omega, fun t2 nt2 => ?_⟩
      have st2 := same_upd (o := .tup []) nt2
      refine ⟨c, D, G, .ref t2, [], g, u, some [], rfl, hck, st2 _ _ eD, st2 _ _ (sD _ _ eG), (vt_nil c 4).mono (Nat.le_refl _) (by decide), vg, hld, hu0, ⟨t2, rfl, SqT.of upd_same⟩, res_nil g, fun zs e => by cases Option.some.inj e; decide, fun H12 s12 => ⟨true, rfl, iteF ?_⟩⟩
      have s1012 := sD.trans (st2.trans s12)
      replace eG := s1012 _ _ eG
      have hh12 := hh10.same s1012
      refine ⟨_, rfl, _, rfl, _, _, rfl, rfl, h, ca, c - 1, rfl, by omega, by omega, hh12, fun n H13 g0 g1 hh13 k13 => ⟨_, _, rfl, rfl, ?_⟩⟩
      replace eG := k13 _ _ eG (hh12.neD eG)
      refine ⟨_, rfl, fun D2 nD2 => ?_⟩
      have vN : VT c 4 1 [(("" : Str), 1 + n)] := ⟨by show [(("" : Str))].Nodup; simp, fun p hp => by rw [List.mem_singleton.mp hp]; exact ⟨by show 1 ≤ 1 + n; omega, by show 1 + n < c; omega⟩, fun p hp => by rw [List.mem_singleton.mp hp]; exact ⟨(show xyz "" by decide), (show ("" : Str).length ≤ 4 by decide)⟩, Nat.le_refl _⟩
      refine ⟨_, rfl, ?_⟩
      refine ⟨upd_same, kv [("", 1 + n)], rfl, Nat.le_of_ble_eq_true rfl, ?_⟩
      rw [upd_upd, merge_kv vN.nd]
      have sD2 := same_upd (o := .dK (kv [("", 1 + n)])) nD2
      have eD2 : (upd H13 D2 (.dK (kv [("", 1 + n)]))) D2 = some (.dK (kv [("", 1 + n)])) := upd_same
      generalize upd H13 D2 (.dK (kv [("", 1 + n)])) = H14 at sD2 eD2 ⊢
      refine ⟨_, rfl, _, rfl, by show 1 ≤ sizeLine; omega, fun t3 nt3 => ?_⟩
      have st3 := same_upd (o := .tup [.int (1 + n)]) nt3
      refine ⟨c, D2, G, .ref t3, [("", 1 + n)], g, u, some [1 + n], rfl, hck, st3 _ _ eD2, st3 _ _ (sD2 _ _ eG), vN.mono (Nat.le_refl _) (by decide), vg, hld, hu0, ⟨t3, rfl, SqT.of upd_same⟩, res_num g (by omega) (by omega), fun zs e => by cases Option.some.inj e; exact (show 1 ≤ 1000 by decide), fun H15 s15 => ⟨true, rfl, iteF ?_⟩⟩
      exact ⟨⟨_, _, _, _, _, rfl⟩, hh13.same (sD2.trans (st3.trans s15))⟩
    · rintro σ Ha ⟨⟨v2, v3, v4, v5, v6, rfl⟩, hha⟩
      exact q _
end
end Fp

set_option Elab.async false
set_option linter.all false
set_option maxRecDepth 100000
set_option maxHeartbeats 2000000
/-! the end of a law whose defs show things with repr: nothing is being shown where it is called -/
namespace L2
open PySem PySem.Spec PyProof.Rows
section
variable {P : Program} {w : World} {K : PySem.W.Frag} {s₁ : Shared} {a : Addr} {vs : List Value} {ns : List Int}
/-- what is tracked at the start: the script, where it is none of the module's own objects -/
theorem start_hp (KX : K.In s₁.heap) (ha : s₁.heap.get? a = some { cls := .type "list", data := .seq vs.toArray }) (hi : IntsAre vs ns) (hl : ns.length ≤ sizeLine) :
    ∃ H : Hp, Only H ∧ SqL K H a (ns.map V.int) ∧ HOk P w H s₁.heap ∧ ∀ b, H b ≠ none → b = a ∧ K.lookup a = none := by
  have rv := vals_ints hi
  have lv := hi.length
  rcases hk : K.lookup a with _ | o
  · let o1 : HO := .frz { cls := .type "list", data := .seq vs.toArray } (.lst (ns.map V.int))
    have e1 : upd (fun _ => none) a o1 a = some o1 := upd_same
    have e2 : ∀ b, b ≠ a → upd (fun _ => none) a o1 b = none := fun b n => upd_ne n
    refine ⟨upd (fun _ => none) a o1, fun b => ?_, .inl (.inr ⟨_, e1⟩), fun b u z => ?_, fun b z => ?_⟩
    · by_cases n : b = a
      · subst n
        exact .inr ⟨_, _, e1⟩
      · exact .inl (e2 b n)
    · by_cases n : b = a
      · subst n
        rw [e1] at z
        cases z
        exact ⟨ha, by rw [List.length_map]; exact hl, vs, _, rv, ha⟩
      · rw [e2 b n] at z
        cases z
    · by_cases n : b = a
      · exact ⟨n, rfl⟩
      · exact absurd (e2 b n) z
  · have e := (KX a o hk).symm.trans ha
    injection e with e
    subst e
    exact ⟨fun _ => none, fun _ => .inl rfl, .inr ⟨_, vs.toArray, _, hk, rfl, rfl, rfl, by rw [List.size_toArray, lv]; exact hl, by simpa using rv⟩, fun b u z => (by cases (show (none : Option HO) = some u from z)), fun b z => absurd rfl z⟩
end
theorem callG {P : Program} {w : World} {K : PySem.W.Frag} {mg mb : Str → Option Value} {k : Nat} {fa a : Addr} {fd : FuncData} {x : Str} {sp : Sp} {s₁ : Shared} {vs : List Value} {ns : List Int}
    (KX : K.In s₁.heap) (nsG : s₁.heap.Ns mainGlobals mg) (nsB : s₁.heap.Ns builtinsNs mb) (bb : ∀ x : Str, x ≠ "__name__" → mb x = bootBuiltins x) (nl : s₁.heap.NoLimit) (ng : s₁.gens = #[])
    (ha : s₁.heap.get? a = some { cls := .type "list", data := .seq vs.toArray }) (hi : IntsAre vs ns) (hl : ns.length ≤ sizeLine) (hr : Room k callerA)
    (F : ∀ base : Heap, K.In base → base.Ns mainGlobals mg → FnG P w K mg base k fa fd [x] sp) (bind : ∀ (s : Shared) (u : Value), BindsTo s fd ⟨[u], []⟩ [(x, u)])
    (hsp : ∀ H : Hp, Only H → SqL K H a (ns.map V.int) → sp [.ref a] H (fun v _ => v = .bl true) fun _ _ _ => False) :
    codeAny (model P w) callerA (.call (.ref fa) ⟨[.ref a], []⟩) (fun r s' => r = .ok (.ret (.bool true)) ∧ OldK s₁.heap s'.heap ∧ s'.os = s₁.os ∧ AllBare s'.gens) s₁ := by
  obtain ⟨H, hO, hS, hok, hA⟩ := start_hp (P := P) (w := w) KX ha hi hl
  have free : ∀ {b : Addr} {o : Obj}, s₁.heap.get? b = some o → (b = a → o ≠ { cls := .type "list", data := .seq vs.toArray } ∨ K.lookup a ≠ none) → H b = none := fun {b o} e n => by
    by_cases z : H b = none
    · exact z
    · obtain ⟨rfl, hk⟩ := hA b z
      rcases n rfl with n | n
      · exact absurd (Option.some.inj (e.symm.trans ha)) n
      · exact absurd hk n
  have nsH : ∀ {b : Addr} {m : Str → Option Value}, s₁.heap.Ns b m → (hidT s₁.heap H).Ns b m := fun {b m} z => by
    obtain ⟨o, es, ep, e, d, r⟩ := z
    refine ⟨o, es, ep, hidT_get e (free e fun _ => .inl fun y => ?_), d, r⟩
    rw [y] at d
    cases d
  have inH : K.In (hidT s₁.heap H) := fun b o e => hidT_get (KX b o e) (free (KX b o e) fun y => .inr fun n => by rw [← y, e] at n; cases n)
  obtain ⟨mc, l1, l2⟩ := nl
  have e0 : Env0 P w K mg (hidT s₁.heap H) callerA [] s₁ H :=
    ⟨rfl, ⟨inH, nsH nsG, ⟨mb, nsH nsB, bb⟩, ⟨mc, nsH l1, l2⟩⟩, fun b o e => of_hidT e, Nat.le_of_eq (hidT_size _ _), trivial, fun b hb => (by cases hb), hok, .of_eq ng⟩
  refine codeAny_mono ((F _ inH (nsH nsG)).run callerA [] s₁ H ⟨[.ref a], []⟩ [.ref a] [.ref a] _ _ rfl hr e0 (bind s₁ (.ref a)) (.cons rfl .nil) (hsp H hO hS)) fun r s' h => ?_
  match r, h with
  | .error e, h => exact h.elim
  | .ok .next, h => exact h.elim
  | .ok .brk, h => exact h.elim
  | .ok .cont, h => exact h.elim
  | .ok (.ret u), ⟨v, H', os, bare, un, hok', rv, q⟩ =>
    cases (show v = V.bl true from q)
    obtain rfl : u = Value.bool true := rv
    refine ⟨rfl, OldK.of_keep fun b o e => ?_, os, bare⟩
    rcases hO b with z | ⟨ob, xs, z⟩
    · exact un.keep b o e z (fun y => by cases y) (fun y => by cases y)
    · have e1 := (hok b _ z).1
      have e2 := (hok' b _ (un.frzs b ob _ z)).1
      rw [← Option.some.inj (e1.symm.trans e)]
      exact e2
theorem walk_ofG {l : PySem.W.OpenLaw} {n k : Nat} {q : Program} {loose : List Str} {XP : (Str → Option Value) → Heap → Prop} {YP : World → Heap → Prop} {d : DefRec} {x : Str}
    (hn : l.most = some n) (hn2 : n ≤ sizeLine) (hdf : d.params.defaults = []) (hr : Room k callerA)
    (F : ∀ (w : World) (mg : Str → Option Value) (fa : Addr) (h : Heap), YP w h → h.Ns mainGlobals mg → mg d.name = some (.ref fa) →
      ∃ (K : PySem.W.Frag) (fd : FuncData) (sp : Sp), K.In h ∧ (∀ (s : Shared) (u : Value), BindsTo s fd ⟨[u], []⟩ [(x, u)]) ∧
        (∀ (H : Hp) (a : Addr) (ns : List Int), ns.length ≤ n → SqL K H a (ns.map V.int) → sp [.ref a] H (fun v _ => v = .bl true) fun _ _ _ => False) ∧ ∀ base : Heap, K.In base → base.Ns mainGlobals mg → FnG l.prog w K mg base k fa fd [x] sp) :
    PySem.W.WalkO q loose XP YP l.row.toRowW d [] (fun f vs => PySem.call f vs) := by
  refine Att.attach_call hn hdf fun w s₀ s₁ mg mb fa o pm cd doc a vs ns G Y ho hd hcd hmg hobj hints hlen hg => ?_
  obtain ⟨K, fd, sp, KX, bind, hsp, hF⟩ := F w mg fa _ Y G.T.g hmg
  exact callG KX G.T.g G.T.b G.T.builtins G.T.nolimit hg hobj hints (Nat.le_trans hlen hn2) hr hF bind fun H _ => hsp H a ns hlen
end L2

set_option Elab.async false
set_option linter.all false
set_option maxRecDepth 100000
set_option maxHeartbeats 0
namespace Fp
open PySem PySem.Spec PyProof.Rows L2
abbrev R : PySem.W.OpenRow := PySem.W.OpenLaw.row PySem.Challenge.rw_frontparts_k64_whole_sums_of_powers
abbrev hk : PySem.W.Hook := He.hookX 5 fa fn [] [] ex
def ob (s : PySem.W.SharedT) : He.AlX := He.obsX 5 fa fn [] [] ex (HandSHeadRun.getT s)
theorem ob_eq (s : PySem.W.SharedT) : ob s = hk.obs s.abs := He.obsX_eq (HandSHeadRun.getT_eq s)
def loose : List PySem.Str := "__name__" :: "BagError" :: "BadBag" :: "UnlikeClocks" :: "NoNumber" :: "IsNothing" :: "IsNumber" :: "CLOCKS" :: "LETTERS" :: "is_integer" :: "is_from_to" :: "is_clock" :: "is_word" :: "INVERSES" :: "inverse" :: "rank_of" :: "first_word" :: "tidied" :: "scaled" :: "added" :: "multiplied" :: "MOST_WORDS" :: "MOST_LETTERS" :: "MOST_POWER" :: "Bag" :: "are_words" :: "is_short_word" :: "pairs_of" :: "bag_of" :: "table_of" :: "check_clocks" :: "check_something" :: "together" :: "behind" :: "times" :: "power" :: "length" :: "reduced" :: "reduce_at" :: "start_of" :: "take_off" :: "divided" :: "change_places" :: "check_no_number" :: "in_powers" :: "_law_hand" :: "_law_draw" :: "_law_put" :: "_law_plus" :: "_law_product" :: "_law_order" :: "_law_clock" :: "_law_word" :: "_law_lot" :: "_law_powers" :: "_law_sum_of" :: "_law_size" :: "_law_base" :: "_law_short" :: "_law_taken" :: "_law_told" :: "_law_sums" :: "_law_long" :: []
theorem run_false (w0 : World) : (fun w => HandSHeadRun.RunEqI R (PySem.W.view R.prog [0, 70]) hk ob 20000 loose w) (w0.withFollow "special-get-raises" false) := by
  show HandSHeadRun.RunEqI _ _ _ _ _ _ _
  unfold HandSHeadRun.RunEqI
  kernel_rfl
theorem run_true (w0 : World) : (fun w => HandSHeadRun.RunEqI R (PySem.W.view R.prog [0, 70]) hk ob 20000 loose w) (w0.withFollow "special-get-raises" true) := by
  show HandSHeadRun.RunEqI _ _ _ _ _ _ _
  unfold HandSHeadRun.RunEqI
  kernel_rfl
theorem run (w : World) : HandSHeadRun.RunEqI R (PySem.W.view R.prog [0, 70]) hk ob 20000 loose w := PySem.W.byRow2 "special-get-raises" (P := fun w => HandSHeadRun.RunEqI R (PySem.W.view R.prog [0, 70]) hk ob 20000 loose w) run_false run_true w
theorem top_of {w : World} {h h' : Heap} {K : PySem.W.Frag} {mg : Str → Option Value} (X : K.In h) (G : h.Ns mainGlobals mg) (c : He.SaysX fa fn [] [] ex w h' K) : Top K mg := ⟨⟨h, X, G⟩, c.t.d, c.more⟩
end Fp

set_option Elab.async false
set_option linter.all false
set_option maxRecDepth 100000
set_option maxHeartbeats 8000000
open PySem PySem.W PySem.Calls PyProof.Rows
theorem PySem.Challenge.cw_frontparts_k64_whole_sums_of_powers_holds : PySem.Challenge.rw_frontparts_k64_whole_sums_of_powers.Holds := by
  w_on; o_law
  refine HandSHeadRun.head_imp (r := OpenLaw.row PySem.Challenge.rw_frontparts_k64_whole_sums_of_powers) (q := view (OpenLaw.row PySem.Challenge.rw_frontparts_k64_whole_sums_of_powers).prog [0, 70]) (H := Fp.hk) (ob := Fp.ob) (M := 20000) (loose := Fp.loose) (d := HandSHeadRun.topDef (OpenLaw.row PySem.Challenge.rw_frontparts_k64_whole_sums_of_powers).prog 70) (kwd := []) Fp.ob_eq
    Fp.run (by kernel_rfl) (by kernel_rfl) (by kernel_rfl) (by rfl) (by first | assumption | decide +kernel) (by decide +kernel) ⟨rfl, rfl, rfl, rfl, rfl, by decide +kernel⟩ ?hw ?hc
  case hw => w_witness2
  case hc =>
    refine L2.walk_ofG (l := PySem.Challenge.rw_frontparts_k64_whole_sums_of_powers) (n := 63) (k := 12) (x := "_law_script") rfl (by decide) (by kernel_rfl) ⟨rfl, by decide, by decide⟩ ?F
    intro w mg fa h Y G hmg0
    obtain ⟨K, KX, c⟩ := Y
    have hmg : mg ("law" : PySem.Str) = some (.ref fa) := by
      have e : (HandSHeadRun.topDef (OpenLaw.row PySem.Challenge.rw_frontparts_k64_whole_sums_of_powers).prog 70).name = ("law" : PySem.Str) := by kernel_rfl
      rw [← e]
      exact hmg0
    have T := Fp.top_of KX G c
    obtain ⟨fd, F⟩ := Fp.fn_law T
    have e := hmg.symm.trans (Fp.g_law T)
    cases e
    have b := L2.FunD.bindsA (ps := ["_law_script"]) F fun _ _ _ _ _ _ us hl => match us, hl with | [_], _ => rfl
    exact ⟨K, fd, Fp.spLaw K, KX, fun s v => b s [v] rfl, fun H a ns hl hS => ⟨a, ns, rfl, hS, fun _ => rfl⟩, fun base _ _ => Fp.ok_law T F⟩
